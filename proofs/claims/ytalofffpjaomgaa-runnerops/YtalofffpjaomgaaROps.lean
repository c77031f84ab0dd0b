/- RunnerOps, walked. -/
import Derived.Test.YtalofffpjaomgaaRDuo
import Derived.Test.YtalofffpjaomgaaMathV
import Derived.Deep.QuietTactic
import Derived.BigQuiet
namespace Go.Proofs.Ytalofffpjaomgaa
open Go.RowKit M
open O (RdO Kpk Pik Small Ints)
open O.MO (Oq Pq rightP)
set_option linter.unusedVariables false
set_option linter.unusedSimpArgs false
attribute [local go_sem ↓] Go.wp_at_zero Go.wp_at_succ

theorem small_plain {os : List Oq} {n s a k f : Int} (h : Small ⟨os, n, s, a, k, f⟩) : rightP ⟨[], n, s, a, k, f⟩ = true := by
  have h1 := (small_new h).1
  unfold rightP at h1 ⊢
  simp only [Bool.and_eq_true] at h1 ⊢
  exact ⟨by decide, h1.2⟩
theorem rows_one (p : Pq) (r : Rs) (i : Inp) : rowsR p r [i] = rowR p r i := by simp [rowsR]
theorem Ink.call {w w' : World} {b : Nat} {i : Inp} (h : Ink w b i) (hb : Below w.heap.size w w') : Ink w' b i := h.keep (hb.block b h.lt)
theorem Ink.free {w : World} {b : Nat} {i : Inp} (h : Ink w b i) (j : Nat) : w.frozen? ⟨b, j, none⟩ = false := by unfold Ink at h; simp [World.frozen?, h]
theorem Ink.ev {w : World} {b : Nat} {i : Inp} (h : Ink w b i) (y : Ev) : Ink ((((w.setCell ⟨b, 1, none⟩ (.int .i64 y.t)).setCell ⟨b, 2, none⟩ (.int .i64 y.k)).setCell ⟨b, 3, none⟩ (.int .i64 y.v)).setCell ⟨b, 4, none⟩ (.int .u64 y.l)) b ⟨i.mrk, y⟩ := by
  unfold Ink at *
  simp [World.setCell, Array.getElem?_modify, h]
/-- Two runners and what is read stay while a third one, apart, turns. -/
theorem KQ.other {W0 w w' : World} {B ba qa oa ga bb qb ob gb qi : Nat} {pa pb : Pq} {ra rb : Rs} {iu : Value} {is : List Inp} (h : KQ W0 w B ba qa oa ga bb qb ob gb qi pa pb ra rb (.slice none 0 0) (.slice none 0 0) [] [] iu is)
    {x y z z0 : Nat} (hc : Ch3 x y z w w') (hx : z0 ≤ x) (hy : z0 ≤ y) (hz : z0 ≤ z) (h1 : ba < z0 ∧ qa < z0 ∧ oa < z0 ∧ ga < z0) (h2 : bb < z0 ∧ qb < z0 ∧ ob < z0 ∧ gb < z0) (h3 : qi < z0) (h4 : W0.heap.size ≤ z0) (h5 : z0 ≤ w.heap.size) : KQ W0 w' B ba qa oa ga bb qb ob gb qi pa pb ra rb (.slice none 0 0) (.slice none 0 0) [] [] iu is := by
  have hk : ∀ g, g < z0 → w'.heap[g]? = w.heap[g]? := fun g hg => hc.other g (by omega) (by omega) (by omega) (by omega)
  have c3 : ∀ g, g < z0 → g ≠ x ∧ g ≠ y ∧ g ≠ z := fun g hg => ⟨by omega, by omega, by omega⟩
  exact ⟨⟨h.duo.a.keep hc (c3 _ h1.1) (c3 _ h1.2.1) (c3 _ h1.2.2.1) (c3 _ h1.2.2.2), h.duo.b.keep hc (c3 _ h2.1) (c3 _ h2.2.1) (c3 _ h2.2.2.1) (c3 _ h2.2.2.2), h.duo.n1, h.duo.n2, h.duo.n3, h.duo.n4⟩, World.ownsRow_nil _ _ _ _, World.ownsRow_nil _ _ _ _, h.ne, h.rd.keep hc.size (fun _ => hk qi h3), h.hq, h.hB, h.h0, h.bel.trans (hc.below (by omega) (by omega) (by omega) (by omega))⟩
/-- The same, block by block. -/
theorem KQ.other3 {W0 w w' : World} {B ba qa oa ga bb qb ob gb qi : Nat} {pa pb : Pq} {ra rb : Rs} {iu : Value} {is : List Inp} (h : KQ W0 w B ba qa oa ga bb qb ob gb qi pa pb ra rb (.slice none 0 0) (.slice none 0 0) [] [] iu is)
    {x y z : Nat} (hc : Ch3 x y z w w') (a1 : ba ≠ x ∧ ba ≠ y ∧ ba ≠ z) (a2 : qa ≠ x ∧ qa ≠ y ∧ qa ≠ z) (a3 : oa ≠ x ∧ oa ≠ y ∧ oa ≠ z) (a4 : ga ≠ x ∧ ga ≠ y ∧ ga ≠ z) (b1 : bb ≠ x ∧ bb ≠ y ∧ bb ≠ z) (b2 : qb ≠ x ∧ qb ≠ y ∧ qb ≠ z) (b3 : ob ≠ x ∧ ob ≠ y ∧ ob ≠ z) (b4 : gb ≠ x ∧ gb ≠ y ∧ gb ≠ z) (q1 : qi ≠ x ∧ qi ≠ y ∧ qi ≠ z) (hq : qi < w.heap.size) (z1 : W0.heap.size ≤ x) (z2 : W0.heap.size ≤ y) (z3 : W0.heap.size ≤ z) (z4 : W0.heap.size ≤ w.heap.size) : KQ W0 w' B ba qa oa ga bb qb ob gb qi pa pb ra rb (.slice none 0 0) (.slice none 0 0) [] [] iu is :=
  ⟨⟨h.duo.a.keep hc a1 a2 a3 a4, h.duo.b.keep hc b1 b2 b3 b4, h.duo.n1, h.duo.n2, h.duo.n3, h.duo.n4⟩, World.ownsRow_nil _ _ _ _, World.ownsRow_nil _ _ _ _, h.ne, h.rd.keep hc.size (fun _ => hc.other qi hq q1.1 q1.2.1 q1.2.2), h.hq, h.hB, h.h0, h.bel.trans (hc.below z1 z2 z3 z4)⟩

set_option maxHeartbeats 8000000 in
set_option maxRecDepth 100000 in
theorem runnerOps_walk (k : KeepIn) (la : Option Addr) (ll lc : Nat)  (w : World) (hk : IsKeep w k) (hI : Ins4 w la ll lc)  :
    Calls Try.prog 7 #[kin k, .slice la ll lc] w fun e w' => e = .returned (.bool true) ∧ Below w.heap.size w w' := by
  obtain ⟨ao, lo, co, an, ln, cn, kn, ks, kg, kk, kf⟩ := k
  unfold kin
  obtain ⟨hk1, hk2⟩ := hk
  simp only at hk1 hk2
  have hI' : Hid (Ins4 w la ll lc) := hI
  clear hI
  go_enter Try.func7, Try.ntmps7
  go_upto_region 1 with fail
  refine world_gen (fun W => Hid (Kpk W w.heap.size (.slice ao lo co) (.slice an ln cn) kn ks kg kk kf) ∧ Hid (Ints W ao lo co) ∧ Hid (Ints W an ln cn) ∧ Hid (Below w.heap.size w W)) ⟨O.kpk_new _ _ _ _ _ _ _ _, hk1.call (below_alloc _ _), hk2.call (below_alloc _ _), below_alloc _ _⟩ ?_
  clear hk1 hk2
  rintro W ⟨hK, hk1, hk2, hB⟩
  obtain ⟨g0, hg0⟩ : ∃ x, Hid (w.heap.size = x) := ⟨_, rfl⟩
  rw [hg0.out] at hK hB ⊢
  have c0 := hK.out.c0
  have c1 := hK.out.c1
  have c2 := hK.out.c2
  have c3 := hK.out.c3
  have c4 := hK.out.c4
  have c5 := hK.out.c5
  have c6 := hK.out.c6
  go_wp2_with fail
  refine (O.keep_any ao lo co an ln cn kn ks kg kk kf _ hk1.out hk2.out).mono ?_
  rintro e W1 ⟨⟨os, pn, ps, pa, pk, pf⟩, u, hS, he, ho, hu, b1⟩
  simp only at he ho
  subst he
  obtain ⟨ua, uc, rfl⟩ := own_len ho
  have hS' : Hid (Small ⟨os, pn, ps, pa, pk, pf⟩) := hS
  have hO : Hid (OpsIn W1 (.slice ua os.length uc) os) := ⟨O.own_base ho (Nat.zero_le _), (small_new hS).2.2.1⟩
  have hWz : g0 ≤ W.heap.size := by have := hB.out.size; have := hg0.out; omega
  replace hB : Hid (Below g0 w W1) := hB.out.trans (b1.mono hWz)
  clear hK hk1 hk2 c0 c1 c2 c3 c4 c5 c6 ho hu b1 hS
  go_upto_region 2 with fail
  refine world_gen (fun X => Hid (Pik X W1.heap.size (.slice ua os.length uc) pn ps pa pk pf) ∧ Hid (OpsIn X (.slice ua os.length uc) os) ∧ Hid (Below g0 w X) ∧ W1.heap.size < X.heap.size) ⟨O.pik_new _ _ _ _ _ _ _, hO.out.below (below_alloc _ _), hB.out.alloc (by have := hB.out.size; have := hg0.out; omega) _, by simp⟩ ?_
  have hgw : g0 ≤ W1.heap.size := by have := hB.out.size; have := hg0.out; omega
  clear hO hB
  generalize W1.heap.size = gp at hgw ⊢
  rintro W0 ⟨hP, hO, hB, hgp⟩
  have c0 := hP.out.c0
  have c1 := hP.out.c1
  have c2 := hP.out.c2
  have c3 := hP.out.c3
  have c4 := hP.out.c4
  have c5 := hP.out.c5
  go_upto_region 3 with fail
  clear c0 c1 c2 c3 c4 c5
  refine world_gen (fun X => Hid (Pik X gp (.slice ua os.length uc) pn ps pa pk pf) ∧ Hid (Pik X W0.heap.size (.slice ua os.length uc) pn ps pa pk pf) ∧ Hid (OpsIn X (.slice ua os.length uc) os) ∧ Hid (Below g0 w X) ∧ gp < X.heap.size) ⟨hP.out.alloc _, O.pik_new _ _ _ _ _ _ _, hO.out.below (below_alloc _ _), hB.out.alloc (by omega) _, by simp; omega⟩ ?_
  obtain ⟨gq, hgq⟩ : ∃ x, Hid (W0.heap.size = x) := ⟨_, rfl⟩
  rw [hgq.out]
  have hgpq : gp < gq := by have := hgq.out; omega
  clear hP hO hB hgp
  rintro X ⟨hP, hQ, hO, hB, hgp⟩
  have c0 := hQ.out.c0
  have f0 := hQ.out.free 0
  go_upto_region 4 with fail
  have hOn : ∀ k, (Value.slice ua os.length uc).ownBlock = some k → k ≠ gq := (fun k hk => own_typed hO.out.1 hQ.out (by decide) k hk)
  refine world_gen (fun Y => Hid (Pik Y gp (.slice ua os.length uc) pn ps pa pk pf) ∧ Hid (Pik Y gq (.slice none 0 0) pn ps pa pk pf) ∧ Hid (OpsIn Y (.slice ua os.length uc) os) ∧ Hid (Below g0 w Y) ∧ gp < Y.heap.size) ⟨hP.out.heap (Below.heap_setCell _ _ _ _ (show gp ≠ gq by omega)), hQ.out.set0 _, hO.out.keep (fun k hk hl => Below.heap_setCell _ _ _ _ (hOn k hk)), hB.out.setCell (show g0 ≤ gq by omega) _, by simpa [World.setCell] using hgp⟩ ?_
  clear hP hQ hO hB hgp c0 f0 hOn
  rintro X0 ⟨hP, hQ, hO, hB, hgp⟩
  refine wp_region_held_drew (S := fun X => Below X0.heap.size X0 X) (by kernel_rfl) (Below.refl _ _).drew (fun hHeld => ?_)
  generalize X0.drew = V at hHeld ⊢
  refine take_at (i := 0) (v := O.pv (.slice ua os.length uc) pn ps pa pk pf) rfl rfl (by kernel_rfl) (by kernel_rfl) (by kernel_rfl) (fun _ _ _ h => h) (Or.inl ⟨by rfl, fun X hX => by have h := hP.out.call hX; have c0 := h.c0; have c1 := h.c1; have c2 := h.c2; have c3 := h.c3; have c4 := h.c4; have c5 := h.c5; go_simp⟩) hHeld ?_
  try simp only [Act.put, List.setIfInBounds_toArray, List.set_cons_zero, List.set_cons_succ]
  refine take_at (i := 2) (v := O.pv (.slice none 0 0) pn ps pa pk pf) rfl rfl (by kernel_rfl) (by kernel_rfl) (by kernel_rfl) (fun _ _ _ h => h) (Or.inl ⟨by rfl, fun X hX => by have h := hQ.out.call hX; have c0 := h.c0; have c1 := h.c1; have c2 := h.c2; have c3 := h.c3; have c4 := h.c4; have c5 := h.c5; go_simp⟩) hHeld ?_
  try simp only [Act.put, List.setIfInBounds_toArray, List.set_cons_zero, List.set_cons_succ]
  refine wpAnyH_ready (rs := [1]) (by kernel_rfl) (by simp) ?_
  refine AllReadyH.cons rfl (fun K hK => ?_) AllReadyH.nil
  rw [if_pos (by rfl)]
  go_wp2_with fail
  refine (new_is (.slice ua os.length uc) ⟨os, pn, ps, pa, pk, pf⟩ _ (hO.out.below hHeld) (small_new hS'.out).1 (small_new hS'.out).2.1).mono ?_
  rintro e V2 ⟨ba, qa, oa, ga, rfl, hRa, za1, za2, za3, za4, hb⟩
  have hVz := hHeld.size
  have hA : Hid (Rnr V2 ba qa oa ga ⟨os, pn, ps, pa, pk, pf⟩ ⟨0, 0, 0, []⟩) := hRa
  clear hRa
  have hHb := below_call hHeld hb
  clear hHeld hb
  go_wp2_with fail
  refine hK.out _ _ (hHb) (fun hHeld => ?_)
  clear hK K hHb
  try simp only [Act.put, List.setIfInBounds_toArray, List.set_cons_zero, List.set_cons_succ]
  refine wpAnyH_ready (rs := [3]) (by kernel_rfl) (by simp) ?_
  refine AllReadyH.cons rfl (fun K hK => ?_) AllReadyH.nil
  rw [if_pos (by rfl)]
  go_wp2_with fail
  refine (new_is (.slice none 0 0) ⟨[], pn, ps, pa, pk, pf⟩ _ (opsIn_nil _) (small_plain hS'.out) (by simp)).mono ?_
  rintro e V3 ⟨bb, qb, ob, gb, rfl, hRb, zb1, zb2, zb3, zb4, hb⟩
  have hBb : Hid (Rnr V3 bb qb ob gb ⟨[], pn, ps, pa, pk, pf⟩ ⟨0, 0, 0, []⟩) := hRb
  obtain ⟨la1, la2, la3, la4⟩ := hA.out.lt
  replace hA : Hid (Rnr V3 ba qa oa ga ⟨os, pn, ps, pa, pk, pf⟩ ⟨0, 0, 0, []⟩) := hA.out.below hb
  clear hRb
  have hHb := below_call hHeld hb
  clear hHeld hb
  go_wp2_with fail
  refine hK.out _ _ (hHb) (fun hHeld => ?_)
  clear hK K hHb
  try simp only [Act.put, List.setIfInBounds_toArray, List.set_cons_zero, List.set_cons_succ]
  refine take_at (i := 4) (v := .pointer (some ⟨ba, 0, none⟩)) rfl rfl (by kernel_rfl) (by kernel_rfl) (by kernel_rfl) (fun _ _ _ h => h) (Or.inl ⟨by rfl, fun X _ => by go_simp⟩) hHeld ?_
  try simp only [Act.put, List.setIfInBounds_toArray, List.set_cons_zero, List.set_cons_succ]
  refine take_at (i := 5) (v := .pointer (some ⟨bb, 0, none⟩)) rfl rfl (by kernel_rfl) (by kernel_rfl) (by kernel_rfl) (fun _ _ _ h => h) (Or.inl ⟨by rfl, fun X _ => by go_simp⟩) hHeld ?_
  try simp only [Act.put, List.setIfInBounds_toArray, List.set_cons_zero, List.set_cons_succ]
  refine wpAnyH_done (by kernel_rfl) ?_ _
  have hF : Hid (Below X0.heap.size X0 V3) := hHeld
  clear hHeld
  have hD : Hid (Duo V3 ba qa oa ga bb qb ob gb ⟨os, pn, ps, pa, pk, pf⟩ ⟨[], pn, ps, pa, pk, pf⟩ ⟨0, 0, 0, []⟩ ⟨0, 0, 0, []⟩) := ⟨hA.out, hBb.out, ⟨by omega, by omega, by omega, by omega⟩, ⟨by omega, by omega, by omega, by omega⟩, ⟨by omega, by omega, by omega, by omega⟩, ⟨by omega, by omega, by omega⟩⟩
  have hz0 : X0.heap.size ≤ ba ∧ X0.heap.size ≤ qa ∧ X0.heap.size ≤ oa ∧ X0.heap.size ≤ bb ∧ X0.heap.size ≤ qb ∧ X0.heap.size ≤ ob := ⟨by omega, by omega, by omega, by omega, by omega, by omega⟩
  obtain ⟨lb1, lb2, lb3, lb4⟩ := hBb.out.lt
  have hzV : ba < V3.heap.size ∧ qa < V3.heap.size ∧ oa < V3.heap.size ∧ ga < V3.heap.size := ⟨by omega, by omega, by omega, by omega⟩
  clear za1 za2 za3 za4 zb1 zb2 zb3 zb4 la1 la2 la3 la4
  obtain ⟨d0, d1, d2, d3⟩ := hA.out.cells
  obtain ⟨e0, e1, e2, e3⟩ := hBb.out.cells
  go_upto_region 7 with fail
  clear d0 d1 d2 d3 e0 e1 e2 e3 hA hBb
  have hB3 : Hid (Below g0 w V3) := hB.out.trans (hF.out.mono (by have := hB.out.size; have := hg0.out; omega))
  go_wp2_with fail
  refine (inputs_is la ll lc _ (hI'.out.below hB3.out (Nat.le_of_eq hg0.out) hB3.out.size)).mono ?_
  rintro e W3 ⟨iu, is, rfl, hl25, hG, ho, b3⟩
  obtain ⟨ia, ic, rfl⟩ := own_len ho
  obtain ⟨qi, hrd, hq1, hq3, hq4⟩ := rdi_own ho (fun i hi => (hG i hi).lt) b3.size
  have hG' : Hid (∀ i ∈ is, Good i) := hG
  have hz3 : V3.heap.size ≤ W3.heap.size := b3.size
  obtain ⟨y1, y2, y3, y4⟩ := hzV
  obtain ⟨z1, z2, z3, z4, z5, z6⟩ := hz0
  have hK0 : Hid (KQ X0 W3 (W3.heap.size + 1) ba qa oa ga bb qb ob gb qi ⟨os, pn, ps, pa, pk, pf⟩ ⟨[], pn, ps, pa, pk, pf⟩ ⟨0, 0, 0, []⟩ ⟨0, 0, 0, []⟩ (.slice none 0 0) (.slice none 0 0) [] [] (.slice ia is.length ic) is) :=
    ⟨hD.out.below b3, World.ownsRow_nil _ _ _ _, World.ownsRow_nil _ _ _ _, (fun k hk => by cases hk), hrd, ⟨by omega, by omega, by omega, by omega, by omega, by omega⟩, ⟨by omega, by omega, by omega, by omega, by omega, by omega, by omega⟩, ⟨z1, z2, z3, z4, z5, z6⟩, below_call hF.out b3⟩
  obtain ⟨Bb, hBb⟩ : ∃ x, Hid (W3.heap.size + 1 = x) := ⟨_, rfl⟩
  rw [hBb.out] at hK0
  have hBz : X0.heap.size ≤ Bb := by have := hBb.out; have := hF.out.size; omega
  have hBqi : qi < Bb := by have := hBb.out; omega
  clear hD hrd hG ho b3 hq3 hF hB3 y1 y2 y3 y4 z1 z2 z3 z4 z5 z6 lb1 lb2 lb3 lb4
  obtain ⟨m, hm⟩ : ∃ m, Hid (is.length = m) := ⟨_, rfl⟩
  rw [hm.out] at hl25 hK0 ⊢
  have hW3w : W3.heap.size ≤ W3.heap.size := Nat.le_refl _
  go_wp2_with fail
  go_loopw [47] (fun i wr => ∃ (j oa1 ob1 : Nat) (ra rb : Rs), j ≤ m ∧ i = .int .i64 j ∧ Hid (SameL ra rb) ∧ Hid ((0 ≤ ra.l ∧ ra.l ≤ j) ∧ (0 ≤ ra.s ∧ ra.s ≤ j) ∧ (0 ≤ rb.l ∧ rb.l ≤ j) ∧ (0 ≤ rb.s ∧ rb.s ≤ j)) ∧ ra.L.length ≤ 8 * j ∧ Hid (KQ X0 wr Bb ba qa oa1 ga bb qb ob1 gb qi ⟨os, pn, ps, pa, pk, pf⟩ ⟨[], pn, ps, pa, pk, pf⟩ ra rb (.slice none 0 0) (.slice none 0 0) [] [] (.slice ia m ic) is) ∧ W3.heap.size ≤ wr.heap.size) (fun i _ => m - (intOf i).toNat)
  case atStart => exact ⟨0, oa, ob, ⟨0, 0, 0, []⟩, ⟨0, 0, 0, []⟩, Nat.zero_le _, rfl, ⟨rfl, rfl⟩, ⟨by decide, by decide, by decide, by decide⟩, by simp, hK0, hW3w⟩
  case round =>
    clear hK0 hW3w
    obtain ⟨j, oa1, ob1, ra, rb, hj, rfl, hT, hpos, hLl, hK, hwz⟩ := hrel
    by_cases hlt : j < m
    · have hjl : j < is.length := by rw [hm.out]; exact hlt
      obtain ⟨_, _, iao, icap, hiv, _, _, hic⟩ := hK.out.rd
      injection hiv with hi1 hi2 hi3
      subst hi1 hi3
      clear hi2
      obtain ⟨off, rfl, hqz, hcell⟩ := hic (by omega)
      obtain ⟨c0, c1, c2, c3, c4⟩ := hcell j hjl
      have hgx := hG'.out (iAt is j) (iAt_mem is j hjl)
      obtain ⟨ix, hix⟩ : ∃ x, Hid (iAt is j = x) := ⟨_, rfl⟩
      rw [hix.out] at c0 c1 c2 c3 c4 hgx
      clear hcell hic hix
      obtain ⟨r1, r2, r3, r4⟩ := hK.out.duo.a.lt
      obtain ⟨s1, s2, s3, s4⟩ := hK.out.duo.b.lt
      go_upto_region 10 with fail
      clear c0 c1 c2 c3 c4
      refine world_gen (fun X => Hid (Ink X wr.heap.size ix) ∧ Hid (KQ X0 X Bb ba qa oa1 ga bb qb ob1 gb qi ⟨os, pn, ps, pa, pk, pf⟩ ⟨[], pn, ps, pa, pk, pf⟩ ra rb (.slice none 0 0) (.slice none 0 0) [] [] (.slice (some ⟨qi, off, none⟩) m ic) is) ∧ Bb ≤ X.heap.size) ⟨ink_new _ _, hK.out.below (below_alloc _ _), by have := hBb.out; simp; omega⟩ ?_
      clear hK
      obtain ⟨gi, hgi⟩ : ∃ x, Hid (wr.heap.size = x) := ⟨_, rfl⟩
      rw [hgi.out]
      rw [hgi.out] at r1 r2 r3 r4 s1 s2 s3 s4 hqz
      rintro Wa ⟨hx, hK, hBW⟩
      clear hwz
      obtain ⟨c0, c1, c2, c3, c4⟩ := hx.out.c
      have hgia : gi < Wa.heap.size := hx.out.lt
      go_upto_region 11 with fail
      clear c0 c1 c2 c3 c4
      refine world_gen (fun X => Hid (Ink X gi ix) ∧ Hid (Ink X Wa.heap.size ix) ∧ Hid (KQ X0 X Bb ba qa oa1 ga bb qb ob1 gb qi ⟨os, pn, ps, pa, pk, pf⟩ ⟨[], pn, ps, pa, pk, pf⟩ ra rb (.slice none 0 0) (.slice none 0 0) [] [] (.slice (some ⟨qi, off, none⟩) m ic) is) ∧ Bb ≤ X.heap.size) ⟨hx.out.call (below_alloc _ _), ink_new _ _, hK.out.below (below_alloc _ _), by simp; omega⟩ ?_
      clear hK hx
      obtain ⟨gj, hgj⟩ : ∃ x, Hid (Wa.heap.size = x) := ⟨_, rfl⟩
      rw [hgj.out]
      have hgij : gi < gj := by have := hgj.out; omega
      rintro Wb ⟨hx, hy, hK, hBW2⟩
      obtain ⟨mk, ⟨et, ek, ev, el⟩⟩ := ix
      have hx9 := hx
      obtain ⟨c0, c1, c2, c3, c4⟩ := hx9.out.c
      simp only at c0 c1 c2 c3 c4
      go_upto_if 54 with fail
      clear c0 c1 c2 c3 c4 hx9
      go_cut [12] (fun okv wx => ∃ (x2 : Inp) (okb : Bool), okv = .bool okb ∧ Hid (Ink wx gi ⟨mk, ⟨et, ek, ev, el⟩⟩) ∧ Hid (Ink wx gj x2) ∧ Hid (KQ X0 wx Bb ba qa oa1 ga bb qb ob1 gb qi ⟨os, pn, ps, pa, pk, pf⟩ ⟨[], pn, ps, pa, pk, pf⟩ ra rb (.slice none 0 0) (.slice none 0 0) [] [] (.slice (some ⟨qi, off, none⟩) m ic) is) ∧ Bb ≤ wx.heap.size ∧ gj < wx.heap.size ∧ x2.e.l < 18446744073709551616 ∧ Hid (if okb = true then SameL (stepR ⟨os, pn, ps, pa, pk, pf⟩ ra ⟨mk, ⟨et, ek, ev, el⟩⟩) (stepR ⟨[], pn, ps, pa, pk, pf⟩ rb x2) ∧ rowR ⟨os, pn, ps, pa, pk, pf⟩ ra ⟨mk, ⟨et, ek, ev, el⟩⟩ = rowR ⟨[], pn, ps, pa, pk, pf⟩ rb x2 else SameL (stepR ⟨os, pn, ps, pa, pk, pf⟩ ra ⟨mk, ⟨et, ek, ev, el⟩⟩) rb ∧ rowR ⟨os, pn, ps, pa, pk, pf⟩ ra ⟨mk, ⟨et, ek, ev, el⟩⟩ = []))
      case first =>
        obtain ⟨c0, c1, c2, c3, c4⟩ := hx.out.c
        simp only at c0 c1 c2 c3 c4
        cases mk with
        | true =>
          have hmath := same_mark (os := os) (n := pn) (s := ps) (K := pa) (k := pk) (f := pf) (i := ⟨true, ⟨et, ek, ev, el⟩⟩) hT.out rfl
          have hmath' : Hid _ := hmath
          have hyl := hy.out.lt
          have hgl : el < 18446744073709551616 := hgx.lt
          clear hmath
          go_wp2_with fail
          go_meet
          refine ⟨⟨true, ⟨et, ek, ev, el⟩⟩, true, rfl, hx, hy, hK, hBW2, hyl, hgl, ?_⟩
          show (if true = true then _ else _)
          rw [if_pos rfl]
          exact hmath'.out
        | false =>
          obtain ⟨y, yk, hyr, hyl, hmath⟩ : ∃ (y : Ev) (yk : Bool), Hid (O.MO.run os ⟨et, ek, ev, el⟩ = (⟨y.t, y.k, y.v, y.l⟩, yk)) ∧ y.l < 18446744073709551616 ∧ Hid (if yk = true then SameL (stepR ⟨os, pn, ps, pa, pk, pf⟩ ra ⟨false, ⟨et, ek, ev, el⟩⟩) (stepR ⟨[], pn, ps, pa, pk, pf⟩ rb ⟨false, y⟩) ∧ rowR ⟨os, pn, ps, pa, pk, pf⟩ ra ⟨false, ⟨et, ek, ev, el⟩⟩ = rowR ⟨[], pn, ps, pa, pk, pf⟩ rb ⟨false, y⟩ else SameL (stepR ⟨os, pn, ps, pa, pk, pf⟩ ra ⟨false, ⟨et, ek, ev, el⟩⟩) rb ∧ rowR ⟨os, pn, ps, pa, pk, pf⟩ ra ⟨false, ⟨et, ek, ev, el⟩⟩ = []) := by
            cases hxx : runE os ⟨et, ek, ev, el⟩ with
            | none =>
              refine ⟨⟨0, 0, 0, 0⟩, false, runE_none hxx, by show (0 : Nat) < 18446744073709551616; omega, ?_⟩
              show (if false = true then _ else _)
              rw [if_neg (by decide)]
              exact same_none hT.out hxx
            | some x =>
              refine ⟨x, true, (runE_some hxx).1, by rw [(runE_some hxx).2.2]; exact hgx.lt, ?_⟩
              show (if true = true then _ else _)
              rw [if_pos rfl]
              exact same_event hT.out hxx
          have k0 := (hP.out.call hK.out.bel).c0
          have hOb := (hO.out.below hK.out.bel).rd
          have hOb' : Hid (RdO Wb (.slice ua os.length uc) os) := hOb
          clear hOb
          go_wp2_with fail
          refine (O.run_is et ek ev el (.slice ua os.length uc) os (⟨y.t, y.k, y.v, y.l⟩, yk) _ hOb'.out hyr.out).mono ?_
          rintro e Wc ⟨rfl, b9⟩
          replace hx : Hid (Ink Wc gi ⟨false, ⟨et, ek, ev, el⟩⟩) := hx.out.call b9
          replace hy : Hid (Ink Wc gj ⟨false, ⟨et, ek, ev, el⟩⟩) := hy.out.call b9
          replace hK : Hid (KQ X0 Wc Bb ba qa oa1 ga bb qb ob1 gb qi ⟨os, pn, ps, pa, pk, pf⟩ ⟨[], pn, ps, pa, pk, pf⟩ ra rb (.slice none 0 0) (.slice none 0 0) [] [] (.slice (some ⟨qi, off, none⟩) m ic) is) := hK.out.below b9
          have hWc : Bb ≤ Wc.heap.size := Nat.le_trans hBW2 b9.size
          clear b9 c0 c1 c2 c3 c4 k0 hOb'
          obtain ⟨c0, c1, c2, c3, c4⟩ := hy.out.c
          simp only at c0 c1 c2 c3 c4
          have f1 := hy.out.free 1
          have f2 := hy.out.free 2
          have f3 := hy.out.free 3
          have f4 := hy.out.free 4
          have hgjc : gj < Wc.heap.size := hy.out.lt
          have hX0gi : X0.heap.size ≤ gi := by have := hK.out.h0.1; omega
          go_wp2_with fail
          go_meet
          have hy9 := hy.out.ev y
          have hch : Ch3 gj gj gj Wc ((((Wc.setCell ⟨gj, 1, none⟩ (.int .i64 y.t)).setCell ⟨gj, 2, none⟩ (.int .i64 y.k)).setCell ⟨gj, 3, none⟩ (.int .i64 y.v)).setCell ⟨gj, 4, none⟩ (.int .u64 y.l)) :=
            Ch3.ofOne (((((Ch.refl gj gj Wc).set (p := ⟨gj, 1, none⟩) (.inl rfl) _).set (p := ⟨gj, 2, none⟩) (.inl rfl) _).set (p := ⟨gj, 3, none⟩) (.inl rfl) _).set (p := ⟨gj, 4, none⟩) (.inl rfl) _)
          refine ⟨⟨false, y⟩, yk, rfl, hx.out.keep (hch.other gi hx.out.lt (by omega) (by omega) (by omega)), hy9, hK.out.other hch (z0 := gi) (by omega) (by omega) (by omega) ⟨r1, r2, r3, r4⟩ ⟨s1, s2, s3, s4⟩ hqz hX0gi (by omega), Nat.le_trans hWc hch.size, Nat.lt_of_lt_of_le hgjc hch.size, hyl, hmath⟩
      case rest =>
        obtain ⟨x2, okb, rfl, hx2, hy2, hK2, hBW3, hgjw, hx2l, hmath⟩ := hcut
        obtain ⟨W5, hWe⟩ : ∃ X, X = wc := ⟨_, rfl⟩
        subst hWe
        clear hK hx hy
        have hposA := hpos.out
        have hr1 : ra.L.length ≤ 200 := by omega
        have hX0gi : X0.heap.size ≤ gi := by have := hK2.out.h0.1; omega
        go_wp2_with fail
        refine (twin_is ba qa oa1 ga ⟨os, pn, ps, pa, pk, pf⟩ ra _ hK2.out.duo.a (by omega) (small_new hS'.out).2.1).mono ?_
        rintro e W6 ⟨bt, qt, ot, gt, rfl, hRt0, zt1, zt2, zt3, zt4, b6⟩
        have hRt : Hid (Rnr W6 bt qt ot gt ⟨os, pn, ps, pa, pk, pf⟩ ra) := hRt0
        replace hK2 : Hid (KQ X0 W6 Bb ba qa oa1 ga bb qb ob1 gb qi ⟨os, pn, ps, pa, pk, pf⟩ ⟨[], pn, ps, pa, pk, pf⟩ ra rb (.slice none 0 0) (.slice none 0 0) [] [] (.slice (some ⟨qi, off, none⟩) m ic) is) := hK2.out.below b6
        replace hx2 : Hid (Ink W6 gi ⟨mk, ⟨et, ek, ev, el⟩⟩) := hx2.out.call b6
        replace hy2 : Hid (Ink W6 gj x2) := hy2.out.call b6
        have hz6 : W5.heap.size ≤ W6.heap.size := b6.size
        obtain ⟨tl1, tl2, tl3, tl4⟩ := hRt.out.lt
        clear hRt0 b6
        obtain ⟨d0, d1, d2, d3⟩ := hRt.out.cells
        go_upto_region 17 with fail
        clear d0 d1 d2 d3
        obtain ⟨c0, c1, c2, c3, c4⟩ := hx2.out.c
        simp only at c0 c1 c2 c3 c4
        go_wp2_with fail
        have hI1 : Hid (RdI (W6.alloc (.cells (ins [⟨mk, ⟨et, ek, ev, el⟩⟩]).toArray 40)) (.slice (some ⟨W6.heap.size, 0, none⟩) 1 1) W6.heap.size [⟨mk, ⟨et, ek, ev, el⟩⟩]) := rdi_lit W6 [⟨mk, ⟨et, ek, ev, el⟩⟩] (by simp) (by simpa using hgx.lt)
        refine (rtake_is ba qa oa1 ga ⟨os, pn, ps, pa, pk, pf⟩ ra _ W6.heap.size _ _ (hK2.out.duo.a.below (below_alloc _ _)) hI1.out (by omega) (by omega) (by omega) (by simp; omega) (by simp; omega) (by simp; omega)).mono ?_
        rintro e W7 ⟨ru, oa2, rfl, hru, hRa, hoa, hch⟩
        rw [rows_one] at hru
        have hst := step_total ⟨os, pn, ps, pa, pk, pf⟩ ra ⟨mk, ⟨et, ek, ev, el⟩⟩
        have hsc := step_counts ⟨os, pn, ps, pa, pk, pf⟩ ra ⟨mk, ⟨et, ek, ev, el⟩⟩
        have hRa2 : Hid (Rnr W7 ba qa oa2 ga ⟨os, pn, ps, pa, pk, pf⟩ (stepR ⟨os, pn, ps, pa, pk, pf⟩ ra ⟨mk, ⟨et, ek, ev, el⟩⟩)) := hRa
        obtain ⟨ra', hra'⟩ : ∃ r, Hid (stepR ⟨os, pn, ps, pa, pk, pf⟩ ra ⟨mk, ⟨et, ek, ev, el⟩⟩ = r) := ⟨_, rfl⟩
        obtain ⟨R, hR⟩ : ∃ r, Hid (rowR ⟨os, pn, ps, pa, pk, pf⟩ ra ⟨mk, ⟨et, ek, ev, el⟩⟩ = r) := ⟨_, rfl⟩
        rw [hra'.out] at hst hsc hRa2 hmath
        rw [hR.out] at hst hru hmath
        obtain ⟨rA, rC, rfl⟩ := own_len hru
        have hs67 : (W6.alloc (.cells (ins [⟨mk, ⟨et, ek, ev, el⟩⟩]).toArray 40)).heap.size = W6.heap.size + 1 := by simp
        have hs7 : W6.heap.size + 1 ≤ W7.heap.size := by have := hch.size; omega
        replace hK2 : Hid (KQ X0 W7 Bb ba qa oa2 ga bb qb ob1 gb qi ⟨os, pn, ps, pa, pk, pf⟩ ⟨[], pn, ps, pa, pk, pf⟩ ra' rb (.slice none 0 0) (.slice none 0 0) [] [] (.slice (some ⟨qi, off, none⟩) m ic) is) := (hK2.out.below (below_alloc _ _)).takeA (by omega) hRa2.out hch hoa
        replace hRt : Hid (Rnr W7 bt qt ot gt ⟨os, pn, ps, pa, pk, pf⟩ ra) := (hRt.out.below (below_alloc _ _)).keep hch ⟨by omega, by omega, by omega⟩ ⟨by omega, by omega, by omega⟩ ⟨by omega, by omega, by omega⟩ ⟨by omega, by omega, by omega⟩
        replace hx2 : Hid (Ink W7 gi ⟨mk, ⟨et, ek, ev, el⟩⟩) := (hx2.out.call (below_alloc _ _)).keep (hch.other gi (by omega) (by omega) (by omega) (by omega))
        replace hy2 : Hid (Ink W7 gj x2) := (hy2.out.call (below_alloc _ _)).keep (hch.other gj (by omega) (by omega) (by omega) (by omega))
        have hro : Hid (W7.ownsRow (W6.heap.size + 1) 45 5 (.slice rA R.length rC) R.length (rcs R)) := by rw [← hs67]; exact hru
        obtain ⟨qA1, qA2, qA3, qA4⟩ := hK2.out.duo.a.lt
        have hoa2 : oa2 < W7.heap.size := qA3
        have hoa3 : Hid (oa2 ≠ bt ∧ oa2 ≠ qt ∧ oa2 ≠ ot) := ⟨new_ne hoa (by omega) (by omega) (by rw [hs67]; omega), new_ne hoa (by omega) (by omega) (by rw [hs67]; omega), new_ne hoa (by omega) (by omega) (by rw [hs67]; omega)⟩
        clear hRa hRa2 hch hoa hI1 hru c0 c1 c2 c3 c4 hs67
        go_upto_region 18 with fail
        refine wp_region_held_drew (S := fun X => X.cell? ⟨bt, 3, none⟩ = some (.pointer (some ⟨qt, 0, none⟩)) ∧ X.cell? ⟨ba, 3, none⟩ = some (.pointer (some ⟨qa, 0, none⟩)) ∧ Ink X gi ⟨mk, ⟨et, ek, ev, el⟩⟩) (by kernel_rfl) ⟨hRt.out.cells.2.2.2, hK2.out.duo.a.cells.2.2.2, hx2.out⟩ (fun hHeld => ?_)
        have hb0 : Below W7.heap.size W7 W7.drew := (Below.refl _ _).drew
        have hz8 : W6.heap.size + 1 ≤ W7.drew.heap.size := hs7
        obtain ⟨V8, hV8⟩ : ∃ X, X = W7.drew := ⟨_, rfl⟩
        rw [← hV8] at hHeld hb0 hz8 ⊢
        replace hK2 : Hid (KQ X0 V8 Bb ba qa oa2 ga bb qb ob1 gb qi ⟨os, pn, ps, pa, pk, pf⟩ ⟨[], pn, ps, pa, pk, pf⟩ ra' rb (.slice none 0 0) (.slice none 0 0) [] [] (.slice (some ⟨qi, off, none⟩) m ic) is) := hK2.out.below hb0
        replace hRt : Hid (Rnr V8 bt qt ot gt ⟨os, pn, ps, pa, pk, pf⟩ ra) := hRt.out.below hb0
        replace hx2 : Hid (Ink V8 gi ⟨mk, ⟨et, ek, ev, el⟩⟩) := hx2.out.call hb0
        replace hy2 : Hid (Ink V8 gj x2) := hy2.out.call hb0
        replace hro : Hid (V8.ownsRow (W6.heap.size + 1) 45 5 (.slice rA R.length rC) R.length (rcs R)) := own_below hro.out hb0
        clear hb0 hV8

        refine take_at (i := 0) (v := .pointer (some ⟨bt, 0, none⟩)) rfl rfl (by kernel_rfl) (by kernel_rfl) (by kernel_rfl) (fun _ _ _ h => h) (Or.inl ⟨by rfl, fun X _ => by go_simp⟩) hHeld ?_
        try simp only [Act.put, List.setIfInBounds_toArray, List.set_cons_zero, List.set_cons_succ]
        refine take_at (i := 1) (v := .agg #[.bool mk, .int .i64 et, .int .i64 ek, .int .i64 ev, .int .u64 el]) rfl rfl (by kernel_rfl) (by kernel_rfl) (by kernel_rfl) (fun _ _ _ h => h) (Or.inl ⟨by rfl, fun X hX => by obtain ⟨k0, k1, k2, k3, k4⟩ := hX.2.2.c; simp only at k0 k1 k2 k3 k4; go_simp⟩) hHeld ?_
        try simp only [Act.put, List.setIfInBounds_toArray, List.set_cons_zero, List.set_cons_succ]
        refine take_at (i := 4) (v := .slice rA R.length rC) rfl rfl (by kernel_rfl) (by kernel_rfl) (by kernel_rfl) (fun _ _ _ h => h) (Or.inl ⟨by rfl, fun X _ => by go_simp⟩) hHeld ?_
        try simp only [Act.put, List.setIfInBounds_toArray, List.set_cons_zero, List.set_cons_succ]
        refine wpAnyH_ready (rs := [2]) (by kernel_rfl) (by simp) ?_
        refine AllReadyH.cons rfl (fun K hK => ?_) AllReadyH.nil
        rw [if_pos (by rfl)]
        go_simp
        have hb : Below V8.heap.size V8 (V8.alloc (.cells #[.bool mk, .int .i64 et, .int .i64 ek, .int .i64 ev, .int .u64 el] 40)) := below_alloc _ _
        have hI2 : Hid (RdI (V8.alloc (.cells #[.bool mk, .int .i64 et, .int .i64 ek, .int .i64 ev, .int .u64 el] 40)) (.slice (some ⟨V8.heap.size, 0, none⟩) 1 1) V8.heap.size [⟨mk, ⟨et, ek, ev, el⟩⟩]) := rdi_lit V8 [⟨mk, ⟨et, ek, ev, el⟩⟩] (by simp) (by simpa using hgx.lt)
        have hz9 : V8.heap.size < (V8.alloc (.cells #[.bool mk, .int .i64 et, .int .i64 ek, .int .i64 ev, .int .u64 el] 40)).heap.size := by simp
        replace hK2 : Hid (KQ X0 (V8.alloc (.cells #[.bool mk, .int .i64 et, .int .i64 ek, .int .i64 ev, .int .u64 el] 40)) Bb ba qa oa2 ga bb qb ob1 gb qi ⟨os, pn, ps, pa, pk, pf⟩ ⟨[], pn, ps, pa, pk, pf⟩ ra' rb (.slice none 0 0) (.slice none 0 0) [] [] (.slice (some ⟨qi, off, none⟩) m ic) is) := hK2.out.below hb
        replace hRt : Hid (Rnr (V8.alloc (.cells #[.bool mk, .int .i64 et, .int .i64 ek, .int .i64 ev, .int .u64 el] 40)) bt qt ot gt ⟨os, pn, ps, pa, pk, pf⟩ ra) := hRt.out.below hb
        replace hx2 : Hid (Ink (V8.alloc (.cells #[.bool mk, .int .i64 et, .int .i64 ek, .int .i64 ev, .int .u64 el] 40)) gi ⟨mk, ⟨et, ek, ev, el⟩⟩) := hx2.out.call hb
        replace hy2 : Hid (Ink (V8.alloc (.cells #[.bool mk, .int .i64 et, .int .i64 ek, .int .i64 ev, .int .u64 el] 40)) gj x2) := hy2.out.call hb
        replace hro : Hid ((V8.alloc (.cells #[.bool mk, .int .i64 et, .int .i64 ek, .int .i64 ev, .int .u64 el] 40)).ownsRow (W6.heap.size + 1) 45 5 (.slice rA R.length rC) R.length (rcs R)) := own_below hro.out hb
        clear hHeld hb
        refine hK.out _ _ (⟨hRt.out.cells.2.2.2, hK2.out.duo.a.cells.2.2.2, hx2.out⟩) (fun hHeld => ?_)
        clear hK K
        try simp only [Act.put, List.setIfInBounds_toArray, List.set_cons_zero, List.set_cons_succ]
        generalize V8.alloc (.cells #[.bool mk, .int .i64 et, .int .i64 ek, .int .i64 ev, .int .u64 el] 40) = V9 at hHeld hI2 hz9 hK2 hRt hx2 hy2 hro ⊢
        refine wpAnyH_ready (rs := [3]) (by kernel_rfl) (by simp) ?_
        refine AllReadyH.cons rfl (fun K hK => ?_) AllReadyH.nil
        rw [if_pos (by rfl)]
        go_wp2_with fail
        refine (rtake_is bt qt ot gt ⟨os, pn, ps, pa, pk, pf⟩ ra _ V8.heap.size _ _ hRt.out hI2.out (by omega) (by omega) (by omega) (by simp; omega) (by simp; omega) (by simp; omega)).mono ?_
        rintro e V10 ⟨tu, ot2, rfl, htu, hRt2, hot, hch⟩
        rw [rows_one] at htu
        have hRt3 : Hid (Rnr V10 bt qt ot2 gt ⟨os, pn, ps, pa, pk, pf⟩ (stepR ⟨os, pn, ps, pa, pk, pf⟩ ra ⟨mk, ⟨et, ek, ev, el⟩⟩)) := hRt2
        rw [hra'.out] at hRt3
        rw [hR.out] at htu
        obtain ⟨tA, tC, rfl⟩ := own_len htu
        have hap := own_rows_apart hro.out hRt.out (by omega) (by omega)
        replace hro : Hid (V10.ownsRow (W6.heap.size + 1) 45 5 (.slice rA R.length rC) R.length (rcs R)) := own_ch3 hro.out hch hap
        have hxk := hch.other gi (by omega) (by omega) (by omega) (by omega)
        have hyk := hch.other gj (by omega) (by omega) (by omega) (by omega)
        have hK3 := hK2.out.other3 hch ⟨by omega, by omega, by omega⟩ ⟨by omega, by omega, by omega⟩ hoa3.out ⟨by omega, by omega, by omega⟩ ⟨by omega, by omega, by omega⟩ ⟨by omega, by omega, by omega⟩ ⟨by omega, by omega, by omega⟩ ⟨by omega, by omega, by omega⟩ ⟨by omega, by omega, by omega⟩ (by omega) (by omega) (by omega) (by omega) (by omega)
        replace hK2 : Hid (KQ X0 V10 Bb ba qa oa2 ga bb qb ob1 gb qi ⟨os, pn, ps, pa, pk, pf⟩ ⟨[], pn, ps, pa, pk, pf⟩ ra' rb (.slice none 0 0) (.slice none 0 0) [] [] (.slice (some ⟨qi, off, none⟩) m ic) is) := hK3
        replace hx2 : Hid (Ink V10 gi ⟨mk, ⟨et, ek, ev, el⟩⟩) := hx2.out.keep hxk
        replace hy2 : Hid (Ink V10 gj x2) := hy2.out.keep hyk
        replace hRt : Hid (Rnr V10 bt qt ot2 gt ⟨os, pn, ps, pa, pk, pf⟩ ra') := hRt3.out
        have hto : Hid (V10.ownsRow V9.heap.size 45 5 (.slice tA R.length tC) R.length (rcs R)) := htu
        have hV10 : V9.heap.size ≤ V10.heap.size := hch.size
        clear hRt2 hRt3 hot hch hI2 htu hap hxk hyk hK3 hHeld
        go_wp2_with fail
        refine hK.out _ _ (⟨hRt.out.cells.2.2.2, hK2.out.duo.a.cells.2.2.2, hx2.out⟩) (fun hHeld => ?_)
        clear hK K
        try simp only [Act.put, List.setIfInBounds_toArray, List.set_cons_zero, List.set_cons_succ]
        refine wpAnyH_ready (rs := [5]) (by kernel_rfl) (by simp) ?_
        refine AllReadyH.cons rfl (fun K hK => ?_) AllReadyH.nil
        rw [if_pos (by rfl)]
        go_wp2_with fail
        refine (same_r (.slice tA R.length tC) (.slice rA R.length rC) R _ (rdr_own hto.out) (rdr_own hro.out)).mono ?_
        rintro e V11 ⟨rfl, hb⟩
        have hz_V11 := hb.size
        replace hK2 : Hid (KQ X0 V11 Bb ba qa oa2 ga bb qb ob1 gb qi ⟨os, pn, ps, pa, pk, pf⟩ ⟨[], pn, ps, pa, pk, pf⟩ ra' rb (.slice none 0 0) (.slice none 0 0) [] [] (.slice (some ⟨qi, off, none⟩) m ic) is) := hK2.out.below hb
        replace hRt : Hid (Rnr V11 bt qt ot2 gt ⟨os, pn, ps, pa, pk, pf⟩ ra') := hRt.out.below hb
        replace hx2 : Hid (Ink V11 gi ⟨mk, ⟨et, ek, ev, el⟩⟩) := hx2.out.call hb
        replace hy2 : Hid (Ink V11 gj x2) := hy2.out.call hb
        replace hro : Hid (V11.ownsRow (W6.heap.size + 1) 45 5 (.slice rA R.length rC) R.length (rcs R)) := own_below hro.out hb
        clear hHeld hb
        go_wp2_with fail
        refine hK.out _ _ (⟨hRt.out.cells.2.2.2, hK2.out.duo.a.cells.2.2.2, hx2.out⟩) (fun hHeld => ?_)
        clear hK K
        try simp only [Act.put, List.setIfInBounds_toArray, List.set_cons_zero, List.set_cons_succ]
        refine take_at (i := 6) (v := .bool false) rfl rfl (by kernel_rfl) (by kernel_rfl) (by kernel_rfl) (fun _ _ _ h => h) (Or.inl ⟨by rfl, fun X _ => by go_simp⟩) hHeld ?_
        try simp only [Act.put, List.setIfInBounds_toArray, List.set_cons_zero, List.set_cons_succ]
        refine take_at (i := 7) (v := .bool false) rfl rfl (by kernel_rfl) (by kernel_rfl) (by kernel_rfl) (fun _ _ _ h => h) (Or.inl ⟨by rfl, fun X _ => by go_simp⟩) hHeld ?_
        try simp only [Act.put, List.setIfInBounds_toArray, List.set_cons_zero, List.set_cons_succ]
        refine take_at (i := 8) (v := .pointer (some ⟨bt, 0, none⟩)) rfl rfl (by kernel_rfl) (by kernel_rfl) (by kernel_rfl) (fun _ _ _ h => h) (Or.inl ⟨by rfl, fun X _ => by go_simp⟩) hHeld ?_
        try simp only [Act.put, List.setIfInBounds_toArray, List.set_cons_zero, List.set_cons_succ]
        refine take_at (i := 9) (v := .pointer (some ⟨bt, 0, none⟩)) rfl rfl (by kernel_rfl) (by kernel_rfl) (by kernel_rfl) (fun _ _ _ h => h) (Or.inl ⟨by rfl, fun X _ => by go_simp⟩) hHeld ?_
        try simp only [Act.put, List.setIfInBounds_toArray, List.set_cons_zero, List.set_cons_succ]
        refine take_at (i := 10) (v := .pointer (some ⟨bt, 3, none⟩)) rfl rfl (by kernel_rfl) (by kernel_rfl) (by kernel_rfl) (fun _ _ _ h => h) (Or.inl ⟨by rfl, fun X _ => by go_simp⟩) hHeld ?_
        try simp only [Act.put, List.setIfInBounds_toArray, List.set_cons_zero, List.set_cons_succ]
        refine take_at (i := 11) (v := .pointer (some ⟨qt, 0, none⟩)) rfl rfl (by kernel_rfl) (by kernel_rfl) (by kernel_rfl) (fun _ _ _ h => h) (Or.inl ⟨by rfl, fun X hX => by have k3 := hX.1; go_simp⟩) hHeld ?_
        try simp only [Act.put, List.setIfInBounds_toArray, List.set_cons_zero, List.set_cons_succ]
        refine take_at (i := 13) (v := .pointer (some ⟨ba, 0, none⟩)) rfl rfl (by kernel_rfl) (by kernel_rfl) (by kernel_rfl) (fun _ _ _ h => h) (Or.inl ⟨by rfl, fun X _ => by go_simp⟩) hHeld ?_
        try simp only [Act.put, List.setIfInBounds_toArray, List.set_cons_zero, List.set_cons_succ]
        refine take_at (i := 14) (v := .pointer (some ⟨ba, 0, none⟩)) rfl rfl (by kernel_rfl) (by kernel_rfl) (by kernel_rfl) (fun _ _ _ h => h) (Or.inl ⟨by rfl, fun X _ => by go_simp⟩) hHeld ?_
        try simp only [Act.put, List.setIfInBounds_toArray, List.set_cons_zero, List.set_cons_succ]
        refine take_at (i := 15) (v := .pointer (some ⟨ba, 3, none⟩)) rfl rfl (by kernel_rfl) (by kernel_rfl) (by kernel_rfl) (fun _ _ _ h => h) (Or.inl ⟨by rfl, fun X _ => by go_simp⟩) hHeld ?_
        try simp only [Act.put, List.setIfInBounds_toArray, List.set_cons_zero, List.set_cons_succ]
        refine take_at (i := 16) (v := .pointer (some ⟨qa, 0, none⟩)) rfl rfl (by kernel_rfl) (by kernel_rfl) (by kernel_rfl) (fun _ _ _ h => h) (Or.inl ⟨by rfl, fun X hX => by have k3 := hX.2.1; go_simp⟩) hHeld ?_
        try simp only [Act.put, List.setIfInBounds_toArray, List.set_cons_zero, List.set_cons_succ]
        refine wpAnyH_ready (rs := [12]) (by kernel_rfl) (by simp) ?_
        refine AllReadyH.cons rfl (fun K hK => ?_) AllReadyH.nil
        rw [if_pos (by rfl)]
        go_wp2_with fail
        refine (open_is qt ot2 pn ps pa ra'.L _ hRt.out.pan (by omega)).mono ?_
        rintro e V12 ⟨u12, rfl, hop1, hb⟩
        have hp1 : Hid (RdR V12 u12 ra'.L) := rdr_own hop1
        clear hop1
        have hz_V12 := hb.size
        replace hK2 : Hid (KQ X0 V12 Bb ba qa oa2 ga bb qb ob1 gb qi ⟨os, pn, ps, pa, pk, pf⟩ ⟨[], pn, ps, pa, pk, pf⟩ ra' rb (.slice none 0 0) (.slice none 0 0) [] [] (.slice (some ⟨qi, off, none⟩) m ic) is) := hK2.out.below hb
        replace hRt : Hid (Rnr V12 bt qt ot2 gt ⟨os, pn, ps, pa, pk, pf⟩ ra') := hRt.out.below hb
        replace hx2 : Hid (Ink V12 gi ⟨mk, ⟨et, ek, ev, el⟩⟩) := hx2.out.call hb
        replace hy2 : Hid (Ink V12 gj x2) := hy2.out.call hb
        replace hro : Hid (V12.ownsRow (W6.heap.size + 1) 45 5 (.slice rA R.length rC) R.length (rcs R)) := own_below hro.out hb
        clear hHeld hb
        go_wp2_with fail
        refine hK.out _ _ (⟨hRt.out.cells.2.2.2, hK2.out.duo.a.cells.2.2.2, hx2.out⟩) (fun hHeld => ?_)
        clear hK K
        try simp only [Act.put, List.setIfInBounds_toArray, List.set_cons_zero, List.set_cons_succ]
        refine wpAnyH_ready (rs := [17]) (by kernel_rfl) (by simp) ?_
        refine AllReadyH.cons rfl (fun K hK => ?_) AllReadyH.nil
        rw [if_pos (by rfl)]
        go_wp2_with fail
        refine (open_is qa oa2 pn ps pa ra'.L _ hK2.out.duo.a.pan (by omega)).mono ?_
        rintro e V13 ⟨u13, rfl, hop1, hb⟩
        have hp2 : Hid (RdR V13 u13 ra'.L) := rdr_own hop1
        replace hp1 : Hid (RdR V13 u12 ra'.L) := hp1.out.below hb
        clear hop1
        have hz_V13 := hb.size
        replace hK2 : Hid (KQ X0 V13 Bb ba qa oa2 ga bb qb ob1 gb qi ⟨os, pn, ps, pa, pk, pf⟩ ⟨[], pn, ps, pa, pk, pf⟩ ra' rb (.slice none 0 0) (.slice none 0 0) [] [] (.slice (some ⟨qi, off, none⟩) m ic) is) := hK2.out.below hb
        replace hRt : Hid (Rnr V13 bt qt ot2 gt ⟨os, pn, ps, pa, pk, pf⟩ ra') := hRt.out.below hb
        replace hx2 : Hid (Ink V13 gi ⟨mk, ⟨et, ek, ev, el⟩⟩) := hx2.out.call hb
        replace hy2 : Hid (Ink V13 gj x2) := hy2.out.call hb
        replace hro : Hid (V13.ownsRow (W6.heap.size + 1) 45 5 (.slice rA R.length rC) R.length (rcs R)) := own_below hro.out hb
        clear hHeld hb
        go_wp2_with fail
        refine hK.out _ _ (⟨hRt.out.cells.2.2.2, hK2.out.duo.a.cells.2.2.2, hx2.out⟩) (fun hHeld => ?_)
        clear hK K
        try simp only [Act.put, List.setIfInBounds_toArray, List.set_cons_zero, List.set_cons_succ]
        refine wpAnyH_ready (rs := [18]) (by kernel_rfl) (by simp) ?_
        refine AllReadyH.cons rfl (fun K hK => ?_) AllReadyH.nil
        rw [if_pos (by rfl)]
        go_wp2_with fail
        refine (same_r u12 u13 ra'.L _ hp1.out hp2.out).mono ?_
        rintro e V14 ⟨rfl, hb⟩
        have hz_V14 := hb.size
        replace hK2 : Hid (KQ X0 V14 Bb ba qa oa2 ga bb qb ob1 gb qi ⟨os, pn, ps, pa, pk, pf⟩ ⟨[], pn, ps, pa, pk, pf⟩ ra' rb (.slice none 0 0) (.slice none 0 0) [] [] (.slice (some ⟨qi, off, none⟩) m ic) is) := hK2.out.below hb
        replace hRt : Hid (Rnr V14 bt qt ot2 gt ⟨os, pn, ps, pa, pk, pf⟩ ra') := hRt.out.below hb
        replace hx2 : Hid (Ink V14 gi ⟨mk, ⟨et, ek, ev, el⟩⟩) := hx2.out.call hb
        replace hy2 : Hid (Ink V14 gj x2) := hy2.out.call hb
        replace hro : Hid (V14.ownsRow (W6.heap.size + 1) 45 5 (.slice rA R.length rC) R.length (rcs R)) := own_below hro.out hb
        clear hHeld hb
        go_wp2_with fail
        refine hK.out _ _ (⟨hRt.out.cells.2.2.2, hK2.out.duo.a.cells.2.2.2, hx2.out⟩) (fun hHeld => ?_)
        clear hK K
        try simp only [Act.put, List.setIfInBounds_toArray, List.set_cons_zero, List.set_cons_succ]
        refine take_at (i := 19) (v := .bool false) rfl rfl (by kernel_rfl) (by kernel_rfl) (by kernel_rfl) (fun _ _ _ h => h) (Or.inl ⟨by rfl, fun X _ => by go_simp⟩) hHeld ?_
        try simp only [Act.put, List.setIfInBounds_toArray, List.set_cons_zero, List.set_cons_succ]
        refine take_at (i := 20) (v := .bool false) rfl rfl (by kernel_rfl) (by kernel_rfl) (by kernel_rfl) (fun _ _ _ h => h) (Or.inl ⟨by rfl, fun X _ => by go_simp⟩) hHeld ?_
        try simp only [Act.put, List.setIfInBounds_toArray, List.set_cons_zero, List.set_cons_succ]
        refine wpAnyH_done (by kernel_rfl) ?_ _
        have hz14 : W6.heap.size + 1 ≤ V14.heap.size := by omega
        replace hr1 : ra'.L.length + R.length ≤ 8 * (j + 1) := by omega
        clear hHeld hto hp1 hp2 hRt hx2 hz_V11 hz_V12 hz_V13 hz_V14 hz9 hV10 hz8 hoa3 hoa2 qA1 qA2 qA3 qA4 tl1 tl2 tl3 tl4
        have hSL : ra.m = ra.m := rfl
        have hbl := hposA.2.2.1
        have hbs := hposA.2.2.2
        have hbT : rb.L.length ≤ 200 := by have h := hT.out.2; rw [← h]; omega
        obtain ⟨c0, c1, c2, c3, c4⟩ := hy2.out.c
        obtain ⟨Z, hZ⟩ : ∃ z, Hid (W6.heap.size + 1 = z) := ⟨_, rfl⟩
        rw [hZ.out] at hro hz14
        have hZs : gj < Z ∧ W3.heap.size ≤ Z ∧ Bb ≤ Z := by have := hZ.out; have := hBb.out; exact ⟨by omega, by omega, by omega⟩
        obtain ⟨hZ1, hZ2, hZ3⟩ := hZs
        clear hz6 hs7 zt1 zt2 zt3 zt4
        go_upto_if 100 with fail
        clear c0 c1 c2 c3 c4
        go_cut [15] (fun u wx => ∃ (ob2 : Nat) (rb' : Rs), Hid (RdR wx u R) ∧ Hid (SameL ra' rb') ∧ Hid ((0 ≤ rb'.l ∧ rb'.l ≤ j + 1) ∧ (0 ≤ rb'.s ∧ rb'.s ≤ j + 1)) ∧ Hid (KQ X0 wx Bb ba qa oa2 ga bb qb ob2 gb qi ⟨os, pn, ps, pa, pk, pf⟩ ⟨[], pn, ps, pa, pk, pf⟩ ra' rb' (.slice none 0 0) (.slice none 0 0) [] [] (.slice (some ⟨qi, off, none⟩) m ic) is) ∧ Hid (RdR wx (.slice rA R.length rC) R) ∧ W3.heap.size ≤ wx.heap.size)
        case first =>
          obtain ⟨c0, c1, c2, c3, c4⟩ := hy2.out.c
          cases okb with
          | true =>
            have hm2 : SameL ra' (stepR ⟨[], pn, ps, pa, pk, pf⟩ rb x2) ∧ R = rowR ⟨[], pn, ps, pa, pk, pf⟩ rb x2 := by
              have h := hmath.out
              rw [if_pos rfl] at h
              exact h
            obtain ⟨hm3, hm40⟩ := hm2
            have hm4 : Hid (R = rowR ⟨[], pn, ps, pa, pk, pf⟩ rb x2) := hm40
            clear hm40
            obtain ⟨q1, q2, q3, q4⟩ := hK2.out.duo.b.lt
            go_wp2_with fail
            have hI3 : Hid (RdI (V14.alloc (.cells (ins [x2]).toArray 40)) (.slice (some ⟨V14.heap.size, 0, none⟩) 1 1) V14.heap.size [x2]) := rdi_lit V14 [x2] (by simp) (by simpa using hx2l)
            refine (rtake_is bb qb ob1 gb ⟨[], pn, ps, pa, pk, pf⟩ rb _ V14.heap.size _ _ (hK2.out.duo.b.below (below_alloc _ _)) hI3.out (by omega) (by omega) (by omega) (by simp; omega) (by simp; omega) (by simp; omega)).mono ?_
            rintro e Wn ⟨wu, ob2, rfl, hwu, hRb, hob, hch⟩
            rw [rows_one] at hwu
            have hsc2 := step_counts ⟨[], pn, ps, pa, pk, pf⟩ rb x2
            have hRb2 : Hid (Rnr Wn bb qb ob2 gb ⟨[], pn, ps, pa, pk, pf⟩ (stepR ⟨[], pn, ps, pa, pk, pf⟩ rb x2)) := hRb
            rw [← hm4.out] at hwu
            have hap := own_rows_apart hro.out hK2.out.duo.b (by omega) (by omega)
            have hro2 : Hid (RdR Wn (.slice rA R.length rC) R) := rdr_own (own_ch3 (own_below hro.out (below_alloc _ _)) hch hap)
            have hwr : Hid (RdR Wn wu R) := rdr_own hwu
            have hK3 : Hid (KQ X0 Wn Bb ba qa oa2 ga bb qb ob2 gb qi ⟨os, pn, ps, pa, pk, pf⟩ ⟨[], pn, ps, pa, pk, pf⟩ ra' (stepR ⟨[], pn, ps, pa, pk, pf⟩ rb x2) (.slice none 0 0) (.slice none 0 0) [] [] (.slice (some ⟨qi, off, none⟩) m ic) is) := (hK2.out.below (below_alloc _ _)).takeB (by simp; omega) hRb2.out hch hob
            have hzn : W3.heap.size ≤ Wn.heap.size := by
              have h1 := hch.size
              have h2 : (V14.alloc (.cells (ins [x2]).toArray 40)).heap.size = V14.heap.size + 1 := by simp
              omega
            have hm5 : Hid (SameL ra' (stepR ⟨[], pn, ps, pa, pk, pf⟩ rb x2)) := hm3
            have hps : Hid ((0 ≤ (stepR ⟨[], pn, ps, pa, pk, pf⟩ rb x2).l ∧ (stepR ⟨[], pn, ps, pa, pk, pf⟩ rb x2).l ≤ j + 1) ∧ (0 ≤ (stepR ⟨[], pn, ps, pa, pk, pf⟩ rb x2).s ∧ (stepR ⟨[], pn, ps, pa, pk, pf⟩ rb x2).s ≤ j + 1)) := ⟨⟨by omega, by omega⟩, ⟨by omega, by omega⟩⟩
            clear hRb hRb2 hob hch hI3 hwu hm3 hm4 hap hK2 hro c0 c1 c2 c3 c4 hsc2
            go_wp2_with fail
            go_meet
            exact ⟨ob2, _, hwr, hm5, hps, hK3, hro2, hzn⟩
          | false =>
            have hm2 : SameL ra' rb ∧ R = [] := by
              have h := hmath.out
              rw [if_neg (by decide)] at h
              exact h
            obtain ⟨hm3, hm4⟩ := hm2
            have hro2 : Hid (RdR V14 (.slice rA R.length rC) R) := rdr_own hro.out
            have hwr : Hid (RdR V14 (.slice none 0 0) R) := by
              have h : RdR V14 (.slice none 0 0) ([] : List Pn) := rdr_own (World.ownsRow_nil V14 0 45 5)
              rw [hm4]
              exact h
            clear hm4
            go_wp2_with fail
            go_meet
            exact ⟨ob1, rb, hwr, hm3, ⟨⟨by omega, by omega⟩, ⟨by omega, by omega⟩⟩, hK2, hro2, by omega⟩
        case rest =>
          obtain ⟨ob2, rb', hwr, hm3, hps, hK3, hro2, hzn⟩ := hcut
          obtain ⟨Wq, hWq⟩ : ∃ X, X = wc := ⟨_, rfl⟩
          subst hWq
          clear hK2 hro hy2 hmath hT hz14
          have hst2 : Hid ((0 ≤ ra'.l ∧ ra'.l ≤ j + 1) ∧ (0 ≤ ra'.s ∧ ra'.s ≤ j + 1)) := ⟨⟨by omega, by omega⟩, ⟨by omega, by omega⟩⟩
          have hlr : ra'.L.length ≤ 8 * (j + 1) := by omega
          have hla : ra'.L.length ≤ 1000000 := by omega
          have hlb : rb'.L.length ≤ 1000000 := by have h := hm3.out.2; rw [← h]; omega
          clear hst hsc hr1 hra' hR hpos hposA hbl hbs
          obtain ⟨am, al, as', aL⟩ := ra'
          obtain ⟨bm, bl, bs, bL⟩ := rb'
          have hTm : am = bm := hm3.out.1
          have hTL : aL = bL := hm3.out.2
          subst hTm hTL
          have hmm : (am != am) = false := by simp
          go_upto_region 23 with fail
          refine wp_region_held_drew (S := fun X => Below Wq.heap.size Wq X) (by kernel_rfl) (Below.refl _ _).drew (fun hHeld => ?_)
          generalize Wq.drew = U0 at hHeld ⊢
          refine take_at (i := 0) (v := .slice rA R.length rC) rfl rfl (by kernel_rfl) (by kernel_rfl) (by kernel_rfl) (fun _ _ _ h => h) (Or.inl ⟨by rfl, fun X _ => by go_simp⟩) hHeld ?_
          try simp only [Act.put, List.setIfInBounds_toArray, List.set_cons_zero, List.set_cons_succ]
          refine take_at (i := 1) (v := u15) rfl rfl (by kernel_rfl) (by kernel_rfl) (by kernel_rfl) (fun _ _ _ h => h) (Or.inl ⟨by rfl, fun X _ => by go_simp⟩) hHeld ?_
          try simp only [Act.put, List.setIfInBounds_toArray, List.set_cons_zero, List.set_cons_succ]
          refine wpAnyH_ready (rs := [2]) (by kernel_rfl) (by simp) ?_
          refine AllReadyH.cons rfl (fun K hK => ?_) AllReadyH.nil
          rw [if_pos (by rfl)]
          go_wp2_with fail
          refine (same_r (.slice rA R.length rC) u15 R _ (hro2.out.below hHeld) (hwr.out.below hHeld)).mono ?_
          rintro e U1 ⟨rfl, hb⟩
          have hHb := below_call hHeld hb
          clear hHeld hb
          go_wp2_with fail
          refine hK.out _ _ (hHb) (fun hHeld => ?_)
          clear hK K hHb
          try simp only [Act.put, List.setIfInBounds_toArray, List.set_cons_zero, List.set_cons_succ]
          refine take_at (i := 3) (v := .bool false) rfl rfl (by kernel_rfl) (by kernel_rfl) (by kernel_rfl) (fun _ _ _ h => h) (Or.inl ⟨by rfl, fun X _ => by go_simp⟩) hHeld ?_
          try simp only [Act.put, List.setIfInBounds_toArray, List.set_cons_zero, List.set_cons_succ]
          refine take_at (i := 4) (v := .bool false) rfl rfl (by kernel_rfl) (by kernel_rfl) (by kernel_rfl) (fun _ _ _ h => h) (Or.inl ⟨by rfl, fun X _ => by go_simp⟩) hHeld ?_
          try simp only [Act.put, List.setIfInBounds_toArray, List.set_cons_zero, List.set_cons_succ]
          refine take_at (i := 5) (v := .pointer (some ⟨ba, 0, none⟩)) rfl rfl (by kernel_rfl) (by kernel_rfl) (by kernel_rfl) (fun _ _ _ h => h) (Or.inl ⟨by rfl, fun X _ => by go_simp⟩) hHeld ?_
          try simp only [Act.put, List.setIfInBounds_toArray, List.set_cons_zero, List.set_cons_succ]
          refine take_at (i := 6) (v := .pointer (some ⟨ba, 0, none⟩)) rfl rfl (by kernel_rfl) (by kernel_rfl) (by kernel_rfl) (fun _ _ _ h => h) (Or.inl ⟨by rfl, fun X _ => by go_simp⟩) hHeld ?_
          try simp only [Act.put, List.setIfInBounds_toArray, List.set_cons_zero, List.set_cons_succ]
          refine take_at (i := 7) (v := .pointer (some ⟨ba, 3, none⟩)) rfl rfl (by kernel_rfl) (by kernel_rfl) (by kernel_rfl) (fun _ _ _ h => h) (Or.inl ⟨by rfl, fun X _ => by go_simp⟩) hHeld ?_
          try simp only [Act.put, List.setIfInBounds_toArray, List.set_cons_zero, List.set_cons_succ]
          refine take_at (i := 8) (v := .pointer (some ⟨qa, 0, none⟩)) rfl rfl (by kernel_rfl) (by kernel_rfl) (by kernel_rfl) (fun _ _ _ h => h) (Or.inl ⟨by rfl, fun X hX => by obtain ⟨k0, k1, k2, k3⟩ := (hK3.out.duo.a.below hX).cells; go_simp⟩) hHeld ?_
          try simp only [Act.put, List.setIfInBounds_toArray, List.set_cons_zero, List.set_cons_succ]
          refine take_at (i := 10) (v := .pointer (some ⟨bb, 0, none⟩)) rfl rfl (by kernel_rfl) (by kernel_rfl) (by kernel_rfl) (fun _ _ _ h => h) (Or.inl ⟨by rfl, fun X _ => by go_simp⟩) hHeld ?_
          try simp only [Act.put, List.setIfInBounds_toArray, List.set_cons_zero, List.set_cons_succ]
          refine take_at (i := 11) (v := .pointer (some ⟨bb, 0, none⟩)) rfl rfl (by kernel_rfl) (by kernel_rfl) (by kernel_rfl) (fun _ _ _ h => h) (Or.inl ⟨by rfl, fun X _ => by go_simp⟩) hHeld ?_
          try simp only [Act.put, List.setIfInBounds_toArray, List.set_cons_zero, List.set_cons_succ]
          refine take_at (i := 12) (v := .pointer (some ⟨bb, 3, none⟩)) rfl rfl (by kernel_rfl) (by kernel_rfl) (by kernel_rfl) (fun _ _ _ h => h) (Or.inl ⟨by rfl, fun X _ => by go_simp⟩) hHeld ?_
          try simp only [Act.put, List.setIfInBounds_toArray, List.set_cons_zero, List.set_cons_succ]
          refine take_at (i := 13) (v := .pointer (some ⟨qb, 0, none⟩)) rfl rfl (by kernel_rfl) (by kernel_rfl) (by kernel_rfl) (fun _ _ _ h => h) (Or.inl ⟨by rfl, fun X hX => by obtain ⟨k0, k1, k2, k3⟩ := (hK3.out.duo.b.below hX).cells; go_simp⟩) hHeld ?_
          try simp only [Act.put, List.setIfInBounds_toArray, List.set_cons_zero, List.set_cons_succ]
          refine wpAnyH_ready (rs := [9]) (by kernel_rfl) (by simp) ?_
          refine AllReadyH.cons rfl (fun K hK => ?_) AllReadyH.nil
          rw [if_pos (by rfl)]
          go_wp2_with fail
          refine (open_is qa oa2 pn ps pa aL _ (hK3.out.duo.a.below hHeld).pan hla).mono ?_
          rintro e U2 ⟨v12, rfl, hop1, hb⟩
          have hp1 : Hid (RdR U2 v12 aL) := rdr_own hop1
          clear hop1
          have hHb := below_call hHeld hb
          clear hHeld hb
          go_wp2_with fail
          refine hK.out _ _ (hHb) (fun hHeld => ?_)
          clear hK K hHb
          try simp only [Act.put, List.setIfInBounds_toArray, List.set_cons_zero, List.set_cons_succ]
          refine wpAnyH_ready (rs := [14]) (by kernel_rfl) (by simp) ?_
          refine AllReadyH.cons rfl (fun K hK => ?_) AllReadyH.nil
          rw [if_pos (by rfl)]
          go_wp2_with fail
          refine (open_is qb ob2 pn ps pa aL _ (hK3.out.duo.b.below hHeld).pan hlb).mono ?_
          rintro e U3 ⟨v13, rfl, hop1, hb⟩
          have hp2 : Hid (RdR U3 v13 aL) := rdr_own hop1
          replace hp1 : Hid (RdR U3 v12 aL) := hp1.out.below hb
          clear hop1
          have hHb := below_call hHeld hb
          clear hHeld hb
          go_wp2_with fail
          refine hK.out _ _ (hHb) (fun hHeld => ?_)
          clear hK K hHb
          try simp only [Act.put, List.setIfInBounds_toArray, List.set_cons_zero, List.set_cons_succ]
          refine wpAnyH_ready (rs := [15]) (by kernel_rfl) (by simp) ?_
          refine AllReadyH.cons rfl (fun K hK => ?_) AllReadyH.nil
          rw [if_pos (by rfl)]
          go_wp2_with fail
          refine (same_r v12 v13 aL _ hp1.out hp2.out).mono ?_
          rintro e U4 ⟨rfl, hb⟩
          have hHb := below_call hHeld hb
          clear hHeld hb
          go_wp2_with fail
          refine hK.out _ _ (hHb) (fun hHeld => ?_)
          clear hK K hHb
          try simp only [Act.put, List.setIfInBounds_toArray, List.set_cons_zero, List.set_cons_succ]
          refine take_at (i := 16) (v := .bool false) rfl rfl (by kernel_rfl) (by kernel_rfl) (by kernel_rfl) (fun _ _ _ h => h) (Or.inl ⟨by rfl, fun X _ => by go_simp⟩) hHeld ?_
          try simp only [Act.put, List.setIfInBounds_toArray, List.set_cons_zero, List.set_cons_succ]
          refine take_at (i := 17) (v := .bool false) rfl rfl (by kernel_rfl) (by kernel_rfl) (by kernel_rfl) (fun _ _ _ h => h) (Or.inl ⟨by rfl, fun X _ => by go_simp⟩) hHeld ?_
          try simp only [Act.put, List.setIfInBounds_toArray, List.set_cons_zero, List.set_cons_succ]
          refine take_at (i := 18) (v := .bool false) rfl rfl (by kernel_rfl) (by kernel_rfl) (by kernel_rfl) (fun _ _ _ h => h) (Or.inl ⟨by rfl, fun X _ => by go_simp⟩) hHeld ?_
          try simp only [Act.put, List.setIfInBounds_toArray, List.set_cons_zero, List.set_cons_succ]
          refine take_at (i := 19) (v := .pointer (some ⟨ba, 0, none⟩)) rfl rfl (by kernel_rfl) (by kernel_rfl) (by kernel_rfl) (fun _ _ _ h => h) (Or.inl ⟨by rfl, fun X _ => by go_simp⟩) hHeld ?_
          try simp only [Act.put, List.setIfInBounds_toArray, List.set_cons_zero, List.set_cons_succ]
          refine take_at (i := 20) (v := .pointer (some ⟨ba, 0, none⟩)) rfl rfl (by kernel_rfl) (by kernel_rfl) (by kernel_rfl) (fun _ _ _ h => h) (Or.inl ⟨by rfl, fun X _ => by go_simp⟩) hHeld ?_
          try simp only [Act.put, List.setIfInBounds_toArray, List.set_cons_zero, List.set_cons_succ]
          refine take_at (i := 21) (v := .pointer (some ⟨ba, 0, none⟩)) rfl rfl (by kernel_rfl) (by kernel_rfl) (by kernel_rfl) (fun _ _ _ h => h) (Or.inl ⟨by rfl, fun X _ => by go_simp⟩) hHeld ?_
          try simp only [Act.put, List.setIfInBounds_toArray, List.set_cons_zero, List.set_cons_succ]
          refine take_at (i := 22) (v := .agg #[.int .i64 am, .int .i64 al, .int .i64 as']) rfl rfl (by kernel_rfl) (by kernel_rfl) (by kernel_rfl) (fun _ _ _ h => h) (Or.inl ⟨by rfl, fun X hX => by obtain ⟨k0, k1, k2, k3⟩ := (hK3.out.duo.a.below hX).cells; simp only at k0 k1 k2 k3; go_simp⟩) hHeld ?_
          try simp only [Act.put, List.setIfInBounds_toArray, List.set_cons_zero, List.set_cons_succ]
          refine take_at (i := 24) (v := .pointer (some ⟨bb, 0, none⟩)) rfl rfl (by kernel_rfl) (by kernel_rfl) (by kernel_rfl) (fun _ _ _ h => h) (Or.inl ⟨by rfl, fun X _ => by go_simp⟩) hHeld ?_
          try simp only [Act.put, List.setIfInBounds_toArray, List.set_cons_zero, List.set_cons_succ]
          refine take_at (i := 25) (v := .pointer (some ⟨bb, 0, none⟩)) rfl rfl (by kernel_rfl) (by kernel_rfl) (by kernel_rfl) (fun _ _ _ h => h) (Or.inl ⟨by rfl, fun X _ => by go_simp⟩) hHeld ?_
          try simp only [Act.put, List.setIfInBounds_toArray, List.set_cons_zero, List.set_cons_succ]
          refine take_at (i := 26) (v := .pointer (some ⟨bb, 0, none⟩)) rfl rfl (by kernel_rfl) (by kernel_rfl) (by kernel_rfl) (fun _ _ _ h => h) (Or.inl ⟨by rfl, fun X _ => by go_simp⟩) hHeld ?_
          try simp only [Act.put, List.setIfInBounds_toArray, List.set_cons_zero, List.set_cons_succ]
          refine take_at (i := 27) (v := .agg #[.int .i64 am, .int .i64 bl, .int .i64 bs]) rfl rfl (by kernel_rfl) (by kernel_rfl) (by kernel_rfl) (fun _ _ _ h => h) (Or.inl ⟨by rfl, fun X hX => by obtain ⟨k0, k1, k2, k3⟩ := (hK3.out.duo.b.below hX).cells; simp only at k0 k1 k2 k3; go_simp⟩) hHeld ?_
          try simp only [Act.put, List.setIfInBounds_toArray, List.set_cons_zero, List.set_cons_succ]
          refine wpAnyH_ready (rs := [23]) (by kernel_rfl) (by simp) ?_
          refine AllReadyH.cons rfl (fun K hK => ?_) AllReadyH.nil
          rw [if_pos (by rfl)]
          go_wp2_with fail
          refine (mark_is am al as' _).mono ?_
          rintro e U5 ⟨rfl, hb⟩
          have hHb := below_call hHeld hb
          clear hHeld hb
          go_wp2_with fail
          refine hK.out _ _ (hHb) (fun hHeld => ?_)
          clear hK K hHb
          try simp only [Act.put, List.setIfInBounds_toArray, List.set_cons_zero, List.set_cons_succ]
          refine wpAnyH_ready (rs := [28]) (by kernel_rfl) (by simp) ?_
          refine AllReadyH.cons rfl (fun K hK => ?_) AllReadyH.nil
          rw [if_pos (by rfl)]
          go_wp2_with fail
          refine (mark_is am bl bs _).mono ?_
          rintro e U6 ⟨rfl, hb⟩
          have hHb := below_call hHeld hb
          clear hHeld hb
          go_wp2_with fail
          refine hK.out _ _ (hHb) (fun hHeld => ?_)
          clear hK K hHb
          try simp only [Act.put, List.setIfInBounds_toArray, List.set_cons_zero, List.set_cons_succ]
          refine take_at (i := 29) (v := .bool false) rfl rfl (by kernel_rfl) (by kernel_rfl) (by kernel_rfl) (fun _ _ _ h => h) (Or.inl ⟨by rfl, fun X _ => by go_simp⟩) hHeld ?_
          try simp only [Act.put, List.setIfInBounds_toArray, List.set_cons_zero, List.set_cons_succ]
          refine take_at (i := 30) (v := .bool false) rfl rfl (by kernel_rfl) (by kernel_rfl) (by kernel_rfl) (fun _ _ _ h => h) (Or.inl ⟨by rfl, fun X _ => by go_simp⟩) hHeld ?_
          try simp only [Act.put, List.setIfInBounds_toArray, List.set_cons_zero, List.set_cons_succ]
          refine wpAnyH_done (by kernel_rfl) ?_ _
          have hzf : W3.heap.size ≤ U6.heap.size := by have := hHeld.size; omega
          have hKf : Hid (KQ X0 U6 Bb ba qa oa2 ga bb qb ob2 gb qi ⟨os, pn, ps, pa, pk, pf⟩ ⟨[], pn, ps, pa, pk, pf⟩ ⟨am, al, as', aL⟩ ⟨am, bl, bs, aL⟩ (.slice none 0 0) (.slice none 0 0) [] [] (.slice (some ⟨qi, off, none⟩) m ic) is) := hK3.out.below hHeld
          clear hHeld hK3 hwr hro2 hp1 hp2
          have hpf : Hid ((0 ≤ al ∧ al ≤ (j + 1 : Nat)) ∧ (0 ≤ as' ∧ as' ≤ (j + 1 : Nat)) ∧ (0 ≤ bl ∧ bl ≤ (j + 1 : Nat)) ∧ (0 ≤ bs ∧ bs ≤ (j + 1 : Nat))) := by
            obtain ⟨⟨e1, e2⟩, e3, e4⟩ := hst2.out
            obtain ⟨⟨e5, e6⟩, e7, e8⟩ := hps.out
            try simp only at e1 e2 e3 e4 e5 e6 e7 e8
            exact ⟨⟨e1, by omega⟩, ⟨e3, by omega⟩, ⟨e5, by omega⟩, ⟨e7, by omega⟩⟩
          go_wp2_with fail
          go_roundw
          case rel => exact ⟨j + 1, oa2, ob2, _, _, by omega, by go_num, hm3, hpf, hlr, hKf, hzf⟩
          case measure => simp [intOf]; omega
    · obtain rfl : j = m := by omega
      have hQ := hK
      have hXr : Hid (Below g0 w wr) := hB.out.trans (hQ.out.bel.mono (by have := hB.out.size; have := hg0.out; omega))
      have hgr : g0 ≤ wr.heap.size := by have := hXr.out.size; have := hg0.out; omega
      go_wp2_with fail
      refine (runs_is _).mono ?_
      rintro e Wz ⟨rfl, hbz⟩
      go_wp2_with fail
      go_ret
      refine ⟨rfl, ?_⟩
      rw [hg0.out]
      exact hXr.out.trans (hbz.mono hgr)
end Go.Proofs.Ytalofffpjaomgaa
