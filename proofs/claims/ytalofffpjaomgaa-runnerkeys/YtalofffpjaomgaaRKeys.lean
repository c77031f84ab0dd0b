/- RunnerKeys, walked. -/
import Derived.Test.YtalofffpjaomgaaRDuo
import Derived.Test.YtalofffpjaomgaaMathQ
import Derived.Deep.QuietTactic
import Derived.BigQuiet
namespace Go.Proofs.Ytalofffpjaomgaa
open Go.RowKit M
open O (RdO Kpk Pik Small Ints)
open O.MO (Oq Pq rightP)
set_option linter.unusedVariables false
set_option linter.unusedSimpArgs false
attribute [local go_sem ↓] Go.wp_at_zero Go.wp_at_succ

/-- A row's block whole. -/
def Rok (w : World) (b : Nat) (p : Pn) : Prop := w.heap[b]? = some (.cells #[.int .i64 p.s, .int .i64 p.k, .int .i64 p.v, .int .i64 p.c, .int .u64 p.l] 45 (0, 0))
theorem Rok.c {w : World} {b : Nat} {p : Pn} (h : Rok w b p) : RwAt w b 0 p := by
  unfold Rok at h; exact ⟨by simp [World.cell?, h], by simp [World.cell?, h], by simp [World.cell?, h], by simp [World.cell?, h], by simp [World.cell?, h]⟩
theorem rok_new (w : World) (p : Pn) : Rok (w.alloc (.cells #[.int .i64 p.s, .int .i64 p.k, .int .i64 p.v, .int .i64 p.c, .int .u64 p.l] 45)) w.heap.size p := by
  show (w.heap.push _)[w.heap.size]? = _
  simp
/-- One row in a block of its own, as what is appended. -/
theorem row_src (w : World) (p : Pn) (g : Nat) (hg : w.heap.size = g) : SrcN 5 (w.alloc (.cells #[.int .i64 p.s, .int .i64 p.k, .int .i64 p.v, .int .i64 p.c, .int .u64 p.l] 45)) (.slice (some ⟨g, 0, none⟩) 1 1) 1 (rcs [p]) := by
  subst hg
  refine .inr ⟨_, _, rfl, rfl, fun j x hj => ?_⟩
  rw [rcs_single] at hj
  exact src_cells (cs := (rcell p).toArray) (e := 45) (by show (w.heap.push _)[w.heap.size]? = _; simp [rcell]) j x hj
theorem Ink.call {w w' : World} {b : Nat} {i : Inp} (h : Ink w b i) (hb : Below w.heap.size w w') : Ink w' b i := h.keep (hb.block b h.lt)
theorem small_plain {os : List Oq} {n s a k f : Int} (h : Small ⟨os, n, s, a, k, f⟩) : rightP ⟨[], n, s, a, k, f⟩ = true := by
  have h1 := (small_new h).1
  unfold rightP at h1 ⊢
  simp only [Bool.and_eq_true] at h1 ⊢
  exact ⟨by decide, h1.2⟩
theorem rows_one (p : Pq) (r : Rs) (i : Inp) : rowsR p r [i] = rowR p r i := by simp [rowsR]
theorem rowsK_len (y : Int) (L : List Pn) : (rowsK y L).length ≤ L.length := List.length_filter_le _ _

set_option maxHeartbeats 8000000 in
set_option maxRecDepth 100000 in
theorem runnerKeys_walk (k : KeepIn) (la : Option Addr) (ll lc : Nat) (key : Int) (w : World) (hk : IsKeep w k) (hI : Ins4 w la ll lc) (hkey : (Lit.int .i64 key).wf = true) :
    Calls Try.prog 8 #[kin k, .slice la ll lc, .int .i64 key] w fun e w' => e = .returned (.bool true) ∧ Below w.heap.size w w' := by
  obtain ⟨ao, lo, co, an, ln, cn, kn, ks, kg, kk, kf⟩ := k
  unfold kin
  obtain ⟨hk1, hk2⟩ := hk
  simp only at hk1 hk2
  have hI' : Hid (Ins4 w la ll lc) := hI
  clear hI
  go_enter Try.func8, Try.ntmps8
  go_upto_region 1 with fail
  refine world_gen (fun W => Hid (Kpk W w.heap.size (.slice ao lo co) (.slice an ln cn) kn ks kg kk kf) ∧ Hid (Ints W ao lo co) ∧ Hid (Ints W an ln cn) ∧ Hid (Below w.heap.size w W)) ⟨O.kpk_new _ _ _ _ _ _ _ _, hk1.call (below_alloc _ _), hk2.call (below_alloc _ _), below_alloc _ _⟩ ?_
  clear hk1 hk2
  rintro W ⟨hK, hk1, hk2, hB⟩
  obtain ⟨g0, hg0⟩ : ∃ x, Hid (w.heap.size = x) := ⟨_, rfl⟩
  rw [hg0.out] at hK hB ⊢
  have c0 := hK.out.c0
  have c1 := hK.out.c1
  have c2 := hK.out.c2
  have c3 := hK.out.c3
  have c4 := hK.out.c4
  have c5 := hK.out.c5
  have c6 := hK.out.c6
  go_wp2_with fail
  refine (O.keep_any ao lo co an ln cn kn ks kg kk kf _ hk1.out hk2.out).mono ?_
  rintro e W1 ⟨⟨os, pn, ps, pa, pk, pf⟩, u, hS, he, ho, hu, b1⟩
  simp only at he ho
  subst he
  obtain ⟨ua, uc, rfl⟩ := own_len ho
  have hS' : Hid (Small ⟨os, pn, ps, pa, pk, pf⟩) := hS
  have hO : Hid (OpsIn W1 (.slice ua os.length uc) os) := ⟨O.own_base ho (Nat.zero_le _), (small_new hS).2.2.1⟩
  have hWz : g0 ≤ W.heap.size := by have := hB.out.size; have := hg0.out; omega
  replace hB : Hid (Below g0 w W1) := hB.out.trans (b1.mono hWz)
  clear hK hk1 hk2 c0 c1 c2 c3 c4 c5 c6 ho hu b1 hS
  go_upto_region 2 with fail
  refine world_gen (fun X => Hid (Pik X W1.heap.size (.slice ua os.length uc) pn ps pa pk pf) ∧ Hid (OpsIn X (.slice ua os.length uc) os) ∧ Hid (Below g0 w X) ∧ W1.heap.size < X.heap.size) ⟨O.pik_new _ _ _ _ _ _ _, hO.out.below (below_alloc _ _), hB.out.alloc (by have := hB.out.size; have := hg0.out; omega) _, by simp⟩ ?_
  have hgw : g0 ≤ W1.heap.size := by have := hB.out.size; have := hg0.out; omega
  clear hO hB
  generalize W1.heap.size = gp at hgw ⊢
  rintro W0 ⟨hP, hO, hB, hgp⟩
  have f0 := hP.out.free 0
  have c0 := hP.out.c0
  go_upto_region 3 with fail
  refine world_gen (fun X => Hid (Pik X gp (.slice none 0 0) pn ps pa pk pf) ∧ Hid (Below g0 w X) ∧ gp < X.heap.size) ⟨hP.out.set0 _, hB.out.setCell (show g0 ≤ gp from hgw) _, by simpa [World.setCell] using hgp⟩ ?_
  clear hP hO hB hgp f0 c0
  rintro X0 ⟨hP, hB, hgp⟩
  go_wp2_with fail
  refine (O.within_any key 0 3 _ (by decide) (by decide) (by decide)).mono ?_
  rintro e V ⟨⟨y, hy0, hy1, rfl⟩, he⟩; obtain rfl := he.symm; clear he
  go_upto_region 4 with fail
  refine wp_region_held_drew (S := fun X => Below X0.heap.size X0 X) (by kernel_rfl) (Below.refl _ _).drew (fun hHeld => ?_)
  generalize X0.drew = V at hHeld ⊢
  refine take_at (i := 0) (v := O.pv (.slice none 0 0) pn ps pa pk pf) rfl rfl (by kernel_rfl) (by kernel_rfl) (by kernel_rfl) (fun _ _ _ h => h) (Or.inl ⟨by rfl, fun X hX => by have h := hP.out.call hX; have c0 := h.c0; have c1 := h.c1; have c2 := h.c2; have c3 := h.c3; have c4 := h.c4; have c5 := h.c5; go_simp⟩) hHeld ?_
  try simp only [Act.put, List.setIfInBounds_toArray, List.set_cons_zero, List.set_cons_succ]
  refine take_at (i := 2) (v := O.pv (.slice none 0 0) pn ps pa pk pf) rfl rfl (by kernel_rfl) (by kernel_rfl) (by kernel_rfl) (fun _ _ _ h => h) (Or.inl ⟨by rfl, fun X hX => by have h := hP.out.call hX; have c0 := h.c0; have c1 := h.c1; have c2 := h.c2; have c3 := h.c3; have c4 := h.c4; have c5 := h.c5; go_simp⟩) hHeld ?_
  try simp only [Act.put, List.setIfInBounds_toArray, List.set_cons_zero, List.set_cons_succ]
  refine wpAnyH_ready (rs := [1]) (by kernel_rfl) (by simp) ?_
  refine AllReadyH.cons rfl (fun K hK => ?_) AllReadyH.nil
  rw [if_pos (by rfl)]
  go_wp2_with fail
  refine (new_is (.slice none 0 0) ⟨[], pn, ps, pa, pk, pf⟩ _ (opsIn_nil _) (small_plain hS'.out) (by simp)).mono ?_
  rintro e V2 ⟨ba, qa, oa, ga, rfl, hRa, za1, za2, za3, za4, hb⟩
  have hVz := hHeld.size
  have hA : Hid (Rnr V2 ba qa oa ga ⟨[], pn, ps, pa, pk, pf⟩ ⟨0, 0, 0, []⟩) := hRa
  clear hRa
  have hHb := below_call hHeld hb
  clear hHeld hb
  go_wp2_with fail
  refine hK.out _ _ (hHb) (fun hHeld => ?_)
  clear hK K hHb
  try simp only [Act.put, List.setIfInBounds_toArray, List.set_cons_zero, List.set_cons_succ]
  refine wpAnyH_ready (rs := [3]) (by kernel_rfl) (by simp) ?_
  refine AllReadyH.cons rfl (fun K hK => ?_) AllReadyH.nil
  rw [if_pos (by rfl)]
  go_wp2_with fail
  refine (new_is (.slice none 0 0) ⟨[], pn, ps, pa, pk, pf⟩ _ (opsIn_nil _) (small_plain hS'.out) (by simp)).mono ?_
  rintro e V3 ⟨bb, qb, ob, gb, rfl, hRb, zb1, zb2, zb3, zb4, hb⟩
  have hBb : Hid (Rnr V3 bb qb ob gb ⟨[], pn, ps, pa, pk, pf⟩ ⟨0, 0, 0, []⟩) := hRb
  obtain ⟨la1, la2, la3, la4⟩ := hA.out.lt
  replace hA : Hid (Rnr V3 ba qa oa ga ⟨[], pn, ps, pa, pk, pf⟩ ⟨0, 0, 0, []⟩) := hA.out.below hb
  clear hRb
  have hHb := below_call hHeld hb
  clear hHeld hb
  go_wp2_with fail
  refine hK.out _ _ (hHb) (fun hHeld => ?_)
  clear hK K hHb
  try simp only [Act.put, List.setIfInBounds_toArray, List.set_cons_zero, List.set_cons_succ]
  refine take_at (i := 4) (v := .pointer (some ⟨ba, 0, none⟩)) rfl rfl (by kernel_rfl) (by kernel_rfl) (by kernel_rfl) (fun _ _ _ h => h) (Or.inl ⟨by rfl, fun X _ => by go_simp⟩) hHeld ?_
  try simp only [Act.put, List.setIfInBounds_toArray, List.set_cons_zero, List.set_cons_succ]
  refine take_at (i := 5) (v := .pointer (some ⟨bb, 0, none⟩)) rfl rfl (by kernel_rfl) (by kernel_rfl) (by kernel_rfl) (fun _ _ _ h => h) (Or.inl ⟨by rfl, fun X _ => by go_simp⟩) hHeld ?_
  try simp only [Act.put, List.setIfInBounds_toArray, List.set_cons_zero, List.set_cons_succ]
  refine wpAnyH_done (by kernel_rfl) ?_ _
  have hF : Hid (Below X0.heap.size X0 V3) := hHeld
  clear hHeld
  have hD : Hid (Duo V3 ba qa oa ga bb qb ob gb ⟨[], pn, ps, pa, pk, pf⟩ ⟨[], pn, ps, pa, pk, pf⟩ ⟨0, 0, 0, []⟩ ⟨0, 0, 0, []⟩) := ⟨hA.out, hBb.out, ⟨by omega, by omega, by omega, by omega⟩, ⟨by omega, by omega, by omega, by omega⟩, ⟨by omega, by omega, by omega, by omega⟩, ⟨by omega, by omega, by omega⟩⟩
  have hz0 : X0.heap.size ≤ ba ∧ X0.heap.size ≤ qa ∧ X0.heap.size ≤ oa ∧ X0.heap.size ≤ bb ∧ X0.heap.size ≤ qb ∧ X0.heap.size ≤ ob := ⟨by omega, by omega, by omega, by omega, by omega, by omega⟩
  obtain ⟨lb1, lb2, lb3, lb4⟩ := hBb.out.lt
  have hzV : ba < V3.heap.size ∧ qa < V3.heap.size ∧ oa < V3.heap.size ∧ ga < V3.heap.size := ⟨by omega, by omega, by omega, by omega⟩
  clear za1 za2 za3 za4 zb1 zb2 zb3 zb4 la1 la2 la3 la4
  obtain ⟨d0, d1, d2, d3⟩ := hA.out.cells
  obtain ⟨e0, e1, e2, e3⟩ := hBb.out.cells
  go_upto_region 8 with fail
  clear d0 d1 d2 d3 e0 e1 e2 e3 hA hBb
  have hB3 : Hid (Below g0 w V3) := hB.out.trans (hF.out.mono (by have := hB.out.size; have := hg0.out; omega))
  go_wp2_with fail
  refine (inputs_is la ll lc _ (hI'.out.below hB3.out (Nat.le_of_eq hg0.out) hB3.out.size)).mono ?_
  rintro e W3 ⟨iu, is, rfl, hl25, hG, ho, b3⟩
  obtain ⟨ia, ic, rfl⟩ := own_len ho
  obtain ⟨qi, hrd, hq1, hq3, hq4⟩ := rdi_own ho (fun i hi => (hG i hi).lt) b3.size
  have hG' : Hid (∀ i ∈ is, Good i) := hG
  have hz3 : V3.heap.size ≤ W3.heap.size := b3.size
  obtain ⟨y1, y2, y3, y4⟩ := hzV
  obtain ⟨z1, z2, z3, z4, z5, z6⟩ := hz0
  have hK0 : Hid (KQ X0 W3 (W3.heap.size + 1) ba qa oa ga bb qb ob gb qi ⟨[], pn, ps, pa, pk, pf⟩ ⟨[], pn, ps, pa, pk, pf⟩ ⟨0, 0, 0, []⟩ ⟨0, 0, 0, []⟩ (.slice none 0 0) (.slice none 0 0) [] [] (.slice ia is.length ic) is) :=
    ⟨hD.out.below b3, World.ownsRow_nil _ _ _ _, World.ownsRow_nil _ _ _ _, (fun k hk => by cases hk), hrd, ⟨by omega, by omega, by omega, by omega, by omega, by omega⟩, ⟨by omega, by omega, by omega, by omega, by omega, by omega, by omega⟩, ⟨z1, z2, z3, z4, z5, z6⟩, below_call hF.out b3⟩
  obtain ⟨Bb, hBb⟩ : ∃ x, Hid (W3.heap.size + 1 = x) := ⟨_, rfl⟩
  rw [hBb.out] at hK0
  have hBz : X0.heap.size ≤ Bb := by have := hBb.out; have := hF.out.size; omega
  have hBqi : qi < Bb := by have := hBb.out; omega
  clear hD hrd hG ho b3 hq3 hF hB3 y1 y2 y3 y4 z1 z2 z3 z4 z5 z6 lb1 lb2 lb3 lb4
  obtain ⟨m, hm⟩ : ∃ m, Hid (is.length = m) := ⟨_, rfl⟩
  rw [hm.out] at hl25 hK0 ⊢
  obtain ⟨i0, hi, hz0, hz1, hz2⟩ := info_parts Try.info45
  have hW3w : W3.heap.size ≤ W3.heap.size := Nat.le_refl _
  go_wp2_with fail
  go_loopw [11, 12, 49] (fun u v i wr => ∃ (j oa1 ob1 : Nat) (ra rb : Rs) (L : List Pn), j ≤ m ∧ i = .int .i64 j ∧ Hid (ra = stR ⟨[], pn, ps, pa, pk, pf⟩ ⟨0, 0, 0, []⟩ (is.take j)) ∧ Hid (TwoK y ra rb) ∧ Hid (0 ≤ rb.l ∧ 0 ≤ rb.s) ∧ L.length + ra.L.length ≤ 8 * j ∧ Hid (KQ X0 wr Bb ba qa oa1 ga bb qb ob1 gb qi ⟨[], pn, ps, pa, pk, pf⟩ ⟨[], pn, ps, pa, pk, pf⟩ ra rb u v L L (.slice ia m ic) is) ∧ W3.heap.size ≤ wr.heap.size) (fun _ _ i _ => m - (intOf i).toNat)
  case atStart => exact ⟨0, oa, ob, ⟨0, 0, 0, []⟩, ⟨0, 0, 0, []⟩, [], Nat.zero_le _, rfl, rfl, ⟨rfl, by decide, by decide, rfl⟩, ⟨by decide, by decide⟩, by simp, hK0, hW3w⟩
  case round =>
    clear hK0 hW3w
    obtain ⟨j, oa1, ob1, ra, rb, L, hj, rfl, hra, hT, hpos, hLl, hK, hwz⟩ := hrel
    by_cases hlt : j < m
    · have hjl : j < is.length := by rw [hm.out]; exact hlt
      obtain ⟨_, _, iao, icap, hiv, _, _, hic⟩ := hK.out.rd
      injection hiv with hi1 hi2 hi3
      subst hi1 hi3
      clear hi2
      obtain ⟨off, rfl, hqz, hcell⟩ := hic (by omega)
      obtain ⟨c0, c1, c2, c3, c4⟩ := hcell j hjl
      have hgx := hG'.out (iAt is j) (iAt_mem is j hjl)
      have hra2 : Hid (stR ⟨[], pn, ps, pa, pk, pf⟩ ⟨0, 0, 0, []⟩ (is.take (j + 1)) = stepR ⟨[], pn, ps, pa, pk, pf⟩ ra (iAt is j)) := by
        have h : stR ⟨[], pn, ps, pa, pk, pf⟩ ⟨0, 0, 0, []⟩ (is.take (j + 1)) = stepR ⟨[], pn, ps, pa, pk, pf⟩ ra (iAt is j) := by rw [take_in is j hjl, stR_snoc, hra.out]
        exact h
      have hct := all_counts ⟨[], pn, ps, pa, pk, pf⟩ (is.take j) ⟨0, 0, 0, []⟩
      rw [← hra.out, List.length_take] at hct
      obtain ⟨ix, hix⟩ : ∃ x, Hid (iAt is j = x) := ⟨_, rfl⟩
      rw [hix.out] at c0 c1 c2 c3 c4 hra2 hgx
      have hcta : Hid ((0 ≤ ra.l ∧ ra.l ≤ 25) ∧ (0 ≤ ra.s ∧ ra.s ≤ 25)) := by
        have h : (0 ≤ ra.l ∧ ra.l ≤ 25) ∧ (0 ≤ ra.s ∧ ra.s ≤ 25) := by simp only at hct; omega
        exact h
      clear hcell hic hct hix
      obtain ⟨r1, r2, r3, r4⟩ := hK.out.duo.a.lt
      obtain ⟨s1, s2, s3, s4⟩ := hK.out.duo.b.lt
      go_upto_region 11 with fail
      clear c0 c1 c2 c3 c4
      refine world_gen (fun X => Hid (Ink X wr.heap.size ix) ∧ Hid (KQ X0 X Bb ba qa oa1 ga bb qb ob1 gb qi ⟨[], pn, ps, pa, pk, pf⟩ ⟨[], pn, ps, pa, pk, pf⟩ ra rb u11 u12 L L (.slice (some ⟨qi, off, none⟩) m ic) is) ∧ Bb ≤ X.heap.size) ⟨ink_new _ _, hK.out.below (below_alloc _ _), by have := hBb.out; simp; omega⟩ ?_
      clear hK
      obtain ⟨gi, hgi⟩ : ∃ x, Hid (wr.heap.size = x) := ⟨_, rfl⟩
      rw [hgi.out]
      rw [hgi.out] at r1 r2 r3 s1 s2 s3 hqz
      rintro W ⟨hx, hK, hBW⟩
      clear hwz
      obtain ⟨mk, ⟨et, ek, ev, el⟩⟩ := ix
      obtain ⟨c0, c1, c2, c3, c4⟩ := hx.out.c
      simp only at c0 c1 c2 c3 c4
      have hgiW : gi < W.heap.size := hx.out.lt
      have hrab := hcta.out
      go_wp2_with fail
      have hI1 : Hid (RdI (W.alloc (.cells (ins [⟨mk, ⟨et, ek, ev, el⟩⟩]).toArray 40)) (.slice (some ⟨W.heap.size, 0, none⟩) 1 1) W.heap.size [⟨mk, ⟨et, ek, ev, el⟩⟩]) := rdi_lit W [⟨mk, ⟨et, ek, ev, el⟩⟩] (by simp) (by simpa using hgx.lt)
      refine (rtake_is ba qa oa1 ga ⟨[], pn, ps, pa, pk, pf⟩ ra _ W.heap.size _ _ (hK.out.duo.a.below (below_alloc _ _)) hI1.out (by omega) (by omega) (by omega) (by simp; omega) (by simp; omega) (by simp; omega)).mono ?_
      rintro e Wt ⟨tu, oa2, rfl, htu, hRa, hoa, hch⟩
      rw [rows_one] at htu
      have hst := step_total ⟨[], pn, ps, pa, pk, pf⟩ ra ⟨mk, ⟨et, ek, ev, el⟩⟩
      have hR0 : Hid (Rnr Wt ba qa oa2 ga ⟨[], pn, ps, pa, pk, pf⟩ (stepR ⟨[], pn, ps, pa, pk, pf⟩ ra ⟨mk, ⟨et, ek, ev, el⟩⟩)) := hRa
      obtain ⟨t2a, t2b⟩ := two_step (p := ⟨[], pn, ps, pa, pk, pf⟩) (i := ⟨mk, ⟨et, ek, ev, el⟩⟩) rfl hT.out hK.out.duo.a.okl.1
      have t2a' : Hid _ := t2a
      have t2b' : Hid _ := t2b
      obtain ⟨ra', hra'⟩ : ∃ r, Hid (stepR ⟨[], pn, ps, pa, pk, pf⟩ ra ⟨mk, ⟨et, ek, ev, el⟩⟩ = r) := ⟨_, rfl⟩
      obtain ⟨R, hR⟩ : ∃ r, Hid (rowR ⟨[], pn, ps, pa, pk, pf⟩ ra ⟨mk, ⟨et, ek, ev, el⟩⟩ = r) := ⟨_, rfl⟩
      rw [hra'.out] at hst hR0 hra2
      rw [hR.out] at hst htu
      obtain ⟨ta, tc, rfl⟩ := own_len htu
      have hWa : W.heap.size < (W.alloc (.cells (ins [⟨mk, ⟨et, ek, ev, el⟩⟩]).toArray 40)).heap.size := by simp
      have hKt : Hid (KQ X0 Wt Bb ba qa oa2 ga bb qb ob1 gb qi ⟨[], pn, ps, pa, pk, pf⟩ ⟨[], pn, ps, pa, pk, pf⟩ ra' rb u11 u12 L L (.slice (some ⟨qi, off, none⟩) m ic) is) := (hK.out.below (below_alloc _ _)).takeA (by simp; omega) hR0.out hch hoa
      have hxt : Hid (Ink Wt gi ⟨mk, ⟨et, ek, ev, el⟩⟩) := (hx.out.call (below_alloc _ _)).keep (hch.other gi (by simp; omega) (by omega) (by omega) (by omega))
      have htu' : Hid (Wt.ownsRow W.heap.size 45 5 (.slice ta R.length tc) R.length (rcs R)) := O.own_base htu (Nat.le_of_lt hWa)
      have hne0 : Hid (∀ k, u11.ownBlock = some k → (Value.slice ta R.length tc).ownBlock ≠ some k) := fun k hk hk2 => by
        have h1 := (hK.out.hu.lt k hk).2
        have h2 := (htu.lt k hk2).1
        omega
      have hWt : Bb ≤ Wt.heap.size := by have := hch.size; simp at this; omega
      obtain ⟨N, hN⟩ : ∃ N, Hid (R.length = N) := ⟨_, rfl⟩
      rw [hN.out] at htu' hne0 hst ⊢
      clear hRa hR0 hch hoa hI1 t2a t2b htu hK hx c0 c1 c2 c3 c4
      go_wp2_with fail
      have hKt0 : Hid (KQ X0 Wt Bb ba qa oa2 ga bb qb ob1 gb qi ⟨[], pn, ps, pa, pk, pf⟩ ⟨[], pn, ps, pa, pk, pf⟩ ra' rb u11 u12 (L ++ rowsK y (R.take 0)) L (.slice (some ⟨qi, off, none⟩) m ic) is) := by
        have h : L ++ rowsK y (R.take 0) = L := by simp [rowsK]
        rw [h]; exact hKt
      go_loopw [11, 58] (fun u i wx => ∃ c : Nat, c ≤ N ∧ i = .int .i64 c ∧ Hid (KQ X0 wx Bb ba qa oa2 ga bb qb ob1 gb qi ⟨[], pn, ps, pa, pk, pf⟩ ⟨[], pn, ps, pa, pk, pf⟩ ra' rb u u12 (L ++ rowsK y (R.take c)) L (.slice (some ⟨qi, off, none⟩) m ic) is) ∧ Hid (Ink wx gi ⟨mk, ⟨et, ek, ev, el⟩⟩) ∧ Hid (wx.ownsRow W.heap.size 45 5 (.slice ta N tc) N (rcs R)) ∧ Hid (∀ k, u.ownBlock = some k → (Value.slice ta N tc).ownBlock ≠ some k) ∧ Bb ≤ wx.heap.size) (fun _ i _ => N - (intOf i).toNat)
      case atStart => exact ⟨0, Nat.zero_le _, rfl, hKt0, hxt, htu', hne0, hWt⟩
      case round =>
        clear hKt hKt0 hxt htu' hne0 hWt
        obtain ⟨c, hc, rfl, hK, hx, htu, hne, hwz⟩ := hrel
        have hLK : (L ++ rowsK y (R.take c)).length ≤ 600 := by
          have h1 := rowsK_len y (R.take c)
          rw [List.length_take] at h1
          rw [List.length_append]
          omega
        by_cases hcl : c < N
        · have hrd : RdR wr (.slice ta N tc) R := by
            have h : wr.ownsRow W.heap.size 45 5 (.slice ta N tc) R.length (rcs R) := by rw [hN.out]; exact htu.out
            exact rdr_own h
          obtain ⟨_, xa, xc, hxe, _, _, hxc⟩ := hrd
          injection hxe with hx1 hx2 hx3
          subst hx1 hx3
          clear hx2
          obtain ⟨xb, xo, rfl, hxb, hcell⟩ := hxc (by rw [hN.out]; omega)
          obtain ⟨v0, v1, v2, v3, v4⟩ := hcell c (by rw [hN.out]; exact hcl)
          have hsn : Hid (R.take (c + 1) = R.take c ++ [pAt R c]) := take_pn R c (by rw [hN.out]; exact hcl)
          obtain ⟨⟨p1, p2, p3, p4, p5⟩, hpr⟩ : ∃ z, Hid (pAt R c = z) := ⟨_, rfl⟩
          rw [hpr.out] at v0 v1 v2 v3 v4 hsn
          simp only at v0 v1 v2 v3 v4
          clear hcell hxc hpr
          go_upto_region 14 with fail
          clear v0 v1 v2 v3 v4
          refine world_gen (fun X => Hid (Rok X wr.heap.size ⟨p1, p2, p3, p4, p5⟩) ∧ Hid (KQ X0 X Bb ba qa oa2 ga bb qb ob1 gb qi ⟨[], pn, ps, pa, pk, pf⟩ ⟨[], pn, ps, pa, pk, pf⟩ ra' rb u11 u12 (L ++ rowsK y (R.take c)) L (.slice (some ⟨qi, off, none⟩) m ic) is) ∧ Hid (Ink X gi ⟨mk, ⟨et, ek, ev, el⟩⟩) ∧ Hid (X.ownsRow W.heap.size 45 5 (.slice (some ⟨xb, xo, none⟩) N tc) N (rcs R)) ∧ Bb ≤ X.heap.size) ⟨rok_new wr ⟨p1, p2, p3, p4, p5⟩, hK.out.below (below_alloc _ _), hx.out.call (below_alloc _ _), own_below htu.out (below_alloc _ _), by simp; omega⟩ ?_
          clear hK hx htu hwz
          generalize wr.heap.size = gr
          rintro Y ⟨hr, hK, hx, htu, hwz⟩
          obtain ⟨v0, v1, v2, v3, v4⟩ := hr.out.c
          simp only at v0 v1 v2 v3 v4
          by_cases hpy : p2 = y
          · have hpy2 : y = p2 := hpy.symm
            subst hpy2
            have hdec : (y == y) = true := by simp
            obtain ⟨LL, hLL⟩ : ∃ x, Hid (L ++ rowsK y (R.take c) = x) := ⟨_, rfl⟩
            have hnew : Hid (L ++ rowsK y (R.take (c + 1)) = LL ++ [⟨p1, y, p3, p4, p5⟩]) := by
              have h : L ++ rowsK y (R.take (c + 1)) = LL ++ [⟨p1, y, p3, p4, p5⟩] := by rw [hsn.out, rowsK_snoc, if_pos rfl, ← List.append_assoc, hLL.out]
              exact h
            rw [hLL.out] at hK hLK
            go_wp2_with (at_builtin; refine wpList_append_srcF _ (by rfl) _ _ 34 rfl 5 Bb 45 i0 rzero 40 Try.underlying34 hi hz0 hz1 hz2 rfl (by decide) u11 LL.length (rcs LL) rfl (hK.out.hu.alloc _) (.slice (some ⟨Y.heap.size, 0, none⟩) 1 1) 1 (rcs [⟨p1, y, p3, p4, p5⟩]) rfl (row_src Y ⟨p1, y, p3, p4, p5⟩ _ rfl) (rcs_one _) ?c1 ?c2 ?c3 ?_)
            case c1 => unfold maxLen; omega
            case c2 => omega
            case c3 => first | omega | (simp; omega)
            intro v5 W5 o5 b5 g5 f5
            have hYs : (Y.alloc (.cells #[.int .i64 p1, .int .i64 y, .int .i64 p4, .int .i64 p3, .int .u64 p5] 45)).heap.size = Y.heap.size + 1 := by simp
            have o6 : W5.ownsRow Bb 45 5 v5 (L ++ rowsK y (R.take (c + 1))).length (rcs (L ++ rowsK y (R.take (c + 1)))) := by
              rw [hnew.out, rcs_append, List.length_append]
              exact o5
            have hK5 : Hid (KQ X0 W5 Bb ba qa oa2 ga bb qb ob1 gb qi ⟨[], pn, ps, pa, pk, pf⟩ ⟨[], pn, ps, pa, pk, pf⟩ ra' rb v5 u12 (L ++ rowsK y (R.take (c + 1))) L (.slice (some ⟨qi, off, none⟩) m ic) is) := (hK.out.below (below_alloc _ _)).appU hBz o6 g5 b5 (fun k hk => by rw [hYs]; exact f5 k hk)
            have hx4 := hx.out.call (below_alloc Y (.cells #[.int .i64 p1, .int .i64 y, .int .i64 p4, .int .i64 p3, .int .u64 p5] 45))
            have hx5 : Hid (Ink W5 gi ⟨mk, ⟨et, ek, ev, el⟩⟩) := hx4.keep (g5.block gi hx4.lt (fun e => own_typed (own_below hK.out.hu (below_alloc _ _)) hx4 (by decide) gi e.symm rfl))
            have htu4 := own_below htu.out (below_alloc Y (.cells #[.int .i64 p1, .int .i64 y, .int .i64 p4, .int .i64 p3, .int .u64 p5] 45))
            have htu5 : Hid (W5.ownsRow W.heap.size 45 5 (.slice (some ⟨xb, xo, none⟩) N tc) N (rcs R)) := own_grown htu4 g5 (fun k hk e => hne.out k e hk)
            have hne5 : Hid (∀ k, v5.ownBlock = some k → (Value.slice (some ⟨xb, xo, none⟩) N tc).ownBlock ≠ some k) := fun k hk hk2 => by
              rcases f5 k hk with h | h
              · exact hne.out k h hk2
              · have h2 := (htu4.lt k hk2).2
                rw [hYs] at h2
                omega
            have hz5 : Bb ≤ W5.heap.size := by
              have := b5.size
              have h2 : (Y.alloc (.cells #[.int .i64 p1, .int .i64 y, .int .i64 p4, .int .i64 p3, .int .u64 p5] 45)).heap.size = Y.heap.size + 1 := by simp
              omega
            clear o5 o6 b5 g5 f5 hK hx htu hne hx4 htu4 v0 v1 v2 v3 v4 hr
            go_wp2_with fail
            go_roundw
            case rel => exact ⟨c + 1, by omega, by go_num, hK5, hx5, htu5, hne5, hz5⟩
            case measure => simp [intOf]; omega
          · have hdec : (p2 == y) = false := by simpa using hpy
            have hnew : Hid (rowsK y (R.take (c + 1)) = rowsK y (R.take c)) := by
              have h : rowsK y (R.take (c + 1)) = rowsK y (R.take c) := by rw [hsn.out, rowsK_snoc, if_neg hpy]
              exact h
            go_wp2_with fail
            go_roundw
            case rel => exact ⟨c + 1, by omega, by go_num, by rw [hnew.out]; exact hK, hx, htu, hne, hwz⟩
            case measure => simp [intOf]; omega
        · obtain rfl : c = N := by omega
          rw [List.take_of_length_le (Nat.le_of_eq hN.out)] at hK hLK
          clear htu hne
          have hrbL : rb.L.length ≤ ra.L.length := by have h1 := hT.out.L; have h2 := rowsK_len y ra.L; rw [h1]; exact h2
          have hrbl := hT.out.l
          have hrbs := hT.out.s
          have hrbp := hpos.out
          have hKl : (L ++ rowsK y R).length + ra'.L.length ≤ 8 * (j + 1) := by
            have h1 := rowsK_len y R
            have h2 := hN.out
            rw [List.length_append]
            omega
          have hgiX : gi < wr.heap.size := hx.out.lt

          cases mk with
          | true =>
            have hf : forK y ⟨true, ⟨et, ek, ev, el⟩⟩ = true := by simp [forK]
            obtain ⟨hT2, hrow⟩ := t2a'.out hf
            rw [hra'.out] at hT2
            rw [hR.out] at hrow
            obtain ⟨c0, c1, c2, c3, c4⟩ := hx.out.c
            simp only at c0 c1 c2 c3 c4
            go_wp2_with fail
            have hI2 : Hid (RdI (wr.alloc (.cells (ins [⟨true, ⟨et, ek, ev, el⟩⟩]).toArray 40)) (.slice (some ⟨wr.heap.size, 0, none⟩) 1 1) wr.heap.size [⟨true, ⟨et, ek, ev, el⟩⟩]) := rdi_lit wr [⟨true, ⟨et, ek, ev, el⟩⟩] (by simp) (by simpa using hgx.lt)
            obtain ⟨q1, q2, q3, q4⟩ := hK.out.duo.b.lt
            refine (rtake_is bb qb ob1 gb ⟨[], pn, ps, pa, pk, pf⟩ rb _ wr.heap.size _ _ (hK.out.duo.b.below (below_alloc _ _)) hI2.out (by omega) (by omega) (by omega) (by simp; omega) (by simp; omega) (by simp; omega)).mono ?_
            rintro e Wb ⟨tu2, ob2, rfl, htu2, hRb, hob, hch2⟩
            rw [rows_one] at htu2
            have hRb2 : Hid (Rnr Wb bb qb ob2 gb ⟨[], pn, ps, pa, pk, pf⟩ (stepR ⟨[], pn, ps, pa, pk, pf⟩ rb ⟨true, ⟨et, ek, ev, el⟩⟩)) := hRb
            have hsc := step_counts ⟨[], pn, ps, pa, pk, pf⟩ rb ⟨true, ⟨et, ek, ev, el⟩⟩
            rw [← hrow] at htu2
            obtain ⟨rb', hrb'⟩ : ∃ r, Hid (stepR ⟨[], pn, ps, pa, pk, pf⟩ rb ⟨true, ⟨et, ek, ev, el⟩⟩ = r) := ⟨_, rfl⟩
            rw [hrb'.out] at hRb2 hT2 hsc
            have hK2 : Hid (KQ X0 Wb Bb ba qa oa2 ga bb qb ob2 gb qi ⟨[], pn, ps, pa, pk, pf⟩ ⟨[], pn, ps, pa, pk, pf⟩ ra' rb' u11 u12 (L ++ rowsK y R) L (.slice (some ⟨qi, off, none⟩) m ic) is) := (hK.out.below (below_alloc _ _)).takeB (by simp; omega) hRb2.out hch2 hob
            have hzb : Bb ≤ Wb.heap.size := by have h1 := hch2.size; have h2 : (wr.alloc (.cells (ins [⟨true, ⟨et, ek, ev, el⟩⟩]).toArray 40)).heap.size = wr.heap.size + 1 := by simp
                                               omega
            have htu3 : Hid (Wb.ownsRow (wr.alloc (.cells (ins [⟨true, ⟨et, ek, ev, el⟩⟩]).toArray 40)).heap.size 45 5 tu2 (rowsK y R).length (rcs (rowsK y R))) := htu2
            have hrK := rowsK_len y R
            have hT2' : Hid (TwoK y ra' rb') := hT2
            have hp2 : Hid (0 ≤ rb'.l ∧ 0 ≤ rb'.s) := ⟨by omega, by omega⟩
            have hLR : L.length + (rowsK y R).length ≤ 600 := by rw [List.length_append] at hLK; exact hLK
            clear hRb hRb2 hob hch2 hI2 htu2 hx hK c0 c1 c2 c3 c4 hT2 hrow hsc q1 q2 q3 q4 hgiX
            go_wp2_with (at_builtin; refine wpList_append_srcF _ (by rfl) _ _ 34 rfl 5 Bb 45 i0 rzero 40 Try.underlying34 hi hz0 hz1 hz2 rfl (by decide) u12 L.length (rcs L) rfl hK2.out.hv tu2 (rowsK y R).length (rcs (rowsK y R)) rfl (srcN_own htu3.out) (rcs_one _) ?c1 ?c2 ?c3 ?_)
            case c1 => unfold maxLen; omega
            case c2 => omega
            case c3 => exact hzb
            intro v6 W6 o6 b6 g6 f6
            have o7 : W6.ownsRow Bb 45 5 v6 (L ++ rowsK y R).length (rcs (L ++ rowsK y R)) := by
              rw [rcs_append, List.length_append]
              exact o6
            have hK6 : Hid (KQ X0 W6 Bb ba qa oa2 ga bb qb ob2 gb qi ⟨[], pn, ps, pa, pk, pf⟩ ⟨[], pn, ps, pa, pk, pf⟩ ra' rb' u11 v6 (L ++ rowsK y R) (L ++ rowsK y R) (.slice (some ⟨qi, off, none⟩) m ic) is) := hK2.out.appV hBz o7 g6 b6 f6
            have hz6 : W3.heap.size ≤ W6.heap.size := by have := b6.size; have := hBb.out; omega
            clear o6 o7 b6 g6 f6 hK2 htu3
            go_wp2_with fail
            go_roundw
            case rel => exact ⟨j + 1, oa2, ob2, ra', rb', L ++ rowsK y R, by omega, by go_num, hra2.out.symm, hT2', hp2, hKl, hK6, hz6⟩
            case measure => simp [intOf]; omega
          | false =>
            by_cases hky : ek = y
            · have hy2 : y = ek := hky.symm
              subst hy2
              have hd2 : (y == y) = true := by simp
              have hf : forK y ⟨false, ⟨et, y, ev, el⟩⟩ = true := by simp [forK]
              obtain ⟨hT2, hrow⟩ := t2a'.out hf
              rw [hra'.out] at hT2
              rw [hR.out] at hrow
              obtain ⟨c0, c1, c2, c3, c4⟩ := hx.out.c
              simp only at c0 c1 c2 c3 c4
              go_wp2_with fail
              have hI2 : Hid (RdI (wr.alloc (.cells (ins [⟨false, ⟨et, y, ev, el⟩⟩]).toArray 40)) (.slice (some ⟨wr.heap.size, 0, none⟩) 1 1) wr.heap.size [⟨false, ⟨et, y, ev, el⟩⟩]) := rdi_lit wr [⟨false, ⟨et, y, ev, el⟩⟩] (by simp) (by simpa using hgx.lt)
              obtain ⟨q1, q2, q3, q4⟩ := hK.out.duo.b.lt
              refine (rtake_is bb qb ob1 gb ⟨[], pn, ps, pa, pk, pf⟩ rb _ wr.heap.size _ _ (hK.out.duo.b.below (below_alloc _ _)) hI2.out (by omega) (by omega) (by omega) (by simp; omega) (by simp; omega) (by simp; omega)).mono ?_
              rintro e Wb ⟨tu2, ob2, rfl, htu2, hRb, hob, hch2⟩
              rw [rows_one] at htu2
              have hRb2 : Hid (Rnr Wb bb qb ob2 gb ⟨[], pn, ps, pa, pk, pf⟩ (stepR ⟨[], pn, ps, pa, pk, pf⟩ rb ⟨false, ⟨et, y, ev, el⟩⟩)) := hRb
              have hsc := step_counts ⟨[], pn, ps, pa, pk, pf⟩ rb ⟨false, ⟨et, y, ev, el⟩⟩
              rw [← hrow] at htu2
              obtain ⟨rb', hrb'⟩ : ∃ r, Hid (stepR ⟨[], pn, ps, pa, pk, pf⟩ rb ⟨false, ⟨et, y, ev, el⟩⟩ = r) := ⟨_, rfl⟩
              rw [hrb'.out] at hRb2 hT2 hsc
              have hK2 : Hid (KQ X0 Wb Bb ba qa oa2 ga bb qb ob2 gb qi ⟨[], pn, ps, pa, pk, pf⟩ ⟨[], pn, ps, pa, pk, pf⟩ ra' rb' u11 u12 (L ++ rowsK y R) L (.slice (some ⟨qi, off, none⟩) m ic) is) := (hK.out.below (below_alloc _ _)).takeB (by simp; omega) hRb2.out hch2 hob
              have hzb : Bb ≤ Wb.heap.size := by have h1 := hch2.size; have h2 : (wr.alloc (.cells (ins [⟨false, ⟨et, y, ev, el⟩⟩]).toArray 40)).heap.size = wr.heap.size + 1 := by simp
                                                 omega
              have htu3 : Hid (Wb.ownsRow (wr.alloc (.cells (ins [⟨false, ⟨et, y, ev, el⟩⟩]).toArray 40)).heap.size 45 5 tu2 (rowsK y R).length (rcs (rowsK y R))) := htu2
              have hrK := rowsK_len y R
              have hT2' : Hid (TwoK y ra' rb') := hT2
              have hp2 : Hid (0 ≤ rb'.l ∧ 0 ≤ rb'.s) := ⟨by omega, by omega⟩
              have hLR : L.length + (rowsK y R).length ≤ 600 := by rw [List.length_append] at hLK; exact hLK
              clear hRb hRb2 hob hch2 hI2 htu2 hx hK c0 c1 c2 c3 c4 hT2 hrow hsc q1 q2 q3 q4 hgiX
              go_wp2_with (at_builtin; refine wpList_append_srcF _ (by rfl) _ _ 34 rfl 5 Bb 45 i0 rzero 40 Try.underlying34 hi hz0 hz1 hz2 rfl (by decide) u12 L.length (rcs L) rfl hK2.out.hv tu2 (rowsK y R).length (rcs (rowsK y R)) rfl (srcN_own htu3.out) (rcs_one _) ?c1 ?c2 ?c3 ?_)
              case c1 => unfold maxLen; omega
              case c2 => omega
              case c3 => exact hzb
              intro v6 W6 o6 b6 g6 f6
              have o7 : W6.ownsRow Bb 45 5 v6 (L ++ rowsK y R).length (rcs (L ++ rowsK y R)) := by
                rw [rcs_append, List.length_append]
                exact o6
              have hK6 : Hid (KQ X0 W6 Bb ba qa oa2 ga bb qb ob2 gb qi ⟨[], pn, ps, pa, pk, pf⟩ ⟨[], pn, ps, pa, pk, pf⟩ ra' rb' u11 v6 (L ++ rowsK y R) (L ++ rowsK y R) (.slice (some ⟨qi, off, none⟩) m ic) is) := hK2.out.appV hBz o7 g6 b6 f6
              have hz6 : W3.heap.size ≤ W6.heap.size := by have := b6.size; have := hBb.out; omega
              clear o6 o7 b6 g6 f6 hK2 htu3
              go_wp2_with fail
              go_roundw
              case rel => exact ⟨j + 1, oa2, ob2, ra', rb', L ++ rowsK y R, by omega, by go_num, hra2.out.symm, hT2', hp2, hKl, hK6, hz6⟩
              case measure => simp [intOf]; omega
            · have hd2 : (ek == y) = false := by simpa using hky
              have hf : forK y ⟨false, ⟨et, ek, ev, el⟩⟩ = false := by simp [forK, hky]
              obtain ⟨hT2, hrow⟩ := t2b'.out hf
              rw [hra'.out] at hT2
              rw [hR.out] at hrow
              subst hrow
              obtain ⟨c0, c1, c2, c3, c4⟩ := hx.out.c
              simp only at c0 c1 c2 c3 c4
              have hT2' : Hid (TwoK y ra' rb) := hT2
              have hK6 : Hid (KQ X0 wr Bb ba qa oa2 ga bb qb ob1 gb qi ⟨[], pn, ps, pa, pk, pf⟩ ⟨[], pn, ps, pa, pk, pf⟩ ra' rb u11 u12 L L (.slice (some ⟨qi, off, none⟩) m ic) is) := by
                have h : L ++ rowsK y [] = L := by simp [rowsK]
                have h2 := hK.out
                rw [h] at h2
                exact h2
              have hKl2 : L.length + ra'.L.length ≤ 8 * (j + 1) := by omega
              have hz6 : W3.heap.size ≤ wr.heap.size := by have := hBb.out; omega
              clear hx hK hT2
              go_wp2_with fail
              go_roundw
              case rel => exact ⟨j + 1, oa2, ob1, ra', rb, L, by omega, by go_num, hra2.out.symm, hT2', hpos, hKl2, hK6, hz6⟩
              case measure => simp [intOf]; omega
    · obtain rfl : j = m := by omega
      obtain ⟨xa, xc, rfl⟩ := own_len hK.out.hu
      obtain ⟨za, zc, rfl⟩ := own_len hK.out.hv
      obtain ⟨am, al, as', aL⟩ := ra
      obtain ⟨bm, bl, bs, bL⟩ := rb
      have hTm : am = bm := hT.out.m
      subst hTm
      have hls : decide (bs ≤ as') = true := decide_eq_true hT.out.s
      have hll : decide (bl ≤ al) = true := decide_eq_true hT.out.l
      have hmm : (am == am) = true := by simp
      have hQ := hK
      have hXr : Hid (Below g0 w wr) := hB.out.trans (hQ.out.bel.mono (by have := hB.out.size; have := hg0.out; omega))
      have hgr : g0 ≤ wr.heap.size := by have := hXr.out.size; have := hg0.out; omega
      clear hra hT hpos
      go_upto_region 20 with fail
      refine wp_region_held_drew (S := fun X => Below wr.heap.size wr X) (by kernel_rfl) (Below.refl _ _).drew (fun hHeld => ?_)
      generalize wr.drew = V0 at hHeld ⊢
      refine take_at (i := 0) (v := .slice xa L.length xc) rfl rfl (by kernel_rfl) (by kernel_rfl) (by kernel_rfl) (fun _ _ _ h => h) (Or.inl ⟨by rfl, fun X _ => by go_simp⟩) hHeld ?_
      try simp only [Act.put, List.setIfInBounds_toArray, List.set_cons_zero, List.set_cons_succ]
      refine take_at (i := 1) (v := .slice za L.length zc) rfl rfl (by kernel_rfl) (by kernel_rfl) (by kernel_rfl) (fun _ _ _ h => h) (Or.inl ⟨by rfl, fun X _ => by go_simp⟩) hHeld ?_
      try simp only [Act.put, List.setIfInBounds_toArray, List.set_cons_zero, List.set_cons_succ]
      refine wpAnyH_ready (rs := [2]) (by kernel_rfl) (by simp) ?_
      refine AllReadyH.cons rfl (fun K hK => ?_) AllReadyH.nil
      rw [if_pos (by rfl)]
      go_wp2_with fail
      refine (same_r (.slice xa L.length xc) (.slice za L.length zc) L _ (rdr_own (own_below hQ.out.hu hHeld)) (rdr_own (own_below hQ.out.hv hHeld))).mono ?_
      rintro e V1 ⟨rfl, hb⟩
      have hHb := below_call hHeld hb
      clear hHeld hb
      go_wp2_with fail
      refine hK.out _ _ (hHb) (fun hHeld => ?_)
      clear hK K hHb
      try simp only [Act.put, List.setIfInBounds_toArray, List.set_cons_zero, List.set_cons_succ]
      refine take_at (i := 3) (v := .bool true) rfl rfl (by kernel_rfl) (by kernel_rfl) (by kernel_rfl) (fun _ _ _ h => h) (Or.inl ⟨by rfl, fun X _ => by go_simp⟩) hHeld ?_
      try simp only [Act.put, List.setIfInBounds_toArray, List.set_cons_zero, List.set_cons_succ]
      refine take_at (i := 4) (v := .pointer (some ⟨ba, 0, none⟩)) rfl rfl (by kernel_rfl) (by kernel_rfl) (by kernel_rfl) (fun _ _ _ h => h) (Or.inl ⟨by rfl, fun X _ => by go_simp⟩) hHeld ?_
      try simp only [Act.put, List.setIfInBounds_toArray, List.set_cons_zero, List.set_cons_succ]
      refine take_at (i := 5) (v := .pointer (some ⟨ba, 0, none⟩)) rfl rfl (by kernel_rfl) (by kernel_rfl) (by kernel_rfl) (fun _ _ _ h => h) (Or.inl ⟨by rfl, fun X _ => by go_simp⟩) hHeld ?_
      try simp only [Act.put, List.setIfInBounds_toArray, List.set_cons_zero, List.set_cons_succ]
      refine take_at (i := 6) (v := .pointer (some ⟨ba, 0, none⟩)) rfl rfl (by kernel_rfl) (by kernel_rfl) (by kernel_rfl) (fun _ _ _ h => h) (Or.inl ⟨by rfl, fun X _ => by go_simp⟩) hHeld ?_
      try simp only [Act.put, List.setIfInBounds_toArray, List.set_cons_zero, List.set_cons_succ]
      refine take_at (i := 7) (v := .agg #[.int .i64 am, .int .i64 al, .int .i64 as']) rfl rfl (by kernel_rfl) (by kernel_rfl) (by kernel_rfl) (fun _ _ _ h => h) (Or.inl ⟨by rfl, fun X hX => by obtain ⟨k0, k1, k2, k3⟩ := (hQ.out.duo.a.below hX).cells; simp only at k0 k1 k2 k3; go_simp⟩) hHeld ?_
      try simp only [Act.put, List.setIfInBounds_toArray, List.set_cons_zero, List.set_cons_succ]
      refine take_at (i := 9) (v := .pointer (some ⟨bb, 0, none⟩)) rfl rfl (by kernel_rfl) (by kernel_rfl) (by kernel_rfl) (fun _ _ _ h => h) (Or.inl ⟨by rfl, fun X _ => by go_simp⟩) hHeld ?_
      try simp only [Act.put, List.setIfInBounds_toArray, List.set_cons_zero, List.set_cons_succ]
      refine take_at (i := 10) (v := .pointer (some ⟨bb, 0, none⟩)) rfl rfl (by kernel_rfl) (by kernel_rfl) (by kernel_rfl) (fun _ _ _ h => h) (Or.inl ⟨by rfl, fun X _ => by go_simp⟩) hHeld ?_
      try simp only [Act.put, List.setIfInBounds_toArray, List.set_cons_zero, List.set_cons_succ]
      refine take_at (i := 11) (v := .pointer (some ⟨bb, 0, none⟩)) rfl rfl (by kernel_rfl) (by kernel_rfl) (by kernel_rfl) (fun _ _ _ h => h) (Or.inl ⟨by rfl, fun X _ => by go_simp⟩) hHeld ?_
      try simp only [Act.put, List.setIfInBounds_toArray, List.set_cons_zero, List.set_cons_succ]
      refine take_at (i := 12) (v := .agg #[.int .i64 am, .int .i64 bl, .int .i64 bs]) rfl rfl (by kernel_rfl) (by kernel_rfl) (by kernel_rfl) (fun _ _ _ h => h) (Or.inl ⟨by rfl, fun X hX => by obtain ⟨k0, k1, k2, k3⟩ := (hQ.out.duo.b.below hX).cells; simp only at k0 k1 k2 k3; go_simp⟩) hHeld ?_
      try simp only [Act.put, List.setIfInBounds_toArray, List.set_cons_zero, List.set_cons_succ]
      refine wpAnyH_ready (rs := [8]) (by kernel_rfl) (by simp) ?_
      refine AllReadyH.cons rfl (fun K hK => ?_) AllReadyH.nil
      rw [if_pos (by rfl)]
      go_wp2_with fail
      refine (mark_is am al as' _).mono ?_
      rintro e V2 ⟨rfl, hb⟩
      have hHb := below_call hHeld hb
      clear hHeld hb
      go_wp2_with fail
      refine hK.out _ _ (hHb) (fun hHeld => ?_)
      clear hK K hHb
      try simp only [Act.put, List.setIfInBounds_toArray, List.set_cons_zero, List.set_cons_succ]
      refine wpAnyH_ready (rs := [13]) (by kernel_rfl) (by simp) ?_
      refine AllReadyH.cons rfl (fun K hK => ?_) AllReadyH.nil
      rw [if_pos (by rfl)]
      go_wp2_with fail
      refine (mark_is am bl bs _).mono ?_
      rintro e V3 ⟨rfl, hb⟩
      have hHb := below_call hHeld hb
      clear hHeld hb
      go_wp2_with fail
      refine hK.out _ _ (hHb) (fun hHeld => ?_)
      clear hK K hHb
      try simp only [Act.put, List.setIfInBounds_toArray, List.set_cons_zero, List.set_cons_succ]
      refine take_at (i := 14) (v := .bool true) rfl rfl (by kernel_rfl) (by kernel_rfl) (by kernel_rfl) (fun _ _ _ h => h) (Or.inl ⟨by rfl, fun X _ => by go_simp⟩) hHeld ?_
      try simp only [Act.put, List.setIfInBounds_toArray, List.set_cons_zero, List.set_cons_succ]
      refine take_at (i := 15) (v := .bool true) rfl rfl (by kernel_rfl) (by kernel_rfl) (by kernel_rfl) (fun _ _ _ h => h) (Or.inl ⟨by rfl, fun X _ => by go_simp⟩) hHeld ?_
      try simp only [Act.put, List.setIfInBounds_toArray, List.set_cons_zero, List.set_cons_succ]
      refine take_at (i := 16) (v := .bool true) rfl rfl (by kernel_rfl) (by kernel_rfl) (by kernel_rfl) (fun _ _ _ h => h) (Or.inl ⟨by rfl, fun X _ => by go_simp⟩) hHeld ?_
      try simp only [Act.put, List.setIfInBounds_toArray, List.set_cons_zero, List.set_cons_succ]
      refine take_at (i := 17) (v := .pointer (some ⟨bb, 0, none⟩)) rfl rfl (by kernel_rfl) (by kernel_rfl) (by kernel_rfl) (fun _ _ _ h => h) (Or.inl ⟨by rfl, fun X _ => by go_simp⟩) hHeld ?_
      try simp only [Act.put, List.setIfInBounds_toArray, List.set_cons_zero, List.set_cons_succ]
      refine take_at (i := 18) (v := .pointer (some ⟨bb, 0, none⟩)) rfl rfl (by kernel_rfl) (by kernel_rfl) (by kernel_rfl) (fun _ _ _ h => h) (Or.inl ⟨by rfl, fun X _ => by go_simp⟩) hHeld ?_
      try simp only [Act.put, List.setIfInBounds_toArray, List.set_cons_zero, List.set_cons_succ]
      refine take_at (i := 19) (v := .pointer (some ⟨bb, 0, none⟩)) rfl rfl (by kernel_rfl) (by kernel_rfl) (by kernel_rfl) (fun _ _ _ h => h) (Or.inl ⟨by rfl, fun X _ => by go_simp⟩) hHeld ?_
      try simp only [Act.put, List.setIfInBounds_toArray, List.set_cons_zero, List.set_cons_succ]
      refine take_at (i := 20) (v := .agg #[.int .i64 am, .int .i64 bl, .int .i64 bs]) rfl rfl (by kernel_rfl) (by kernel_rfl) (by kernel_rfl) (fun _ _ _ h => h) (Or.inl ⟨by rfl, fun X hX => by obtain ⟨k0, k1, k2, k3⟩ := (hQ.out.duo.b.below hX).cells; simp only at k0 k1 k2 k3; go_simp⟩) hHeld ?_
      try simp only [Act.put, List.setIfInBounds_toArray, List.set_cons_zero, List.set_cons_succ]
      refine take_at (i := 22) (v := .pointer (some ⟨ba, 0, none⟩)) rfl rfl (by kernel_rfl) (by kernel_rfl) (by kernel_rfl) (fun _ _ _ h => h) (Or.inl ⟨by rfl, fun X _ => by go_simp⟩) hHeld ?_
      try simp only [Act.put, List.setIfInBounds_toArray, List.set_cons_zero, List.set_cons_succ]
      refine take_at (i := 23) (v := .pointer (some ⟨ba, 0, none⟩)) rfl rfl (by kernel_rfl) (by kernel_rfl) (by kernel_rfl) (fun _ _ _ h => h) (Or.inl ⟨by rfl, fun X _ => by go_simp⟩) hHeld ?_
      try simp only [Act.put, List.setIfInBounds_toArray, List.set_cons_zero, List.set_cons_succ]
      refine take_at (i := 24) (v := .pointer (some ⟨ba, 0, none⟩)) rfl rfl (by kernel_rfl) (by kernel_rfl) (by kernel_rfl) (fun _ _ _ h => h) (Or.inl ⟨by rfl, fun X _ => by go_simp⟩) hHeld ?_
      try simp only [Act.put, List.setIfInBounds_toArray, List.set_cons_zero, List.set_cons_succ]
      refine take_at (i := 25) (v := .agg #[.int .i64 am, .int .i64 al, .int .i64 as']) rfl rfl (by kernel_rfl) (by kernel_rfl) (by kernel_rfl) (fun _ _ _ h => h) (Or.inl ⟨by rfl, fun X hX => by obtain ⟨k0, k1, k2, k3⟩ := (hQ.out.duo.a.below hX).cells; simp only at k0 k1 k2 k3; go_simp⟩) hHeld ?_
      try simp only [Act.put, List.setIfInBounds_toArray, List.set_cons_zero, List.set_cons_succ]
      refine wpAnyH_ready (rs := [21]) (by kernel_rfl) (by simp) ?_
      refine AllReadyH.cons rfl (fun K hK => ?_) AllReadyH.nil
      rw [if_pos (by rfl)]
      go_wp2_with fail
      refine (seen_is am bl bs _).mono ?_
      rintro e V4 ⟨rfl, hb⟩
      have hHb := below_call hHeld hb
      clear hHeld hb
      go_wp2_with fail
      refine hK.out _ _ (hHb) (fun hHeld => ?_)
      clear hK K hHb
      try simp only [Act.put, List.setIfInBounds_toArray, List.set_cons_zero, List.set_cons_succ]
      refine wpAnyH_ready (rs := [26]) (by kernel_rfl) (by simp) ?_
      refine AllReadyH.cons rfl (fun K hK => ?_) AllReadyH.nil
      rw [if_pos (by rfl)]
      go_wp2_with fail
      refine (seen_is am al as' _).mono ?_
      rintro e V5 ⟨rfl, hb⟩
      have hHb := below_call hHeld hb
      clear hHeld hb
      go_wp2_with fail
      refine hK.out _ _ (hHb) (fun hHeld => ?_)
      clear hK K hHb
      try simp only [Act.put, List.setIfInBounds_toArray, List.set_cons_zero, List.set_cons_succ]
      refine take_at (i := 27) (v := .bool true) rfl rfl (by kernel_rfl) (by kernel_rfl) (by kernel_rfl) (fun _ _ _ h => h) (Or.inl ⟨by rfl, fun X _ => by go_simp⟩) hHeld ?_
      try simp only [Act.put, List.setIfInBounds_toArray, List.set_cons_zero, List.set_cons_succ]
      refine take_at (i := 28) (v := .bool true) rfl rfl (by kernel_rfl) (by kernel_rfl) (by kernel_rfl) (fun _ _ _ h => h) (Or.inl ⟨by rfl, fun X _ => by go_simp⟩) hHeld ?_
      try simp only [Act.put, List.setIfInBounds_toArray, List.set_cons_zero, List.set_cons_succ]
      refine take_at (i := 29) (v := .bool true) rfl rfl (by kernel_rfl) (by kernel_rfl) (by kernel_rfl) (fun _ _ _ h => h) (Or.inl ⟨by rfl, fun X _ => by go_simp⟩) hHeld ?_
      try simp only [Act.put, List.setIfInBounds_toArray, List.set_cons_zero, List.set_cons_succ]
      refine take_at (i := 30) (v := .pointer (some ⟨bb, 0, none⟩)) rfl rfl (by kernel_rfl) (by kernel_rfl) (by kernel_rfl) (fun _ _ _ h => h) (Or.inl ⟨by rfl, fun X _ => by go_simp⟩) hHeld ?_
      try simp only [Act.put, List.setIfInBounds_toArray, List.set_cons_zero, List.set_cons_succ]
      refine take_at (i := 31) (v := .pointer (some ⟨bb, 0, none⟩)) rfl rfl (by kernel_rfl) (by kernel_rfl) (by kernel_rfl) (fun _ _ _ h => h) (Or.inl ⟨by rfl, fun X _ => by go_simp⟩) hHeld ?_
      try simp only [Act.put, List.setIfInBounds_toArray, List.set_cons_zero, List.set_cons_succ]
      refine take_at (i := 32) (v := .pointer (some ⟨bb, 0, none⟩)) rfl rfl (by kernel_rfl) (by kernel_rfl) (by kernel_rfl) (fun _ _ _ h => h) (Or.inl ⟨by rfl, fun X _ => by go_simp⟩) hHeld ?_
      try simp only [Act.put, List.setIfInBounds_toArray, List.set_cons_zero, List.set_cons_succ]
      refine take_at (i := 33) (v := .agg #[.int .i64 am, .int .i64 bl, .int .i64 bs]) rfl rfl (by kernel_rfl) (by kernel_rfl) (by kernel_rfl) (fun _ _ _ h => h) (Or.inl ⟨by rfl, fun X hX => by obtain ⟨k0, k1, k2, k3⟩ := (hQ.out.duo.b.below hX).cells; simp only at k0 k1 k2 k3; go_simp⟩) hHeld ?_
      try simp only [Act.put, List.setIfInBounds_toArray, List.set_cons_zero, List.set_cons_succ]
      refine take_at (i := 35) (v := .pointer (some ⟨ba, 0, none⟩)) rfl rfl (by kernel_rfl) (by kernel_rfl) (by kernel_rfl) (fun _ _ _ h => h) (Or.inl ⟨by rfl, fun X _ => by go_simp⟩) hHeld ?_
      try simp only [Act.put, List.setIfInBounds_toArray, List.set_cons_zero, List.set_cons_succ]
      refine take_at (i := 36) (v := .pointer (some ⟨ba, 0, none⟩)) rfl rfl (by kernel_rfl) (by kernel_rfl) (by kernel_rfl) (fun _ _ _ h => h) (Or.inl ⟨by rfl, fun X _ => by go_simp⟩) hHeld ?_
      try simp only [Act.put, List.setIfInBounds_toArray, List.set_cons_zero, List.set_cons_succ]
      refine take_at (i := 37) (v := .pointer (some ⟨ba, 0, none⟩)) rfl rfl (by kernel_rfl) (by kernel_rfl) (by kernel_rfl) (fun _ _ _ h => h) (Or.inl ⟨by rfl, fun X _ => by go_simp⟩) hHeld ?_
      try simp only [Act.put, List.setIfInBounds_toArray, List.set_cons_zero, List.set_cons_succ]
      refine take_at (i := 38) (v := .agg #[.int .i64 am, .int .i64 al, .int .i64 as']) rfl rfl (by kernel_rfl) (by kernel_rfl) (by kernel_rfl) (fun _ _ _ h => h) (Or.inl ⟨by rfl, fun X hX => by obtain ⟨k0, k1, k2, k3⟩ := (hQ.out.duo.a.below hX).cells; simp only at k0 k1 k2 k3; go_simp⟩) hHeld ?_
      try simp only [Act.put, List.setIfInBounds_toArray, List.set_cons_zero, List.set_cons_succ]
      refine wpAnyH_ready (rs := [34]) (by kernel_rfl) (by simp) ?_
      refine AllReadyH.cons rfl (fun K hK => ?_) AllReadyH.nil
      rw [if_pos (by rfl)]
      go_wp2_with fail
      refine (late_is am bl bs _).mono ?_
      rintro e V6 ⟨rfl, hb⟩
      have hHb := below_call hHeld hb
      clear hHeld hb
      go_wp2_with fail
      refine hK.out _ _ (hHb) (fun hHeld => ?_)
      clear hK K hHb
      try simp only [Act.put, List.setIfInBounds_toArray, List.set_cons_zero, List.set_cons_succ]
      refine wpAnyH_ready (rs := [39]) (by kernel_rfl) (by simp) ?_
      refine AllReadyH.cons rfl (fun K hK => ?_) AllReadyH.nil
      rw [if_pos (by rfl)]
      go_wp2_with fail
      refine (late_is am al as' _).mono ?_
      rintro e V7 ⟨rfl, hb⟩
      have hHb := below_call hHeld hb
      clear hHeld hb
      go_wp2_with fail
      refine hK.out _ _ (hHb) (fun hHeld => ?_)
      clear hK K hHb
      try simp only [Act.put, List.setIfInBounds_toArray, List.set_cons_zero, List.set_cons_succ]
      refine take_at (i := 40) (v := .bool true) rfl rfl (by kernel_rfl) (by kernel_rfl) (by kernel_rfl) (fun _ _ _ h => h) (Or.inl ⟨by rfl, fun X _ => by go_simp⟩) hHeld ?_
      try simp only [Act.put, List.setIfInBounds_toArray, List.set_cons_zero, List.set_cons_succ]
      refine take_at (i := 41) (v := .bool true) rfl rfl (by kernel_rfl) (by kernel_rfl) (by kernel_rfl) (fun _ _ _ h => h) (Or.inl ⟨by rfl, fun X _ => by go_simp⟩) hHeld ?_
      try simp only [Act.put, List.setIfInBounds_toArray, List.set_cons_zero, List.set_cons_succ]
      refine take_at (i := 42) (v := .bool true) rfl rfl (by kernel_rfl) (by kernel_rfl) (by kernel_rfl) (fun _ _ _ h => h) (Or.inl ⟨by rfl, fun X _ => by go_simp⟩) hHeld ?_
      try simp only [Act.put, List.setIfInBounds_toArray, List.set_cons_zero, List.set_cons_succ]
      refine wpAnyH_ready (rs := [43]) (by kernel_rfl) (by simp) ?_
      refine AllReadyH.cons rfl (fun K hK => ?_) AllReadyH.nil
      rw [if_pos (by rfl)]
      go_wp2_with fail
      refine (runs_is _).mono ?_
      rintro e V8 ⟨rfl, hb⟩
      have hHb := below_call hHeld hb
      clear hHeld hb
      go_wp2_with fail
      refine hK.out _ _ (hHb) (fun hHeld => ?_)
      clear hK K hHb
      try simp only [Act.put, List.setIfInBounds_toArray, List.set_cons_zero, List.set_cons_succ]
      refine take_at (i := 44) (v := .bool true) rfl rfl (by kernel_rfl) (by kernel_rfl) (by kernel_rfl) (fun _ _ _ h => h) (Or.inl ⟨by rfl, fun X _ => by go_simp⟩) hHeld ?_
      try simp only [Act.put, List.setIfInBounds_toArray, List.set_cons_zero, List.set_cons_succ]
      refine take_at (i := 45) (v := .bool true) rfl rfl (by kernel_rfl) (by kernel_rfl) (by kernel_rfl) (fun _ _ _ h => h) (Or.inl ⟨by rfl, fun X _ => by go_simp⟩) hHeld ?_
      try simp only [Act.put, List.setIfInBounds_toArray, List.set_cons_zero, List.set_cons_succ]
      refine wpAnyH_done (by kernel_rfl) ?_ _
      go_wp2_with fail
      go_ret
      refine ⟨rfl, ?_⟩
      rw [hg0.out]
      exact hXr.out.trans (hHeld.mono hgr)
end Go.Proofs.Ytalofffpjaomgaa
