/- RunnerParts, walked. -/
import Derived.Test.YtombgbdplafooaaTakesKit
import Derived.Test.YtombgbdplafooaaPairM
import Derived.Deep.QuietTactic
import Derived.BigQuiet
namespace Go.Proofs.Ytombgbdplafooaa
open Go.RowKit M
open O (RdO Kpk Pik Small Ints)
open O.MO (Oq Pq rightP)
set_option linter.unusedVariables false
set_option linter.unusedSimpArgs false
attribute [local go_sem ↓] Go.wp_at_zero Go.wp_at_succ
/-- Without the first c: inputs in a row that begins anywhere. -/
theorem RdI.drop {w : World} {g off n cap qb : Nat} {is : List Inp} (h : RdI w (.slice (some ⟨g, off, none⟩) n cap) qb is) (c : Nat) (hc : c ≤ is.length) : RdI w (.slice (some ⟨g, off + c * 5, none⟩) (n - c) (cap - c)) qb (is.drop c) := by
  obtain ⟨h1, h2, ao, cap', e, h3, h4, hcell⟩ := h
  cases e
  have hl : (is.drop c).length = is.length - c := List.length_drop
  refine ⟨by omega, fun i hi => h2 i (List.mem_of_mem_drop hi), _, _, by rw [hl], by omega, by omega, fun hn => ?_⟩
  obtain ⟨off', e, hb, hrow⟩ := hcell (by omega)
  cases e
  refine ⟨_, rfl, hb, fun j hj => ?_⟩
  have e : iAt (is.drop c) j = iAt is (c + j) := by unfold iAt; rw [List.getD_eq_getElem?_getD, List.getD_eq_getElem?_getD, List.getElem?_drop]
  rw [e, show off + c * 5 + j * 5 = off + (c + j) * 5 by omega]
  exact hrow (c + j) (by omega)
theorem RdI.none {w : World} {ao : Option Addr} {cap qb : Nat} (h : cap ≤ 9223372036854775807) : RdI w (.slice ao 0 cap) qb [] := ⟨by simp, by simp, ao, cap, rfl, by simp, h, by simp⟩
section
variable {W0 w w' : World} {B ba qa oa ga bb qb ob gb qi : Nat} {pa pb : Pq} {ra rb : Rs} {u v : Value} {L M : List Pn} {iu : Value} {is : List Inp}
/-- A new list takes the first one's place; the second one's. -/
theorem KQ.newU (h : KQ W0 w B ba qa oa ga bb qb ob gb qi pa pb ra rb u (.slice none 0 0) L [] iu is) {u' : Value} {L' : List Pn} (hu : w.ownsRow B 45 5 u' L'.length (rcs L')) : KQ W0 w B ba qa oa ga bb qb ob gb qi pa pb ra rb u' (.slice none 0 0) L' [] iu is :=
  ⟨h.duo, hu, h.hv, (fun k hk e => by cases e), h.rd, h.hq, h.hB, h.h0, h.bel⟩
theorem KQ.newV (h : KQ W0 w B ba qa oa ga bb qb ob gb qi pa pb ra rb u v L M iu is) {v' : Value} {M' : List Pn} (hv : w.ownsRow B 45 5 v' M'.length (rcs M')) (hf : ∀ k, u.ownBlock = some k → v'.ownBlock ≠ some k) : KQ W0 w B ba qa oa ga bb qb ob gb qi pa pb ra rb u v' L M' iu is :=
  ⟨h.duo, h.hu, hv, hf, h.rd, h.hq, h.hB, h.h0, h.bel⟩
end
theorem rows_litv (w : World) {B : Nat} (hB : B ≤ w.heap.size) : (w.alloc (.cells #[] 45)).ownsRow B 45 5 (.slice (some ⟨w.heap.size, 0, none⟩) 0 0) ([] : List Pn).length (rcs []) := World.ownsRow_lit (base := B) (e := 45) (size := 5) w #[] 0 hB (by unfold maxLen; omega) rfl

set_option maxHeartbeats 8000000 in
set_option maxRecDepth 100000 in
theorem runnerParts_walk (k : KeepIn) (la : Option Addr) (ll lc : Nat) (ct : Int) (w : World) (hk : IsKeep w k) (hI : Ins4 w la ll lc) (hct : (Lit.int .i64 ct).wf = true) :
    Calls Try.prog 5 #[kin k, .slice la ll lc, .int .i64 ct] w fun e w' => e = .returned (.bool true) ∧ Below w.heap.size w w' := by
  obtain ⟨ao, lo, co, an, ln, cn, kn, ks, kg, kk, kf⟩ := k
  unfold kin
  obtain ⟨hk1, hk2⟩ := hk
  simp only at hk1 hk2
  have hI' : Hid (Ins4 w la ll lc) := hI
  clear hI
  go_enter Try.func5, Try.ntmps5
  go_upto_region 1 with fail
  refine world_gen (fun W => Hid (Kpk W w.heap.size (.slice ao lo co) (.slice an ln cn) kn ks kg kk kf) ∧ Hid (Ints W ao lo co) ∧ Hid (Ints W an ln cn) ∧ Hid (Below w.heap.size w W)) ⟨O.kpk_new _ _ _ _ _ _ _ _, hk1.call (below_alloc _ _), hk2.call (below_alloc _ _), below_alloc _ _⟩ ?_
  clear hk1 hk2
  rintro W ⟨hK, hk1, hk2, hB⟩
  obtain ⟨g0, hg0⟩ : ∃ x, Hid (w.heap.size = x) := ⟨_, rfl⟩
  rw [hg0.out] at hK hB ⊢
  have c0 := hK.out.c0
  have c1 := hK.out.c1
  have c2 := hK.out.c2
  have c3 := hK.out.c3
  have c4 := hK.out.c4
  have c5 := hK.out.c5
  have c6 := hK.out.c6
  go_wp2_with fail
  refine (O.keep_any ao lo co an ln cn kn ks kg kk kf _ hk1.out hk2.out).mono ?_
  rintro e W1 ⟨⟨os, pn, ps, pa, pk, pf⟩, u, hS, he, ho, hu, b1⟩
  simp only at he ho
  subst he
  obtain ⟨ua, uc, rfl⟩ := own_len ho
  have hS' : Hid (Small ⟨os, pn, ps, pa, pk, pf⟩) := hS
  have hO : Hid (OpsIn W1 (.slice ua os.length uc) os) := ⟨O.own_base ho (Nat.zero_le _), (small_new hS).2.2.1⟩
  have hWz : g0 ≤ W.heap.size := by have := hB.out.size; have := hg0.out; omega
  replace hB : Hid (Below g0 w W1) := hB.out.trans (b1.mono hWz)
  clear hK hk1 hk2 c0 c1 c2 c3 c4 c5 c6 ho hu b1 hS
  go_upto_region 2 with fail
  refine world_gen (fun X => Hid (Pik X W1.heap.size (.slice ua os.length uc) pn ps pa pk pf) ∧ Hid (OpsIn X (.slice ua os.length uc) os) ∧ Hid (Below g0 w X) ∧ W1.heap.size < X.heap.size) ⟨O.pik_new _ _ _ _ _ _ _, hO.out.below (below_alloc _ _), hB.out.alloc (by have := hB.out.size; have := hg0.out; omega) _, by simp⟩ ?_
  have hgw : g0 ≤ W1.heap.size := by have := hB.out.size; have := hg0.out; omega
  clear hO hB
  generalize W1.heap.size = gp at hgw ⊢
  rintro W0 ⟨hP, hO, hB, hgp⟩
  go_wp2_with fail
  refine (inputs_is la ll lc _ (hI'.out.below hB.out (Nat.le_of_eq hg0.out) hB.out.size)).mono ?_
  rintro e W3 ⟨iu, is, rfl, hl25, hG, ho, b3⟩
  obtain ⟨ia, ic, rfl⟩ := own_len ho
  obtain ⟨qi, hrd, hq1, hq3, hq4⟩ := rdi_own ho (fun i hi => (hG i hi).lt) b3.size
  have hG' : Hid (∀ i ∈ is, Good i) := hG
  have hE : Hid (WE w W3 g0 gp (.slice ua os.length uc) ⟨os, pn, ps, pa, pk, pf⟩ qi (.slice ia is.length ic) is) := ⟨hP.out.call b3, hO.out.below b3, hrd, hB.out.trans (b3.mono (by omega)), hgw, by have := b3.size; omega, hq4⟩
  have hown : Hid (W3.ownsRow W0.heap.size 71 5 (.slice ia is.length ic) is.length (ins is)) := ho
  have hz3 : W0.heap.size ≤ W3.heap.size := b3.size
  clear hP hO hB hrd hG ho b3 hq3 hq4
  obtain ⟨m, hm⟩ : ∃ m, Hid (is.length = m) := ⟨_, rfl⟩
  rw [hm.out] at hl25 hE hown ⊢
  have hBw3 : Hid (Below g0 w W3) := hE.out.B
  have hg3 : g0 ≤ W3.heap.size := by have h := hE.out.hp; have h2 := hE.out.hg; omega
  obtain ⟨qi', hE1, hqi⟩ := hE.out.some
  have hE' : Hid _ := hE1
  clear hE hE1 hq1
  replace hqi : qi' < W3.heap.size := hqi
  generalize qi' = qi at hE' hqi
  go_wp2_with fail
  refine (within_any ct 0 ((m : Nat) : Int) _ (by decide) (by omega) (by omega)).mono ?_
  rintro e V ⟨⟨cz, hcz0, hcz1, rfl⟩, he⟩
  obtain rfl := he.symm
  clear he
  obtain ⟨c, hcm⟩ : ∃ c : Nat, cz = (c : Int) := ⟨cz.toNat, by omega⟩
  subst hcm
  have hcm : c ≤ m := by omega
  clear hcz0 hcz1
  go_upto_region 4 with fail
  refine wp_region_held_drew (S := fun X => Below W3.heap.size W3 X) (by kernel_rfl) (Below.refl _ _).drew (fun hHeld => ?_)
  generalize W3.drew = V at hHeld ⊢
  refine take_at (i := 0) (v := O.pv (.slice ua os.length uc) pn ps pa pk pf) rfl rfl (by kernel_rfl) (by kernel_rfl) (by kernel_rfl) (fun _ _ _ h => h) (Or.inl ⟨by rfl, fun X hX => by have h := hE'.out.P.call hX; have c0 := h.c0; have c1 := h.c1; have c2 := h.c2; have c3 := h.c3; have c4 := h.c4; have c5 := h.c5; go_simp⟩) hHeld ?_
  try simp only [Act.put, List.setIfInBounds_toArray, List.set_cons_zero, List.set_cons_succ]
  refine take_at (i := 2) (v := O.pv (.slice ua os.length uc) pn ps pa pk pf) rfl rfl (by kernel_rfl) (by kernel_rfl) (by kernel_rfl) (fun _ _ _ h => h) (Or.inl ⟨by rfl, fun X hX => by have h := hE'.out.P.call hX; have c0 := h.c0; have c1 := h.c1; have c2 := h.c2; have c3 := h.c3; have c4 := h.c4; have c5 := h.c5; go_simp⟩) hHeld ?_
  try simp only [Act.put, List.setIfInBounds_toArray, List.set_cons_zero, List.set_cons_succ]
  refine wpAnyH_ready (rs := [1]) (by kernel_rfl) (by simp) ?_
  refine AllReadyH.cons rfl (fun K hK => ?_) AllReadyH.nil
  rw [if_pos (by rfl)]
  go_wp2_with fail
  refine (new_is (.slice ua os.length uc) ⟨os, pn, ps, pa, pk, pf⟩ _ (hE'.out.O.below hHeld) (small_new hS'.out).1 (small_new hS'.out).2.1).mono ?_
  rintro e V2 ⟨ba, qa, oa, ga, rfl, hRa, za1, za2, za3, za4, hb⟩
  have hVz := hHeld.size
  have hA : Hid (Rnr V2 ba qa oa ga ⟨os, pn, ps, pa, pk, pf⟩ r0) := hRa
  clear hRa
  have hHb := below_call hHeld hb
  clear hHeld hb
  go_wp2_with fail
  refine hK.out _ _ (hHb) (fun hHeld => ?_)
  clear hK K hHb
  try simp only [Act.put, List.setIfInBounds_toArray, List.set_cons_zero, List.set_cons_succ]
  refine wpAnyH_ready (rs := [3]) (by kernel_rfl) (by simp) ?_
  refine AllReadyH.cons rfl (fun K hK => ?_) AllReadyH.nil
  rw [if_pos (by rfl)]
  go_wp2_with fail
  refine (new_is (.slice ua os.length uc) ⟨os, pn, ps, pa, pk, pf⟩ _ (hE'.out.O.below hHeld) (small_new hS'.out).1 (small_new hS'.out).2.1).mono ?_
  rintro e V3 ⟨bb, qb, ob, gb, rfl, hRb, zb1, zb2, zb3, zb4, hb⟩
  have hBb : Hid (Rnr V3 bb qb ob gb ⟨os, pn, ps, pa, pk, pf⟩ r0) := hRb
  obtain ⟨la1, la2, la3, la4⟩ := hA.out.lt
  replace hA : Hid (Rnr V3 ba qa oa ga ⟨os, pn, ps, pa, pk, pf⟩ r0) := hA.out.below hb
  clear hRb
  have hHb := below_call hHeld hb
  clear hHeld hb
  go_wp2_with fail
  refine hK.out _ _ (hHb) (fun hHeld => ?_)
  clear hK K hHb
  try simp only [Act.put, List.setIfInBounds_toArray, List.set_cons_zero, List.set_cons_succ]
  refine take_at (i := 4) (v := .pointer (some ⟨ba, 0, none⟩)) rfl rfl (by kernel_rfl) (by kernel_rfl) (by kernel_rfl) (fun _ _ _ h => h) (Or.inl ⟨by rfl, fun X _ => by go_simp⟩) hHeld ?_
  try simp only [Act.put, List.setIfInBounds_toArray, List.set_cons_zero, List.set_cons_succ]
  refine take_at (i := 5) (v := .pointer (some ⟨bb, 0, none⟩)) rfl rfl (by kernel_rfl) (by kernel_rfl) (by kernel_rfl) (fun _ _ _ h => h) (Or.inl ⟨by rfl, fun X _ => by go_simp⟩) hHeld ?_
  try simp only [Act.put, List.setIfInBounds_toArray, List.set_cons_zero, List.set_cons_succ]
  refine wpAnyH_done (by kernel_rfl) ?_ _
  have hF : Hid (Below W3.heap.size W3 V3) := hHeld
  clear hHeld
  have hD : Hid (Duo V3 ba qa oa ga bb qb ob gb ⟨os, pn, ps, pa, pk, pf⟩ ⟨os, pn, ps, pa, pk, pf⟩ r0 r0) := ⟨hA.out, hBb.out, ⟨by omega, by omega, by omega, by omega⟩, ⟨by omega, by omega, by omega, by omega⟩, ⟨by omega, by omega, by omega, by omega⟩, ⟨by omega, by omega, by omega⟩⟩
  obtain ⟨lb1, lb2, lb3, lb4⟩ := hBb.out.lt
  obtain ⟨B, hBe⟩ : ∃ x, Hid (V3.heap.size = x) := ⟨_, rfl⟩
  have hK0 : Hid (KQ W3 V3 B ba qa oa ga bb qb ob gb qi ⟨os, pn, ps, pa, pk, pf⟩ ⟨os, pn, ps, pa, pk, pf⟩ r0 r0 (.slice none 0 0) (.slice none 0 0) [] [] (.slice ia m ic) is) := by
    have e := hBe.out
    exact ⟨hD.out, World.ownsRow_nil _ _ _ _, World.ownsRow_nil _ _ _ _, (fun k hk => by cases hk), hE'.out.I.below hF.out, ⟨by omega, by omega, by omega, by omega, by omega, by omega⟩, ⟨by omega, by omega, by omega, by omega, by omega, by omega, by omega⟩, ⟨by omega, by omega, by omega, by omega, by omega, by omega⟩, hF.out⟩
  have hE4 : Hid _ := hE'.out.call hF.out
  have hB3 : W3.heap.size ≤ B := by have := hBe.out; have := hF.out.size; omega
  have hBV : B ≤ V3.heap.size := Nat.le_of_eq hBe.out.symm
  have hqB : qi < B := by omega
  obtain ⟨d0, d1, d2, d3⟩ := hA.out.cells
  obtain ⟨e0, e1, e2, e3⟩ := hBb.out.cells
  clear hA hBb hD hF za1 za2 za3 za4 zb1 zb2 zb3 zb4 la1 la2 la3 la4 lb1 lb2 lb3 lb4
  obtain ⟨A, hA0⟩ : ∃ x, Hid (stR ⟨os, pn, ps, pa, pk, pf⟩ r0 is = x) := ⟨_, rfl⟩
  obtain ⟨RR, hRR⟩ : ∃ x, Hid (rowsR ⟨os, pn, ps, pa, pk, pf⟩ r0 is = x) := ⟨_, rfl⟩
  have hgW : gp < W3.heap.size := hE'.out.hp
  have huW : ∀ k, (Value.slice ua os.length uc).ownBlock = some k → k < W3.heap.size := hE'.out.O.lt
  go_upto_region 7 with fail
  clear d0 d1 d2 d3 e0 e1 e2 e3
  go_wp2_with fail
  obtain ⟨k1, k2, k3, k4, k5, k6⟩ := hK0.out.hq
  refine (rtake_is ba qa oa ga ⟨os, pn, ps, pa, pk, pf⟩ r0 (.slice ia m ic) qi is _ hK0.out.duo.a hK0.out.rd k1 k2 k3 (by have := hm.out; show 0 + 8 * is.length ≤ 800000; omega) ⟨Int.le_refl _, by have := hm.out; show 0 + (is.length : Int) ≤ 1000000; omega⟩ ⟨Int.le_refl _, by have := hm.out; show 0 + (is.length : Int) ≤ 1000000; omega⟩).mono ?_
  rintro e V4 ⟨u1, oa1, rfl, hu1, hRa, hoa, hc4⟩
  rw [hBe.out, hRR.out] at hu1
  rw [hA0.out] at hRa
  have hK4 : Hid (KQ W3 V4 B ba qa oa1 ga bb qb ob gb qi ⟨os, pn, ps, pa, pk, pf⟩ ⟨os, pn, ps, pa, pk, pf⟩ A r0 u1 (.slice none 0 0) RR [] (.slice ia m ic) is) := (hK0.out.takeA (by omega) hRa hc4 hoa).newU hu1
  obtain ⟨xa, xc, rfl⟩ := own_len hu1
  have hB4 : B ≤ V4.heap.size := Nat.le_trans hBV hc4.size
  have hE5 : Hid (WE w V4 g0 gp (.slice ua os.length uc) ⟨os, pn, ps, pa, pk, pf⟩ qi (.slice ia m ic) is) := by
    have hz0 := hK0.out.h0
    have h1 := hE4.out.keep (b := W3.heap.size) (hc4.below (by omega) (by omega) (by omega) (by omega)) hc4.size (by have := hE'.out.hp; omega) (fun k hk => hE'.out.O.lt k hk) hqi (by omega)
    exact h1
  clear hu1 hRa hoa hc4 hK0 k1 k2 k3 k4 k5 k6 hE4 hE'
  go_upto_region 8 with fail
  obtain ⟨A1, hA1⟩ : ∃ x, Hid (stR ⟨os, pn, ps, pa, pk, pf⟩ r0 (is.take c) = x) := ⟨_, rfl⟩
  obtain ⟨R1, hR1⟩ : ∃ x, Hid (rowsR ⟨os, pn, ps, pa, pk, pf⟩ r0 (is.take c) = x) := ⟨_, rfl⟩
  obtain ⟨R2, hR2⟩ : ∃ x, Hid (rowsR ⟨os, pn, ps, pa, pk, pf⟩ A1 (is.drop c) = x) := ⟨_, rfl⟩
  have hA2 : Hid (stR ⟨os, pn, ps, pa, pk, pf⟩ A1 (is.drop c) = A) := by
    have h : stR ⟨os, pn, ps, pa, pk, pf⟩ A1 (is.drop c) = A := by rw [← hA1.out, ← stR_append, List.take_append_drop, hA0.out]
    exact h
  have hR12 : Hid (R1 ++ R2 = RR) := by
    have h := rows_cut ⟨os, pn, ps, pa, pk, pf⟩ r0 is c
    rw [hA1.out, hR1.out, hR2.out, hRR.out] at h
    exact h.symm
  have hlt : (is.take c).length = c := by have := hm.out; rw [List.length_take]; omega
  have hld : (is.drop c).length = m - c := by have := hm.out; rw [List.length_drop, this]
  have hb1 := rows_len ⟨os, pn, ps, pa, pk, pf⟩ (is.take c)
  rw [hA1.out, hR1.out, hlt] at hb1
  have hc1 := all_counts ⟨os, pn, ps, pa, pk, pf⟩ (is.take c) r0
  rw [hA1.out, hlt] at hc1
  have z1 : r0.l = 0 := rfl
  have z2 : r0.s = 0 := rfl
  have hc2 : 0 ≤ A1.l ∧ A1.l ≤ 25 ∧ 0 ≤ A1.s ∧ A1.s ≤ 25 := by omega
  clear hc1 z1 z2
  have hRl : R1.length + R2.length ≤ 200 := by
    have h1 := (rows_len ⟨os, pn, ps, pa, pk, pf⟩ is).1
    have h2 := congrArg List.length hR12.out
    rw [List.length_append] at h2
    rw [hRR.out] at h1
    have := hm.out
    omega
  go_cut [13] (fun pv wx => ∃ ob2 : Nat, Hid (KQ W3 wx B ba qa oa1 ga bb qb ob2 gb qi ⟨os, pn, ps, pa, pk, pf⟩ ⟨os, pn, ps, pa, pk, pf⟩ A A (.slice xa RR.length xc) pv RR RR (.slice ia m ic) is) ∧ Hid (WE w wx g0 gp (.slice ua os.length uc) ⟨os, pn, ps, pa, pk, pf⟩ qi (.slice ia m ic) is))
  case first =>
    obtain ⟨j0, hj0, hr0, hr1, hr2⟩ := info_parts Try.info45
    have hci : m ≤ ic := by obtain ⟨_, _, _, _, e, h1, _⟩ := hK4.out.rd; injection e with _ e2 e3; have := hm.out; omega
    by_cases hcc : c = ic
    · obtain rfl : c = m := by omega
      obtain rfl : c = ic := hcc
      have hdn : is.drop c = [] := List.eq_nil_of_length_eq_zero (by rw [hld]; omega)
      refine wp_region_held_drew (S := fun X => True) (by kernel_rfl) trivial (fun hHeld => ?_)
      have hKV' : Hid (KQ W3 V4.drew B ba qa oa1 ga bb qb ob gb qi ⟨os, pn, ps, pa, pk, pf⟩ ⟨os, pn, ps, pa, pk, pf⟩ A r0 (.slice xa RR.length xc) (.slice none 0 0) RR [] (.slice ia c c) is) := hK4.out.below (Below.refl _ _).drew
      have hEV' : Hid (WE w V4.drew g0 gp (.slice ua os.length uc) ⟨os, pn, ps, pa, pk, pf⟩ qi (.slice ia c c) is) := hE5.out.call (Below.refl _ _).drew
      have hsV' : B ≤ V4.drew.heap.size := hB4
      generalize V4.drew = V at hKV' hEV' hsV' ⊢
      have hKV := hKV'
      have hEV := hEV'
      have hsV := hsV'
      clear hKV' hEV' hsV' hK4 hE5
      refine take_at (i := 1) (v := .pointer (some ⟨bb, 0, none⟩)) rfl rfl (by kernel_rfl) (by kernel_rfl) (by kernel_rfl) (fun _ _ _ h => h) (Or.inl ⟨by rfl, fun X _ => by go_simp⟩) trivial ?_
      try simp only [Act.put, List.setIfInBounds_toArray, List.set_cons_zero, List.set_cons_succ]
      refine take_at (i := 2) (v := .slice ia c c) rfl rfl (by kernel_rfl) (by kernel_rfl) (by kernel_rfl) (fun _ _ _ h => h) (Or.inl ⟨by rfl, fun X _ => by go_simp⟩) trivial ?_
      try simp only [Act.put, List.setIfInBounds_toArray, List.set_cons_zero, List.set_cons_succ]
      refine take_at (i := 3) (v := .int .i64 ((c : Nat) : Int)) rfl rfl (by kernel_rfl) (by kernel_rfl) (by kernel_rfl) (fun _ _ _ h => h) (Or.inl ⟨by rfl, fun X _ => by go_simp⟩) trivial ?_
      try simp only [Act.put, List.setIfInBounds_toArray, List.set_cons_zero, List.set_cons_succ]
      refine take_at (i := 4) (v := .slice ia c c) rfl rfl (by kernel_rfl) (by kernel_rfl) (by kernel_rfl) (fun _ _ _ h => h) (Or.inl ⟨by rfl, fun X _ => by go_simp⟩) trivial ?_
      try simp only [Act.put, List.setIfInBounds_toArray, List.set_cons_zero, List.set_cons_succ]
      refine take_at (i := 7) (v := .pointer (some ⟨bb, 0, none⟩)) rfl rfl (by kernel_rfl) (by kernel_rfl) (by kernel_rfl) (fun _ _ _ h => h) (Or.inl ⟨by rfl, fun X _ => by go_simp⟩) trivial ?_
      try simp only [Act.put, List.setIfInBounds_toArray, List.set_cons_zero, List.set_cons_succ]
      refine take_at (i := 8) (v := .slice ia c c) rfl rfl (by kernel_rfl) (by kernel_rfl) (by kernel_rfl) (fun _ _ _ h => h) (Or.inl ⟨by rfl, fun X _ => by go_simp⟩) trivial ?_
      try simp only [Act.put, List.setIfInBounds_toArray, List.set_cons_zero, List.set_cons_succ]
      refine take_at (i := 9) (v := .int .i64 ((c : Nat) : Int)) rfl rfl (by kernel_rfl) (by kernel_rfl) (by kernel_rfl) (fun _ _ _ h => h) (Or.inl ⟨by rfl, fun X _ => by go_simp⟩) trivial ?_
      try simp only [Act.put, List.setIfInBounds_toArray, List.set_cons_zero, List.set_cons_succ]
      refine take_at (i := 10) (v := .slice ia 0 0) rfl rfl (by kernel_rfl) (by kernel_rfl) (by kernel_rfl) (fun _ _ _ h => h) (Or.inl ⟨by rfl, fun X _ => by go_simp⟩) trivial ?_
      try simp only [Act.put, List.setIfInBounds_toArray, List.set_cons_zero, List.set_cons_succ]
      refine wpAnyH_ready (rs := [0, 5]) (by kernel_rfl) (by simp) ?_
      refine AllReadyH.cons rfl (fun K hK => ?_) (AllReadyH.cons rfl (fun K hK => ?_) AllReadyH.nil)
      · rw [if_pos (by rfl)]
        go_simp
        have hn1 := hKV.out.below (below_alloc V (.cells #[] 45))
        have hn2 := rows_litv V hsV
        have hn3 := hEV.out.call (below_alloc V (.cells #[] 45))
        have hn4 : B ≤ (V.alloc (.cells #[] 45)).heap.size := Nat.le_trans hsV (below_alloc V (.cells #[] 45)).size
        have hn5 : ∀ k, (Value.slice xa RR.length xc).ownBlock = some k → (Value.slice (some ⟨V.heap.size, 0, none⟩) 0 0).ownBlock ≠ some k := own_apart_new hKV.out.hu
        obtain ⟨L1, hL1⟩ : ∃ Y, Hid (V.alloc (.cells #[] 45) = Y) := ⟨_, rfl⟩
        rw [hL1.out] at hn1 hn2 hn3 hn4 ⊢
        obtain ⟨gl, hgl⟩ : ∃ x, Hid (V.heap.size = x) := ⟨_, rfl⟩
        rw [hgl.out] at hn2 hn5 ⊢
        clear hL1 hgl
        have hKL1 : Hid (KQ W3 L1 B ba qa oa1 ga bb qb ob gb qi ⟨os, pn, ps, pa, pk, pf⟩ ⟨os, pn, ps, pa, pk, pf⟩ A r0 (.slice xa RR.length xc) (.slice (some ⟨gl, 0, none⟩) 0 0) RR [] (.slice ia c c) is) := hn1.newV hn2 hn5
        have hEL1 : Hid (WE w L1 g0 gp (.slice ua os.length uc) ⟨os, pn, ps, pa, pk, pf⟩ qi (.slice ia c c) is) := hn3
        have hsL1 : B ≤ L1.heap.size := hn4
        clear hKV hEV hsV
        clear hn1 hn2 hn3 hn4 hn5
        refine hK.out _ _ trivial (fun hHeld => ?_)
        clear hK K
        try simp only [Act.put, List.setIfInBounds_toArray, List.set_cons_zero, List.set_cons_succ]
        refine wpAnyH_ready (rs := [5]) (by kernel_rfl) (by simp) ?_
        refine AllReadyH.cons rfl (fun K hK => ?_) AllReadyH.nil
        rw [if_pos (by rfl)]
        go_wp2_with fail
        obtain ⟨k1, k2, k3, k4, k5, k6⟩ := hKL1.out.hq
        refine (rtake_is bb qb ob gb ⟨os, pn, ps, pa, pk, pf⟩ r0 (.slice ia c c) qi (is.take c) _ hKL1.out.duo.b (hKL1.out.rd.take (by have := hm.out; omega)) k4 k5 k6 (by rw [hlt]; show 0 + 8 * c ≤ 800000; omega) ⟨Int.le_refl _, by rw [hlt]; show (0 : Int) + (c : Int) ≤ 1000000; omega⟩ ⟨Int.le_refl _, by rw [hlt]; show (0 : Int) + (c : Int) ≤ 1000000; omega⟩).mono ?_
        rintro e T1b ⟨t1, ob1n, rfl, ht1, hRb, hob, hc5⟩
        rw [hA1.out] at hRb
        rw [hR1.out] at ht1
        have hz0 := hKL1.out.h0
        have hpp := hEL1.out.hp
        have huo := hEL1.out.O.lt
        have hKT1b : Hid (KQ W3 T1b B ba qa oa1 ga bb qb ob1n gb qi ⟨os, pn, ps, pa, pk, pf⟩ ⟨os, pn, ps, pa, pk, pf⟩ A A1 (.slice xa RR.length xc) (.slice (some ⟨gl, 0, none⟩) 0 0) RR [] (.slice ia c c) is) := hKL1.out.takeB (by omega) hRb hc5 hob
        have hET1b : Hid (WE w T1b g0 gp (.slice ua os.length uc) ⟨os, pn, ps, pa, pk, pf⟩ qi (.slice ia c c) is) := hEL1.out.keep (b := W3.heap.size) (hc5.below (by omega) (by omega) (by omega) (by omega)) hc5.size hgW huW hqi (by omega)
        have hsT1b : B ≤ T1b.heap.size := Nat.le_trans hsL1 hc5.size
        have ht1o := ht1
        clear hKL1 hEL1 hsL1 hRb hob hc5 hz0 hpp huo k1 k2 k3 k4 k5 k6 ht1
        go_wp2_with fail
        refine hK.out _ _ trivial (fun hHeld => ?_)
        clear hK K
        try simp only [Act.put, List.setIfInBounds_toArray, List.set_cons_zero, List.set_cons_succ]
        refine wpAnyH_ready (rs := [6]) (by kernel_rfl) (by simp) ?_
        refine AllReadyH.cons rfl (fun K hK => ?_) AllReadyH.nil
        refine step_append_srcY rfl rfl (.tmp 53) (.tmp 58) 39 rfl 5 B 45 j0 rzero 40 Try.underlying39 hj0 hr0 hr1 hr2 rfl (by decide) (.slice (some ⟨gl, 0, none⟩) 0 0) ([] : List Pn).length (rcs []) rfl hKT1b.out.hv t1 R1.length (rcs R1) rfl (srcN_own ht1o) (rcs_one _) (by unfold maxLen; first | omega | (simp; omega)) (by first | omega | (simp; omega)) hsT1b ?_
        intro v1 P1b zo zb zg zf
        have zo2 : P1b.ownsRow B 45 5 v1 R1.length (rcs R1) := by
          have h := zo
          rw [← rcs_append, ← List.length_append, List.nil_append] at h
          exact h
        have hKP1b : Hid (KQ W3 P1b B ba qa oa1 ga bb qb ob1n gb qi ⟨os, pn, ps, pa, pk, pf⟩ ⟨os, pn, ps, pa, pk, pf⟩ A A1 (.slice xa RR.length xc) v1 RR R1 (.slice ia c c) is) := hKT1b.out.appV hB3 zo2 zg zb zf
        have hEP1b : Hid (WE w P1b g0 gp (.slice ua os.length uc) ⟨os, pn, ps, pa, pk, pf⟩ qi (.slice ia c c) is) := hET1b.out.keep (b := W3.heap.size) (zb.mono hB3) zb.size hgW huW hqi (by omega)
        have hsP1b : B ≤ P1b.heap.size := Nat.le_trans hsT1b zb.size
        clear hKT1b hET1b hsT1b
        clear zo zo2 zb zg zf ht1o
        refine hK.out _ _ trivial (fun hHeld => ?_)
        clear hK K
        try simp only [Act.put, List.setIfInBounds_toArray, List.set_cons_zero, List.set_cons_succ]
        refine wpAnyH_ready (rs := [11]) (by kernel_rfl) (by simp) ?_
        refine AllReadyH.cons rfl (fun K hK => ?_) AllReadyH.nil
        rw [if_pos (by rfl)]
        go_wp2_with fail
        obtain ⟨k1, k2, k3, k4, k5, k6⟩ := hKP1b.out.hq
        refine (rtake_is bb qb ob1n gb ⟨os, pn, ps, pa, pk, pf⟩ A1 (.slice ia 0 0) qi (is.drop c) _ hKP1b.out.duo.b (by rw [hdn]; exact RdI.none (by decide)) k4 k5 k6 (by rw [hld]; omega) ⟨hc2.1, by rw [hld]; omega⟩ ⟨hc2.2.2.1, by rw [hld]; omega⟩).mono ?_
        rintro e T2 ⟨t2, ob2n, rfl, ht2, hRb, hob, hc5⟩
        rw [hA2.out] at hRb
        rw [hR2.out] at ht2
        have hz0 := hKP1b.out.h0
        have hpp := hEP1b.out.hp
        have huo := hEP1b.out.O.lt
        have hKT2 : Hid (KQ W3 T2 B ba qa oa1 ga bb qb ob2n gb qi ⟨os, pn, ps, pa, pk, pf⟩ ⟨os, pn, ps, pa, pk, pf⟩ A A (.slice xa RR.length xc) v1 RR R1 (.slice ia c c) is) := hKP1b.out.takeB (by omega) hRb hc5 hob
        have hET2 : Hid (WE w T2 g0 gp (.slice ua os.length uc) ⟨os, pn, ps, pa, pk, pf⟩ qi (.slice ia c c) is) := hEP1b.out.keep (b := W3.heap.size) (hc5.below (by omega) (by omega) (by omega) (by omega)) hc5.size hgW huW hqi (by omega)
        have hsT2 : B ≤ T2.heap.size := Nat.le_trans hsP1b hc5.size
        have ht2o := ht2
        clear hKP1b hEP1b hsP1b hRb hob hc5 hz0 hpp huo k1 k2 k3 k4 k5 k6 ht2
        go_wp2_with fail
        refine hK.out _ _ trivial (fun hHeld => ?_)
        clear hK K
        try simp only [Act.put, List.setIfInBounds_toArray, List.set_cons_zero, List.set_cons_succ]
        refine wpAnyH_ready (rs := [12]) (by kernel_rfl) (by simp) ?_
        refine AllReadyH.cons rfl (fun K hK => ?_) AllReadyH.nil
        refine step_append_srcY rfl rfl (.tmp 59) (.tmp 64) 39 rfl 5 B 45 j0 rzero 40 Try.underlying39 hj0 hr0 hr1 hr2 rfl (by decide) v1 R1.length (rcs R1) rfl hKT2.out.hv t2 R2.length (rcs R2) rfl (srcN_own ht2o) (rcs_one _) (by unfold maxLen; first | omega | (simp; omega)) (by first | omega | (simp; omega)) hsT2 ?_
        intro v2 P22 zo zb zg zf
        have zo2 : P22.ownsRow B 45 5 v2 RR.length (rcs RR) := by
          have h := zo
          rw [← rcs_append, ← List.length_append, hR12.out] at h
          exact h
        have hKP22 : Hid (KQ W3 P22 B ba qa oa1 ga bb qb ob2n gb qi ⟨os, pn, ps, pa, pk, pf⟩ ⟨os, pn, ps, pa, pk, pf⟩ A A (.slice xa RR.length xc) v2 RR RR (.slice ia c c) is) := hKT2.out.appV hB3 zo2 zg zb zf
        have hEP22 : Hid (WE w P22 g0 gp (.slice ua os.length uc) ⟨os, pn, ps, pa, pk, pf⟩ qi (.slice ia c c) is) := hET2.out.keep (b := W3.heap.size) (zb.mono hB3) zb.size hgW huW hqi (by omega)
        have hsP22 : B ≤ P22.heap.size := Nat.le_trans hsT2 zb.size
        clear hKT2 hET2 hsT2
        clear zo zo2 zb zg zf ht2o
        refine hK.out _ _ trivial (fun hHeld => ?_)
        clear hK K
        try simp only [Act.put, List.setIfInBounds_toArray, List.set_cons_zero, List.set_cons_succ]
        refine take_at (i := 13) (v := v2) rfl rfl (by kernel_rfl) (by kernel_rfl) (by kernel_rfl) (fun _ _ _ h => h) (Or.inl ⟨by rfl, fun X _ => by go_simp⟩) trivial ?_
        try simp only [Act.put, List.setIfInBounds_toArray, List.set_cons_zero, List.set_cons_succ]
        refine wpAnyH_done (by kernel_rfl) ?_ _
        go_wp2_with fail
        go_meet
        exact ⟨_, hKP22, hEP22⟩
      · rw [if_pos (by rfl)]
        go_wp2_with fail
        obtain ⟨k1, k2, k3, k4, k5, k6⟩ := hKV.out.hq
        refine (rtake_is bb qb ob gb ⟨os, pn, ps, pa, pk, pf⟩ r0 (.slice ia c c) qi (is.take c) _ hKV.out.duo.b (hKV.out.rd.take (by have := hm.out; omega)) k4 k5 k6 (by rw [hlt]; show 0 + 8 * c ≤ 800000; omega) ⟨Int.le_refl _, by rw [hlt]; show (0 : Int) + (c : Int) ≤ 1000000; omega⟩ ⟨Int.le_refl _, by rw [hlt]; show (0 : Int) + (c : Int) ≤ 1000000; omega⟩).mono ?_
        rintro e T1a ⟨t1, ob1n, rfl, ht1, hRb, hob, hc5⟩
        rw [hA1.out] at hRb
        rw [hR1.out] at ht1
        have hz0 := hKV.out.h0
        have hpp := hEV.out.hp
        have huo := hEV.out.O.lt
        have hKT1a : Hid (KQ W3 T1a B ba qa oa1 ga bb qb ob1n gb qi ⟨os, pn, ps, pa, pk, pf⟩ ⟨os, pn, ps, pa, pk, pf⟩ A A1 (.slice xa RR.length xc) (.slice none 0 0) RR [] (.slice ia c c) is) := hKV.out.takeB (by omega) hRb hc5 hob
        have hET1a : Hid (WE w T1a g0 gp (.slice ua os.length uc) ⟨os, pn, ps, pa, pk, pf⟩ qi (.slice ia c c) is) := hEV.out.keep (b := W3.heap.size) (hc5.below (by omega) (by omega) (by omega) (by omega)) hc5.size hgW huW hqi (by omega)
        have hsT1a : B ≤ T1a.heap.size := Nat.le_trans hsV hc5.size
        have ht1o := ht1
        clear hKV hEV hsV hRb hob hc5 hz0 hpp huo k1 k2 k3 k4 k5 k6 ht1
        go_wp2_with fail
        refine hK.out _ _ trivial (fun hHeld => ?_)
        clear hK K
        try simp only [Act.put, List.setIfInBounds_toArray, List.set_cons_zero, List.set_cons_succ]
        refine wpAnyH_ready (rs := [0]) (by kernel_rfl) (by simp) ?_
        refine AllReadyH.cons rfl (fun K hK => ?_) AllReadyH.nil
        rw [if_pos (by rfl)]
        go_simp
        have hn1 := hKT1a.out.below (below_alloc T1a (.cells #[] 45))
        have hn2 := rows_litv T1a hsT1a
        have hn3 := hET1a.out.call (below_alloc T1a (.cells #[] 45))
        have hn4 : B ≤ (T1a.alloc (.cells #[] 45)).heap.size := Nat.le_trans hsT1a (below_alloc T1a (.cells #[] 45)).size
        have hn5 : ∀ k, (Value.slice xa RR.length xc).ownBlock = some k → (Value.slice (some ⟨T1a.heap.size, 0, none⟩) 0 0).ownBlock ≠ some k := own_apart_new hKT1a.out.hu
        have hn6 := own_below ht1o (below_alloc T1a (.cells #[] 45))
        obtain ⟨L1, hL1⟩ : ∃ Y, Hid (T1a.alloc (.cells #[] 45) = Y) := ⟨_, rfl⟩
        rw [hL1.out] at hn1 hn2 hn3 hn4 hn6 ⊢
        obtain ⟨gl, hgl⟩ : ∃ x, Hid (T1a.heap.size = x) := ⟨_, rfl⟩
        rw [hgl.out] at hn2 hn5 ⊢
        clear hL1 hgl
        have hKL1 : Hid (KQ W3 L1 B ba qa oa1 ga bb qb ob1n gb qi ⟨os, pn, ps, pa, pk, pf⟩ ⟨os, pn, ps, pa, pk, pf⟩ A A1 (.slice xa RR.length xc) (.slice (some ⟨gl, 0, none⟩) 0 0) RR [] (.slice ia c c) is) := hn1.newV hn2 hn5
        have hEL1 : Hid (WE w L1 g0 gp (.slice ua os.length uc) ⟨os, pn, ps, pa, pk, pf⟩ qi (.slice ia c c) is) := hn3
        have hsL1 : B ≤ L1.heap.size := hn4
        clear hKT1a hET1a hsT1a
        have ht1o' := hn6
        clear ht1o hn6
        have ht1o := ht1o'
        clear ht1o'
        clear hn1 hn2 hn3 hn4 hn5
        refine hK.out _ _ trivial (fun hHeld => ?_)
        clear hK K
        try simp only [Act.put, List.setIfInBounds_toArray, List.set_cons_zero, List.set_cons_succ]
        refine wpAnyH_ready (rs := [6]) (by kernel_rfl) (by simp) ?_
        refine AllReadyH.cons rfl (fun K hK => ?_) AllReadyH.nil
        refine step_append_srcY rfl rfl (.tmp 53) (.tmp 58) 39 rfl 5 B 45 j0 rzero 40 Try.underlying39 hj0 hr0 hr1 hr2 rfl (by decide) (.slice (some ⟨gl, 0, none⟩) 0 0) ([] : List Pn).length (rcs []) rfl hKL1.out.hv t1 R1.length (rcs R1) rfl (srcN_own ht1o) (rcs_one _) (by unfold maxLen; first | omega | (simp; omega)) (by first | omega | (simp; omega)) hsL1 ?_
        intro v1 P11 zo zb zg zf
        have zo2 : P11.ownsRow B 45 5 v1 R1.length (rcs R1) := by
          have h := zo
          rw [← rcs_append, ← List.length_append, List.nil_append] at h
          exact h
        have hKP11 : Hid (KQ W3 P11 B ba qa oa1 ga bb qb ob1n gb qi ⟨os, pn, ps, pa, pk, pf⟩ ⟨os, pn, ps, pa, pk, pf⟩ A A1 (.slice xa RR.length xc) v1 RR R1 (.slice ia c c) is) := hKL1.out.appV hB3 zo2 zg zb zf
        have hEP11 : Hid (WE w P11 g0 gp (.slice ua os.length uc) ⟨os, pn, ps, pa, pk, pf⟩ qi (.slice ia c c) is) := hEL1.out.keep (b := W3.heap.size) (zb.mono hB3) zb.size hgW huW hqi (by omega)
        have hsP11 : B ≤ P11.heap.size := Nat.le_trans hsL1 zb.size
        clear hKL1 hEL1 hsL1
        clear zo zo2 zb zg zf ht1o
        refine hK.out _ _ trivial (fun hHeld => ?_)
        clear hK K
        try simp only [Act.put, List.setIfInBounds_toArray, List.set_cons_zero, List.set_cons_succ]
        refine wpAnyH_ready (rs := [11]) (by kernel_rfl) (by simp) ?_
        refine AllReadyH.cons rfl (fun K hK => ?_) AllReadyH.nil
        rw [if_pos (by rfl)]
        go_wp2_with fail
        obtain ⟨k1, k2, k3, k4, k5, k6⟩ := hKP11.out.hq
        refine (rtake_is bb qb ob1n gb ⟨os, pn, ps, pa, pk, pf⟩ A1 (.slice ia 0 0) qi (is.drop c) _ hKP11.out.duo.b (by rw [hdn]; exact RdI.none (by decide)) k4 k5 k6 (by rw [hld]; omega) ⟨hc2.1, by rw [hld]; omega⟩ ⟨hc2.2.2.1, by rw [hld]; omega⟩).mono ?_
        rintro e T2 ⟨t2, ob2n, rfl, ht2, hRb, hob, hc5⟩
        rw [hA2.out] at hRb
        rw [hR2.out] at ht2
        have hz0 := hKP11.out.h0
        have hpp := hEP11.out.hp
        have huo := hEP11.out.O.lt
        have hKT2 : Hid (KQ W3 T2 B ba qa oa1 ga bb qb ob2n gb qi ⟨os, pn, ps, pa, pk, pf⟩ ⟨os, pn, ps, pa, pk, pf⟩ A A (.slice xa RR.length xc) v1 RR R1 (.slice ia c c) is) := hKP11.out.takeB (by omega) hRb hc5 hob
        have hET2 : Hid (WE w T2 g0 gp (.slice ua os.length uc) ⟨os, pn, ps, pa, pk, pf⟩ qi (.slice ia c c) is) := hEP11.out.keep (b := W3.heap.size) (hc5.below (by omega) (by omega) (by omega) (by omega)) hc5.size hgW huW hqi (by omega)
        have hsT2 : B ≤ T2.heap.size := Nat.le_trans hsP11 hc5.size
        have ht2o := ht2
        clear hKP11 hEP11 hsP11 hRb hob hc5 hz0 hpp huo k1 k2 k3 k4 k5 k6 ht2
        go_wp2_with fail
        refine hK.out _ _ trivial (fun hHeld => ?_)
        clear hK K
        try simp only [Act.put, List.setIfInBounds_toArray, List.set_cons_zero, List.set_cons_succ]
        refine wpAnyH_ready (rs := [12]) (by kernel_rfl) (by simp) ?_
        refine AllReadyH.cons rfl (fun K hK => ?_) AllReadyH.nil
        refine step_append_srcY rfl rfl (.tmp 59) (.tmp 64) 39 rfl 5 B 45 j0 rzero 40 Try.underlying39 hj0 hr0 hr1 hr2 rfl (by decide) v1 R1.length (rcs R1) rfl hKT2.out.hv t2 R2.length (rcs R2) rfl (srcN_own ht2o) (rcs_one _) (by unfold maxLen; first | omega | (simp; omega)) (by first | omega | (simp; omega)) hsT2 ?_
        intro v2 P22 zo zb zg zf
        have zo2 : P22.ownsRow B 45 5 v2 RR.length (rcs RR) := by
          have h := zo
          rw [← rcs_append, ← List.length_append, hR12.out] at h
          exact h
        have hKP22 : Hid (KQ W3 P22 B ba qa oa1 ga bb qb ob2n gb qi ⟨os, pn, ps, pa, pk, pf⟩ ⟨os, pn, ps, pa, pk, pf⟩ A A (.slice xa RR.length xc) v2 RR RR (.slice ia c c) is) := hKT2.out.appV hB3 zo2 zg zb zf
        have hEP22 : Hid (WE w P22 g0 gp (.slice ua os.length uc) ⟨os, pn, ps, pa, pk, pf⟩ qi (.slice ia c c) is) := hET2.out.keep (b := W3.heap.size) (zb.mono hB3) zb.size hgW huW hqi (by omega)
        have hsP22 : B ≤ P22.heap.size := Nat.le_trans hsT2 zb.size
        clear hKT2 hET2 hsT2
        clear zo zo2 zb zg zf ht2o
        refine hK.out _ _ trivial (fun hHeld => ?_)
        clear hK K
        try simp only [Act.put, List.setIfInBounds_toArray, List.set_cons_zero, List.set_cons_succ]
        refine take_at (i := 13) (v := v2) rfl rfl (by kernel_rfl) (by kernel_rfl) (by kernel_rfl) (fun _ _ _ h => h) (Or.inl ⟨by rfl, fun X _ => by go_simp⟩) trivial ?_
        try simp only [Act.put, List.setIfInBounds_toArray, List.set_cons_zero, List.set_cons_succ]
        refine wpAnyH_done (by kernel_rfl) ?_ _
        go_wp2_with fail
        go_meet
        exact ⟨_, hKP22, hEP22⟩
    · obtain ⟨_, ⟨e1, e2⟩ | ⟨g, icap, cur, e1, _⟩⟩ := hown.out
      · exfalso
        injection e1 with _ _ e3
        omega
      · injection e1 with e1 e2 e3
        subst e1
        subst e3
        clear e2
        have hci2 : c ≤ ic := by omega
        have hcc2 : ¬ ic = c := fun e => hcc e.symm
        refine wp_region_held_drew (S := fun X => True) (by kernel_rfl) trivial (fun hHeld => ?_)
        have hKV' : Hid (KQ W3 V4.drew B ba qa oa1 ga bb qb ob gb qi ⟨os, pn, ps, pa, pk, pf⟩ ⟨os, pn, ps, pa, pk, pf⟩ A r0 (.slice xa RR.length xc) (.slice none 0 0) RR [] (.slice (some ⟨g, 0, none⟩) m ic) is) := hK4.out.below (Below.refl _ _).drew
        have hEV' : Hid (WE w V4.drew g0 gp (.slice ua os.length uc) ⟨os, pn, ps, pa, pk, pf⟩ qi (.slice (some ⟨g, 0, none⟩) m ic) is) := hE5.out.call (Below.refl _ _).drew
        have hsV' : B ≤ V4.drew.heap.size := hB4
        generalize V4.drew = V at hKV' hEV' hsV' ⊢
        have hKV := hKV'
        have hEV := hEV'
        have hsV := hsV'
        clear hKV' hEV' hsV' hK4 hE5
        refine take_at (i := 1) (v := .pointer (some ⟨bb, 0, none⟩)) rfl rfl (by kernel_rfl) (by kernel_rfl) (by kernel_rfl) (fun _ _ _ h => h) (Or.inl ⟨by rfl, fun X _ => by go_simp⟩) trivial ?_
        try simp only [Act.put, List.setIfInBounds_toArray, List.set_cons_zero, List.set_cons_succ]
        refine take_at (i := 2) (v := .slice (some ⟨g, 0, none⟩) m ic) rfl rfl (by kernel_rfl) (by kernel_rfl) (by kernel_rfl) (fun _ _ _ h => h) (Or.inl ⟨by rfl, fun X _ => by go_simp⟩) trivial ?_
        try simp only [Act.put, List.setIfInBounds_toArray, List.set_cons_zero, List.set_cons_succ]
        refine take_at (i := 3) (v := .int .i64 ((c : Nat) : Int)) rfl rfl (by kernel_rfl) (by kernel_rfl) (by kernel_rfl) (fun _ _ _ h => h) (Or.inl ⟨by rfl, fun X _ => by go_simp⟩) trivial ?_
        try simp only [Act.put, List.setIfInBounds_toArray, List.set_cons_zero, List.set_cons_succ]
        refine take_at (i := 4) (v := .slice (some ⟨g, 0, none⟩) c ic) rfl rfl (by kernel_rfl) (by kernel_rfl) (by kernel_rfl) (fun _ _ _ h => h) (Or.inl ⟨by rfl, fun X _ => by go_simp⟩) trivial ?_
        try simp only [Act.put, List.setIfInBounds_toArray, List.set_cons_zero, List.set_cons_succ]
        refine take_at (i := 7) (v := .pointer (some ⟨bb, 0, none⟩)) rfl rfl (by kernel_rfl) (by kernel_rfl) (by kernel_rfl) (fun _ _ _ h => h) (Or.inl ⟨by rfl, fun X _ => by go_simp⟩) trivial ?_
        try simp only [Act.put, List.setIfInBounds_toArray, List.set_cons_zero, List.set_cons_succ]
        refine take_at (i := 8) (v := .slice (some ⟨g, 0, none⟩) m ic) rfl rfl (by kernel_rfl) (by kernel_rfl) (by kernel_rfl) (fun _ _ _ h => h) (Or.inl ⟨by rfl, fun X _ => by go_simp⟩) trivial ?_
        try simp only [Act.put, List.setIfInBounds_toArray, List.set_cons_zero, List.set_cons_succ]
        refine take_at (i := 9) (v := .int .i64 ((c : Nat) : Int)) rfl rfl (by kernel_rfl) (by kernel_rfl) (by kernel_rfl) (fun _ _ _ h => h) (Or.inl ⟨by rfl, fun X _ => by go_simp⟩) trivial ?_
        try simp only [Act.put, List.setIfInBounds_toArray, List.set_cons_zero, List.set_cons_succ]
        refine take_at (i := 10) (v := .slice (some ⟨g, c * 5, none⟩) (m - c) (ic - c)) rfl rfl (by kernel_rfl) (by kernel_rfl) (by kernel_rfl) (fun _ _ _ h => h) (Or.inl ⟨by rfl, fun X _ => by go_simp⟩) trivial ?_
        try simp only [Act.put, List.setIfInBounds_toArray, List.set_cons_zero, List.set_cons_succ]
        refine wpAnyH_ready (rs := [0, 5]) (by kernel_rfl) (by simp) ?_
        refine AllReadyH.cons rfl (fun K hK => ?_) (AllReadyH.cons rfl (fun K hK => ?_) AllReadyH.nil)
        · rw [if_pos (by rfl)]
          go_simp
          have hn1 := hKV.out.below (below_alloc V (.cells #[] 45))
          have hn2 := rows_litv V hsV
          have hn3 := hEV.out.call (below_alloc V (.cells #[] 45))
          have hn4 : B ≤ (V.alloc (.cells #[] 45)).heap.size := Nat.le_trans hsV (below_alloc V (.cells #[] 45)).size
          have hn5 : ∀ k, (Value.slice xa RR.length xc).ownBlock = some k → (Value.slice (some ⟨V.heap.size, 0, none⟩) 0 0).ownBlock ≠ some k := own_apart_new hKV.out.hu
          obtain ⟨L1, hL1⟩ : ∃ Y, Hid (V.alloc (.cells #[] 45) = Y) := ⟨_, rfl⟩
          rw [hL1.out] at hn1 hn2 hn3 hn4 ⊢
          obtain ⟨gl, hgl⟩ : ∃ x, Hid (V.heap.size = x) := ⟨_, rfl⟩
          rw [hgl.out] at hn2 hn5 ⊢
          clear hL1 hgl
          have hKL1 : Hid (KQ W3 L1 B ba qa oa1 ga bb qb ob gb qi ⟨os, pn, ps, pa, pk, pf⟩ ⟨os, pn, ps, pa, pk, pf⟩ A r0 (.slice xa RR.length xc) (.slice (some ⟨gl, 0, none⟩) 0 0) RR [] (.slice (some ⟨g, 0, none⟩) m ic) is) := hn1.newV hn2 hn5
          have hEL1 : Hid (WE w L1 g0 gp (.slice ua os.length uc) ⟨os, pn, ps, pa, pk, pf⟩ qi (.slice (some ⟨g, 0, none⟩) m ic) is) := hn3
          have hsL1 : B ≤ L1.heap.size := hn4
          clear hKV hEV hsV
          clear hn1 hn2 hn3 hn4 hn5
          refine hK.out _ _ trivial (fun hHeld => ?_)
          clear hK K
          try simp only [Act.put, List.setIfInBounds_toArray, List.set_cons_zero, List.set_cons_succ]
          refine wpAnyH_ready (rs := [5]) (by kernel_rfl) (by simp) ?_
          refine AllReadyH.cons rfl (fun K hK => ?_) AllReadyH.nil
          rw [if_pos (by rfl)]
          go_wp2_with fail
          obtain ⟨k1, k2, k3, k4, k5, k6⟩ := hKL1.out.hq
          refine (rtake_is bb qb ob gb ⟨os, pn, ps, pa, pk, pf⟩ r0 (.slice (some ⟨g, 0, none⟩) c ic) qi (is.take c) _ hKL1.out.duo.b (hKL1.out.rd.take (by have := hm.out; omega)) k4 k5 k6 (by rw [hlt]; show 0 + 8 * c ≤ 800000; omega) ⟨Int.le_refl _, by rw [hlt]; show (0 : Int) + (c : Int) ≤ 1000000; omega⟩ ⟨Int.le_refl _, by rw [hlt]; show (0 : Int) + (c : Int) ≤ 1000000; omega⟩).mono ?_
          rintro e T1b ⟨t1, ob1n, rfl, ht1, hRb, hob, hc5⟩
          rw [hA1.out] at hRb
          rw [hR1.out] at ht1
          have hz0 := hKL1.out.h0
          have hpp := hEL1.out.hp
          have huo := hEL1.out.O.lt
          have hKT1b : Hid (KQ W3 T1b B ba qa oa1 ga bb qb ob1n gb qi ⟨os, pn, ps, pa, pk, pf⟩ ⟨os, pn, ps, pa, pk, pf⟩ A A1 (.slice xa RR.length xc) (.slice (some ⟨gl, 0, none⟩) 0 0) RR [] (.slice (some ⟨g, 0, none⟩) m ic) is) := hKL1.out.takeB (by omega) hRb hc5 hob
          have hET1b : Hid (WE w T1b g0 gp (.slice ua os.length uc) ⟨os, pn, ps, pa, pk, pf⟩ qi (.slice (some ⟨g, 0, none⟩) m ic) is) := hEL1.out.keep (b := W3.heap.size) (hc5.below (by omega) (by omega) (by omega) (by omega)) hc5.size hgW huW hqi (by omega)
          have hsT1b : B ≤ T1b.heap.size := Nat.le_trans hsL1 hc5.size
          have ht1o := ht1
          clear hKL1 hEL1 hsL1 hRb hob hc5 hz0 hpp huo k1 k2 k3 k4 k5 k6 ht1
          go_wp2_with fail
          refine hK.out _ _ trivial (fun hHeld => ?_)
          clear hK K
          try simp only [Act.put, List.setIfInBounds_toArray, List.set_cons_zero, List.set_cons_succ]
          refine wpAnyH_ready (rs := [6]) (by kernel_rfl) (by simp) ?_
          refine AllReadyH.cons rfl (fun K hK => ?_) AllReadyH.nil
          refine step_append_srcY rfl rfl (.tmp 53) (.tmp 58) 39 rfl 5 B 45 j0 rzero 40 Try.underlying39 hj0 hr0 hr1 hr2 rfl (by decide) (.slice (some ⟨gl, 0, none⟩) 0 0) ([] : List Pn).length (rcs []) rfl hKT1b.out.hv t1 R1.length (rcs R1) rfl (srcN_own ht1o) (rcs_one _) (by unfold maxLen; first | omega | (simp; omega)) (by first | omega | (simp; omega)) hsT1b ?_
          intro v1 P1b zo zb zg zf
          have zo2 : P1b.ownsRow B 45 5 v1 R1.length (rcs R1) := by
            have h := zo
            rw [← rcs_append, ← List.length_append, List.nil_append] at h
            exact h
          have hKP1b : Hid (KQ W3 P1b B ba qa oa1 ga bb qb ob1n gb qi ⟨os, pn, ps, pa, pk, pf⟩ ⟨os, pn, ps, pa, pk, pf⟩ A A1 (.slice xa RR.length xc) v1 RR R1 (.slice (some ⟨g, 0, none⟩) m ic) is) := hKT1b.out.appV hB3 zo2 zg zb zf
          have hEP1b : Hid (WE w P1b g0 gp (.slice ua os.length uc) ⟨os, pn, ps, pa, pk, pf⟩ qi (.slice (some ⟨g, 0, none⟩) m ic) is) := hET1b.out.keep (b := W3.heap.size) (zb.mono hB3) zb.size hgW huW hqi (by omega)
          have hsP1b : B ≤ P1b.heap.size := Nat.le_trans hsT1b zb.size
          clear hKT1b hET1b hsT1b
          clear zo zo2 zb zg zf ht1o
          refine hK.out _ _ trivial (fun hHeld => ?_)
          clear hK K
          try simp only [Act.put, List.setIfInBounds_toArray, List.set_cons_zero, List.set_cons_succ]
          refine wpAnyH_ready (rs := [11]) (by kernel_rfl) (by simp) ?_
          refine AllReadyH.cons rfl (fun K hK => ?_) AllReadyH.nil
          rw [if_pos (by rfl)]
          go_wp2_with fail
          obtain ⟨k1, k2, k3, k4, k5, k6⟩ := hKP1b.out.hq
          refine (rtake_is bb qb ob1n gb ⟨os, pn, ps, pa, pk, pf⟩ A1 (.slice (some ⟨g, c * 5, none⟩) (m - c) (ic - c)) qi (is.drop c) _ hKP1b.out.duo.b (by have h := hKP1b.out.rd.drop c (by have := hm.out; omega); rwa [Nat.zero_add] at h) k4 k5 k6 (by rw [hld]; omega) ⟨hc2.1, by rw [hld]; omega⟩ ⟨hc2.2.2.1, by rw [hld]; omega⟩).mono ?_
          rintro e T2 ⟨t2, ob2n, rfl, ht2, hRb, hob, hc5⟩
          rw [hA2.out] at hRb
          rw [hR2.out] at ht2
          have hz0 := hKP1b.out.h0
          have hpp := hEP1b.out.hp
          have huo := hEP1b.out.O.lt
          have hKT2 : Hid (KQ W3 T2 B ba qa oa1 ga bb qb ob2n gb qi ⟨os, pn, ps, pa, pk, pf⟩ ⟨os, pn, ps, pa, pk, pf⟩ A A (.slice xa RR.length xc) v1 RR R1 (.slice (some ⟨g, 0, none⟩) m ic) is) := hKP1b.out.takeB (by omega) hRb hc5 hob
          have hET2 : Hid (WE w T2 g0 gp (.slice ua os.length uc) ⟨os, pn, ps, pa, pk, pf⟩ qi (.slice (some ⟨g, 0, none⟩) m ic) is) := hEP1b.out.keep (b := W3.heap.size) (hc5.below (by omega) (by omega) (by omega) (by omega)) hc5.size hgW huW hqi (by omega)
          have hsT2 : B ≤ T2.heap.size := Nat.le_trans hsP1b hc5.size
          have ht2o := ht2
          clear hKP1b hEP1b hsP1b hRb hob hc5 hz0 hpp huo k1 k2 k3 k4 k5 k6 ht2
          go_wp2_with fail
          refine hK.out _ _ trivial (fun hHeld => ?_)
          clear hK K
          try simp only [Act.put, List.setIfInBounds_toArray, List.set_cons_zero, List.set_cons_succ]
          refine wpAnyH_ready (rs := [12]) (by kernel_rfl) (by simp) ?_
          refine AllReadyH.cons rfl (fun K hK => ?_) AllReadyH.nil
          refine step_append_srcY rfl rfl (.tmp 59) (.tmp 64) 39 rfl 5 B 45 j0 rzero 40 Try.underlying39 hj0 hr0 hr1 hr2 rfl (by decide) v1 R1.length (rcs R1) rfl hKT2.out.hv t2 R2.length (rcs R2) rfl (srcN_own ht2o) (rcs_one _) (by unfold maxLen; first | omega | (simp; omega)) (by first | omega | (simp; omega)) hsT2 ?_
          intro v2 P22 zo zb zg zf
          have zo2 : P22.ownsRow B 45 5 v2 RR.length (rcs RR) := by
            have h := zo
            rw [← rcs_append, ← List.length_append, hR12.out] at h
            exact h
          have hKP22 : Hid (KQ W3 P22 B ba qa oa1 ga bb qb ob2n gb qi ⟨os, pn, ps, pa, pk, pf⟩ ⟨os, pn, ps, pa, pk, pf⟩ A A (.slice xa RR.length xc) v2 RR RR (.slice (some ⟨g, 0, none⟩) m ic) is) := hKT2.out.appV hB3 zo2 zg zb zf
          have hEP22 : Hid (WE w P22 g0 gp (.slice ua os.length uc) ⟨os, pn, ps, pa, pk, pf⟩ qi (.slice (some ⟨g, 0, none⟩) m ic) is) := hET2.out.keep (b := W3.heap.size) (zb.mono hB3) zb.size hgW huW hqi (by omega)
          have hsP22 : B ≤ P22.heap.size := Nat.le_trans hsT2 zb.size
          clear hKT2 hET2 hsT2
          clear zo zo2 zb zg zf ht2o
          refine hK.out _ _ trivial (fun hHeld => ?_)
          clear hK K
          try simp only [Act.put, List.setIfInBounds_toArray, List.set_cons_zero, List.set_cons_succ]
          refine take_at (i := 13) (v := v2) rfl rfl (by kernel_rfl) (by kernel_rfl) (by kernel_rfl) (fun _ _ _ h => h) (Or.inl ⟨by rfl, fun X _ => by go_simp⟩) trivial ?_
          try simp only [Act.put, List.setIfInBounds_toArray, List.set_cons_zero, List.set_cons_succ]
          refine wpAnyH_done (by kernel_rfl) ?_ _
          go_wp2_with fail
          go_meet
          exact ⟨_, hKP22, hEP22⟩
        · rw [if_pos (by rfl)]
          go_wp2_with fail
          obtain ⟨k1, k2, k3, k4, k5, k6⟩ := hKV.out.hq
          refine (rtake_is bb qb ob gb ⟨os, pn, ps, pa, pk, pf⟩ r0 (.slice (some ⟨g, 0, none⟩) c ic) qi (is.take c) _ hKV.out.duo.b (hKV.out.rd.take (by have := hm.out; omega)) k4 k5 k6 (by rw [hlt]; show 0 + 8 * c ≤ 800000; omega) ⟨Int.le_refl _, by rw [hlt]; show (0 : Int) + (c : Int) ≤ 1000000; omega⟩ ⟨Int.le_refl _, by rw [hlt]; show (0 : Int) + (c : Int) ≤ 1000000; omega⟩).mono ?_
          rintro e T1a ⟨t1, ob1n, rfl, ht1, hRb, hob, hc5⟩
          rw [hA1.out] at hRb
          rw [hR1.out] at ht1
          have hz0 := hKV.out.h0
          have hpp := hEV.out.hp
          have huo := hEV.out.O.lt
          have hKT1a : Hid (KQ W3 T1a B ba qa oa1 ga bb qb ob1n gb qi ⟨os, pn, ps, pa, pk, pf⟩ ⟨os, pn, ps, pa, pk, pf⟩ A A1 (.slice xa RR.length xc) (.slice none 0 0) RR [] (.slice (some ⟨g, 0, none⟩) m ic) is) := hKV.out.takeB (by omega) hRb hc5 hob
          have hET1a : Hid (WE w T1a g0 gp (.slice ua os.length uc) ⟨os, pn, ps, pa, pk, pf⟩ qi (.slice (some ⟨g, 0, none⟩) m ic) is) := hEV.out.keep (b := W3.heap.size) (hc5.below (by omega) (by omega) (by omega) (by omega)) hc5.size hgW huW hqi (by omega)
          have hsT1a : B ≤ T1a.heap.size := Nat.le_trans hsV hc5.size
          have ht1o := ht1
          clear hKV hEV hsV hRb hob hc5 hz0 hpp huo k1 k2 k3 k4 k5 k6 ht1
          go_wp2_with fail
          refine hK.out _ _ trivial (fun hHeld => ?_)
          clear hK K
          try simp only [Act.put, List.setIfInBounds_toArray, List.set_cons_zero, List.set_cons_succ]
          refine wpAnyH_ready (rs := [0]) (by kernel_rfl) (by simp) ?_
          refine AllReadyH.cons rfl (fun K hK => ?_) AllReadyH.nil
          rw [if_pos (by rfl)]
          go_simp
          have hn1 := hKT1a.out.below (below_alloc T1a (.cells #[] 45))
          have hn2 := rows_litv T1a hsT1a
          have hn3 := hET1a.out.call (below_alloc T1a (.cells #[] 45))
          have hn4 : B ≤ (T1a.alloc (.cells #[] 45)).heap.size := Nat.le_trans hsT1a (below_alloc T1a (.cells #[] 45)).size
          have hn5 : ∀ k, (Value.slice xa RR.length xc).ownBlock = some k → (Value.slice (some ⟨T1a.heap.size, 0, none⟩) 0 0).ownBlock ≠ some k := own_apart_new hKT1a.out.hu
          have hn6 := own_below ht1o (below_alloc T1a (.cells #[] 45))
          obtain ⟨L1, hL1⟩ : ∃ Y, Hid (T1a.alloc (.cells #[] 45) = Y) := ⟨_, rfl⟩
          rw [hL1.out] at hn1 hn2 hn3 hn4 hn6 ⊢
          obtain ⟨gl, hgl⟩ : ∃ x, Hid (T1a.heap.size = x) := ⟨_, rfl⟩
          rw [hgl.out] at hn2 hn5 ⊢
          clear hL1 hgl
          have hKL1 : Hid (KQ W3 L1 B ba qa oa1 ga bb qb ob1n gb qi ⟨os, pn, ps, pa, pk, pf⟩ ⟨os, pn, ps, pa, pk, pf⟩ A A1 (.slice xa RR.length xc) (.slice (some ⟨gl, 0, none⟩) 0 0) RR [] (.slice (some ⟨g, 0, none⟩) m ic) is) := hn1.newV hn2 hn5
          have hEL1 : Hid (WE w L1 g0 gp (.slice ua os.length uc) ⟨os, pn, ps, pa, pk, pf⟩ qi (.slice (some ⟨g, 0, none⟩) m ic) is) := hn3
          have hsL1 : B ≤ L1.heap.size := hn4
          clear hKT1a hET1a hsT1a
          have ht1o' := hn6
          clear ht1o hn6
          have ht1o := ht1o'
          clear ht1o'
          clear hn1 hn2 hn3 hn4 hn5
          refine hK.out _ _ trivial (fun hHeld => ?_)
          clear hK K
          try simp only [Act.put, List.setIfInBounds_toArray, List.set_cons_zero, List.set_cons_succ]
          refine wpAnyH_ready (rs := [6]) (by kernel_rfl) (by simp) ?_
          refine AllReadyH.cons rfl (fun K hK => ?_) AllReadyH.nil
          refine step_append_srcY rfl rfl (.tmp 53) (.tmp 58) 39 rfl 5 B 45 j0 rzero 40 Try.underlying39 hj0 hr0 hr1 hr2 rfl (by decide) (.slice (some ⟨gl, 0, none⟩) 0 0) ([] : List Pn).length (rcs []) rfl hKL1.out.hv t1 R1.length (rcs R1) rfl (srcN_own ht1o) (rcs_one _) (by unfold maxLen; first | omega | (simp; omega)) (by first | omega | (simp; omega)) hsL1 ?_
          intro v1 P11 zo zb zg zf
          have zo2 : P11.ownsRow B 45 5 v1 R1.length (rcs R1) := by
            have h := zo
            rw [← rcs_append, ← List.length_append, List.nil_append] at h
            exact h
          have hKP11 : Hid (KQ W3 P11 B ba qa oa1 ga bb qb ob1n gb qi ⟨os, pn, ps, pa, pk, pf⟩ ⟨os, pn, ps, pa, pk, pf⟩ A A1 (.slice xa RR.length xc) v1 RR R1 (.slice (some ⟨g, 0, none⟩) m ic) is) := hKL1.out.appV hB3 zo2 zg zb zf
          have hEP11 : Hid (WE w P11 g0 gp (.slice ua os.length uc) ⟨os, pn, ps, pa, pk, pf⟩ qi (.slice (some ⟨g, 0, none⟩) m ic) is) := hEL1.out.keep (b := W3.heap.size) (zb.mono hB3) zb.size hgW huW hqi (by omega)
          have hsP11 : B ≤ P11.heap.size := Nat.le_trans hsL1 zb.size
          clear hKL1 hEL1 hsL1
          clear zo zo2 zb zg zf ht1o
          refine hK.out _ _ trivial (fun hHeld => ?_)
          clear hK K
          try simp only [Act.put, List.setIfInBounds_toArray, List.set_cons_zero, List.set_cons_succ]
          refine wpAnyH_ready (rs := [11]) (by kernel_rfl) (by simp) ?_
          refine AllReadyH.cons rfl (fun K hK => ?_) AllReadyH.nil
          rw [if_pos (by rfl)]
          go_wp2_with fail
          obtain ⟨k1, k2, k3, k4, k5, k6⟩ := hKP11.out.hq
          refine (rtake_is bb qb ob1n gb ⟨os, pn, ps, pa, pk, pf⟩ A1 (.slice (some ⟨g, c * 5, none⟩) (m - c) (ic - c)) qi (is.drop c) _ hKP11.out.duo.b (by have h := hKP11.out.rd.drop c (by have := hm.out; omega); rwa [Nat.zero_add] at h) k4 k5 k6 (by rw [hld]; omega) ⟨hc2.1, by rw [hld]; omega⟩ ⟨hc2.2.2.1, by rw [hld]; omega⟩).mono ?_
          rintro e T2 ⟨t2, ob2n, rfl, ht2, hRb, hob, hc5⟩
          rw [hA2.out] at hRb
          rw [hR2.out] at ht2
          have hz0 := hKP11.out.h0
          have hpp := hEP11.out.hp
          have huo := hEP11.out.O.lt
          have hKT2 : Hid (KQ W3 T2 B ba qa oa1 ga bb qb ob2n gb qi ⟨os, pn, ps, pa, pk, pf⟩ ⟨os, pn, ps, pa, pk, pf⟩ A A (.slice xa RR.length xc) v1 RR R1 (.slice (some ⟨g, 0, none⟩) m ic) is) := hKP11.out.takeB (by omega) hRb hc5 hob
          have hET2 : Hid (WE w T2 g0 gp (.slice ua os.length uc) ⟨os, pn, ps, pa, pk, pf⟩ qi (.slice (some ⟨g, 0, none⟩) m ic) is) := hEP11.out.keep (b := W3.heap.size) (hc5.below (by omega) (by omega) (by omega) (by omega)) hc5.size hgW huW hqi (by omega)
          have hsT2 : B ≤ T2.heap.size := Nat.le_trans hsP11 hc5.size
          have ht2o := ht2
          clear hKP11 hEP11 hsP11 hRb hob hc5 hz0 hpp huo k1 k2 k3 k4 k5 k6 ht2
          go_wp2_with fail
          refine hK.out _ _ trivial (fun hHeld => ?_)
          clear hK K
          try simp only [Act.put, List.setIfInBounds_toArray, List.set_cons_zero, List.set_cons_succ]
          refine wpAnyH_ready (rs := [12]) (by kernel_rfl) (by simp) ?_
          refine AllReadyH.cons rfl (fun K hK => ?_) AllReadyH.nil
          refine step_append_srcY rfl rfl (.tmp 59) (.tmp 64) 39 rfl 5 B 45 j0 rzero 40 Try.underlying39 hj0 hr0 hr1 hr2 rfl (by decide) v1 R1.length (rcs R1) rfl hKT2.out.hv t2 R2.length (rcs R2) rfl (srcN_own ht2o) (rcs_one _) (by unfold maxLen; first | omega | (simp; omega)) (by first | omega | (simp; omega)) hsT2 ?_
          intro v2 P22 zo zb zg zf
          have zo2 : P22.ownsRow B 45 5 v2 RR.length (rcs RR) := by
            have h := zo
            rw [← rcs_append, ← List.length_append, hR12.out] at h
            exact h
          have hKP22 : Hid (KQ W3 P22 B ba qa oa1 ga bb qb ob2n gb qi ⟨os, pn, ps, pa, pk, pf⟩ ⟨os, pn, ps, pa, pk, pf⟩ A A (.slice xa RR.length xc) v2 RR RR (.slice (some ⟨g, 0, none⟩) m ic) is) := hKT2.out.appV hB3 zo2 zg zb zf
          have hEP22 : Hid (WE w P22 g0 gp (.slice ua os.length uc) ⟨os, pn, ps, pa, pk, pf⟩ qi (.slice (some ⟨g, 0, none⟩) m ic) is) := hET2.out.keep (b := W3.heap.size) (zb.mono hB3) zb.size hgW huW hqi (by omega)
          have hsP22 : B ≤ P22.heap.size := Nat.le_trans hsT2 zb.size
          clear hKT2 hET2 hsT2
          clear zo zo2 zb zg zf ht2o
          refine hK.out _ _ trivial (fun hHeld => ?_)
          clear hK K
          try simp only [Act.put, List.setIfInBounds_toArray, List.set_cons_zero, List.set_cons_succ]
          refine take_at (i := 13) (v := v2) rfl rfl (by kernel_rfl) (by kernel_rfl) (by kernel_rfl) (fun _ _ _ h => h) (Or.inl ⟨by rfl, fun X _ => by go_simp⟩) trivial ?_
          try simp only [Act.put, List.setIfInBounds_toArray, List.set_cons_zero, List.set_cons_succ]
          refine wpAnyH_done (by kernel_rfl) ?_ _
          go_wp2_with fail
          go_meet
          exact ⟨_, hKP22, hEP22⟩
  case rest =>
    obtain ⟨ob2, hKr, hEr⟩ := hcut
    obtain ⟨W5, hW5⟩ : ∃ X, X = wc := ⟨_, rfl⟩
    subst hW5
    obtain ⟨ya, yc, rfl⟩ := own_len hKr.out.hv
    have hK5 : Hid (KQ W3 W5 B ba qa oa1 ga bb qb ob2 gb qi ⟨os, pn, ps, pa, pk, pf⟩ ⟨os, pn, ps, pa, pk, pf⟩ A A (.slice xa RR.length xc) (.slice ya RR.length yc) RR RR (.slice ia m ic) is) := hKr
    have hE5 : Hid (WE w W5 g0 gp (.slice ua os.length uc) ⟨os, pn, ps, pa, pk, pf⟩ qi (.slice ia m ic) is) := hEr
    have hPt := pt_rows (p := ⟨os, pn, ps, pa, pk, pf⟩) (small_new hS'.out).2.2.2 is (by have := hm.out; omega) (fun i hi hmk => by rcases hG'.out i hi with h | h; exact absurd (h.1.symm.trans hmk) (by decide); omega)
    have hBd := bd_all (p := ⟨os, pn, ps, pa, pk, pf⟩) (fun o ho => (hS'.out.2.1 o ho).2.2.2.2) is r0 bd_nil (fun i hi hmk => by rcases hG'.out i hi with h | h; exact absurd (h.1.symm.trans hmk) (by decide); omega)
    rw [hRR.out] at hBd
    rw [hRR.out, hA0.out] at hPt
    have hPt' : Hid _ := hPt
    have hBd' : Hid (Bd RR) := hBd
    have hn48 : pn ≤ 48 := small_n hS'.out
    have hn0 : 0 ≤ pn := by have h := hS'.out; obtain ⟨_, _, h1, h2, h3, _⟩ := h; simp only at h1 h2 h3; omega
    have hR200 : Hid (RR.length ≤ 200) := by
      have h1 := (rows_len ⟨os, pn, ps, pa, pk, pf⟩ is).1
      rw [hRR.out] at h1
      have := hm.out
      exact (by omega : RR.length ≤ 200)
    have hmm := @run_makeMap Try.prog
    clear hKr hEr hA1 hR1 hR2 hA2 hR12 hlt hld hb1 hc2 hRl hPt hBd
    have hmk : Hid ((W5.alloc (.map #[] 0)).ownsMap Try.prog 81 (plainElem (H := Unit) Try.prog 4) W5.heap.size 0 (setP [])) := World.ownsMap_made W5 Try.prog 81 (plainElem (H := Unit) Try.prog 4)
    go_upto_region 10 with fail
    refine world_gen (fun X => Hid (Below W5.heap.size W5 X) ∧ Hid (X.ownsMap Try.prog 81 (plainElem (H := Unit) Try.prog 4) W5.heap.size 0 (setP [])) ∧ W5.heap.size < X.heap.size) ⟨below_alloc _ _, hmk.out, by simp⟩ ?_
    clear hmk
    rintro W6 ⟨hb6, hm6, hz6⟩
    obtain ⟨mb, hmb⟩ : ∃ x, Hid (W5.heap.size = x) := ⟨_, rfl⟩
    rw [hmb.out] at hb6 hm6 hz6 ⊢
    have hmz : W5.heap.size ≤ mb := Nat.le_of_eq hmb.out
    clear hmm
    obtain ⟨N, hN⟩ : ∃ x, Hid (RR.length = x) := ⟨_, rfl⟩
    rw [hN.out] at hK5 ⊢
    go_wp2_with fail
    go_loopw [69] (fun iv wr => ∃ i : Nat, i ≤ N ∧ iv = .int .i64 ((i : Nat) : Int) ∧ Hid (Below mb W5 wr) ∧ Hid (wr.ownsMap Try.prog 81 (plainElem (H := Unit) Try.prog 4) mb i (setP (prs (RR.take i)))) ∧ mb < wr.heap.size) (fun iv _ => N - (intOf iv).toNat)
    case atStart => exact ⟨0, Nat.zero_le _, rfl, hb6, hm6, hz6⟩
    case round =>
      obtain ⟨i, hi, rfl, hbw, hmap, hzw⟩ := hrel
      clear hb6 hm6 hz6
      by_cases hlt : i < N
      · have hNl : i < RR.length := by rw [hN.out]; exact hlt
        have hrd := rdr_own hK5.out.hu
        obtain ⟨_, ao, cap, e5, hcp, hcp2, hcell⟩ := hrd
        injection e5 with e6 e7 e8
        subst e6 e8
        obtain ⟨rb, ro, rfl, hrb, hrow⟩ := hcell (by omega)
        have hrbm : rb < mb := by have := hmb.out; omega
        have hat := (hrow i hNl).keep (hbw.out.block rb hrbm)
        have hprev : Hid (0 < i → wr.cell? ⟨rb, ro + (i - 1) * 5, none⟩ = some (.int .i64 (pAt RR (i - 1)).s) ∧ (pAt RR (i - 1)).s ≤ (pAt RR i).s) := fun h0 => by
          have h1 := (hrow (i - 1) (by omega)).keep (hbw.out.block rb hrbm)
          exact ⟨h1.1, (srt_pair (srt_left hPt'.out.srt) (show i - 1 < i by omega) hNl).1⟩
        have hx1 := hPt'.out.pas _ (pAt_mem RR i hNl)
        have hx2 := hPt'.out.pr _ (pAt_mem RR i hNl)
        have hx3 := hBd'.out _ (pAt_mem RR i hNl)
        have hx4 := prs_no (srt_left hPt'.out.srt) hNl
        have hx5 := prs_snoc RR i hNl
        have hcn : N ≤ xc := by rw [← hN.out]; exact hcp
        clear hcell hrow hcp e7
        obtain ⟨⟨xs, xk, xcn, xv, xl⟩, hxe⟩ : ∃ q, pAt RR i = q := ⟨_, rfl⟩
        rw [hxe] at hat hx1 hx2 hx3 hx4 hx5 hprev
        simp only at hx1 hx2 hx3 hx4 hx5
        clear hxe
        obtain ⟨c0, c1, c2, c3, c4⟩ := hat
        simp only at c0 c1 c2 c3 c4
        go_upto_region 14 with fail
        have hx3' := in64_row (q := ⟨xs, xk, xcn, xv, xl⟩) hx3
        have hin : Hid (In64 (xs, xk)) := hx3'
        clear hx3'
        refine world_gen (fun X => Hid (Below mb W5 X) ∧ Hid (X.ownsMap Try.prog 81 (plainElem (H := Unit) Try.prog 4) mb i (setP (prs (RR.take i)))) ∧ Hid (Rok X wr.heap.size ⟨xs, xk, xcn, xv, xl⟩) ∧ Hid (X.heap[wr.heap.size + 1]? = some (.cells #[.int .i64 xs, .int .i64 xk] 81 (0, 0))) ∧ Hid (Below wr.heap.size wr X)) ⟨(hbw.out.alloc (by omega) _).alloc (by simp; omega) _, (hmap.out.alloc _).alloc _, ?g1, ?g2, ((Below.refl _ _).alloc (Nat.le_refl _) _).alloc (by simp) _⟩ ?_
        case g1 => exact (rok_new wr ⟨xs, xk, xcn, xv, xl⟩).keep ((below_alloc (wr.alloc _) _).block _ (by simp))
        case g2 =>
          have h : ((wr.alloc (.cells #[.int .i64 xs, .int .i64 xk, .int .i64 xv, .int .i64 xcn, .int .u64 xl] 45)).alloc (.cells #[.int .i64 xs, .int .i64 xk] 81)).heap[wr.heap.size + 1]? = some (.cells #[.int .i64 xs, .int .i64 xk] 81 (0, 0)) := by
            have h1 := heap_alloc_new (wr.alloc (.cells #[.int .i64 xs, .int .i64 xk, .int .i64 xv, .int .i64 xcn, .int .u64 xl] 45)) (.cells #[.int .i64 xs, .int .i64 xk] 81)
            simpa using h1
          exact h
        rintro V ⟨hbV, hmV, hrV, hgV, hwV⟩
        have hprV : Hid (0 < i → V.cell? ⟨rb, ro + (i - 1) * 5, none⟩ = some (.int .i64 (pAt RR (i - 1)).s) ∧ (pAt RR (i - 1)).s ≤ xs) := fun h0 => by
          obtain ⟨h1, h2⟩ := hprev.out h0
          exact ⟨(hwV.out.cell (p := ⟨rb, _, none⟩) (show rb < wr.heap.size by omega)).trans h1, h2⟩
        obtain ⟨gx, hgx⟩ : ∃ x, Hid (wr.heap.size = x) := ⟨_, rfl⟩
        obtain ⟨g2, hg2⟩ : ∃ x, Hid (wr.heap.size + 1 = x) := ⟨_, rfl⟩
        rw [hg2.out] at hgV ⊢
        rw [hgx.out] at hrV ⊢
        clear hprev hbw hmap c0 c1 c2 c3 c4 hgx hg2
        have hKV : Hid _ := hK5.out.below (hbV.out.mono hmz)
        have hEV : Hid _ := hE5.out.call (hbV.out.mono hmz)
        have hgx : gx < V.heap.size := hrV.out.lt
        have hg2 : g2 < V.heap.size := (Array.getElem?_eq_some_iff.1 hgV.out).1
        obtain ⟨am, al, as', aL⟩ := A
        have hmbV : mb < V.heap.size := hmV.out.lt
        have hi200 : i ≤ 200 := by have h1 := hR200.out; have h2 := hN.out; omega
        go_cut [119] (fun t wx => t = .bool false ∧ Hid (Below V.heap.size V wx))
        case first =>
          have hxl0 : Hid (0 < xl) := Nat.pos_of_ne_zero hx2.2
          have hxc0 : Hid (1 ≤ xcn) := hx2.1
          clear hx2
          refine wp_region_held_drew (S := fun X => Below V.heap.size V X) (by kernel_rfl) (Below.refl _ _).drew (fun hHeld => ?_)
          generalize V.drew = V0 at hHeld ⊢
          rcases Nat.eq_zero_or_pos i with hi0 | hi0
          · have hi0h : Hid (i = 0) := hi0
            clear hi0
            have hpin : Hid (∀ x ∈ prs (RR.take i), In64 x) := fun x hx => by
              obtain ⟨q, hq, rfl⟩ := List.mem_map.1 hx
              exact in64_row (hBd'.out q (List.mem_of_mem_take hq))
            refine take_at (i := 0) (v := .pointer (some ⟨gx, 0, none⟩)) rfl rfl (by kernel_rfl) (by kernel_rfl) (by kernel_rfl) (fun _ _ _ h => h) (Or.inl ⟨by kernel_rfl, fun X _ => by go_simp⟩) hHeld ?_
            try simp only [Act.put, List.setIfInBounds_toArray, List.set_cons_zero, List.set_cons_succ]
            refine take_at (i := 1) (v := .int .i64 xs) rfl rfl (by kernel_rfl) (by kernel_rfl) (by kernel_rfl) (fun _ _ _ h => h) (Or.inl ⟨by kernel_rfl, fun X hX => by obtain ⟨k0, k1, k2, k3, k4⟩ := (hrV.out.keep (hX.block gx hgx)).c; simp only [Nat.zero_add] at k0 k1 k2 k3 k4; go_simp⟩) hHeld ?_
            try simp only [Act.put, List.setIfInBounds_toArray, List.set_cons_zero, List.set_cons_succ]
            refine take_at (i := 2) (v := .pointer (some ⟨gp, 1, none⟩)) rfl rfl (by kernel_rfl) (by kernel_rfl) (by kernel_rfl) (fun _ _ _ h => h) (Or.inl ⟨by kernel_rfl, fun X _ => by go_simp⟩) hHeld ?_
            try simp only [Act.put, List.setIfInBounds_toArray, List.set_cons_zero, List.set_cons_succ]
            refine take_at (i := 3) (v := .int .i64 pn) rfl rfl (by kernel_rfl) (by kernel_rfl) (by kernel_rfl) (fun _ _ _ h => h) (Or.inl ⟨by kernel_rfl, fun X hX => by have h := hEV.out.P.call hX; have c1 := h.c1; go_simp⟩) hHeld ?_
            try simp only [Act.put, List.setIfInBounds_toArray, List.set_cons_zero, List.set_cons_succ]
            refine take_at (i := 4) (v := .int .i64 (xs + pn)) rfl rfl (by kernel_rfl) (by kernel_rfl) (by kernel_rfl) (fun _ _ _ h => h) (Or.inl ⟨by kernel_rfl, fun X _ => by have h0_ := hx3.1; have h1_ := hn48; have h2_ := hn0; first | (go_simp; done) | (go_simp; omega) | (go_simp; rw [IntKind.wrap_i64]; omega)⟩) hHeld ?_
            try simp only [Act.put, List.setIfInBounds_toArray, List.set_cons_zero, List.set_cons_succ]
            refine take_at (i := 5) (v := .pointer (some ⟨ba, 0, none⟩)) rfl rfl (by kernel_rfl) (by kernel_rfl) (by kernel_rfl) (fun _ _ _ h => h) (Or.inl ⟨by kernel_rfl, fun X _ => by go_simp⟩) hHeld ?_
            try simp only [Act.put, List.setIfInBounds_toArray, List.set_cons_zero, List.set_cons_succ]
            refine take_at (i := 6) (v := .pointer (some ⟨ba, 0, none⟩)) rfl rfl (by kernel_rfl) (by kernel_rfl) (by kernel_rfl) (fun _ _ _ h => h) (Or.inl ⟨by kernel_rfl, fun X _ => by go_simp⟩) hHeld ?_
            try simp only [Act.put, List.setIfInBounds_toArray, List.set_cons_zero, List.set_cons_succ]
            refine take_at (i := 7) (v := .pointer (some ⟨ba, 0, none⟩)) rfl rfl (by kernel_rfl) (by kernel_rfl) (by kernel_rfl) (fun _ _ _ h => h) (Or.inl ⟨by kernel_rfl, fun X _ => by go_simp⟩) hHeld ?_
            try simp only [Act.put, List.setIfInBounds_toArray, List.set_cons_zero, List.set_cons_succ]
            refine take_at (i := 8) (v := .agg #[.int .i64 am, .int .i64 al, .int .i64 as']) rfl rfl (by kernel_rfl) (by kernel_rfl) (by kernel_rfl) (fun _ _ _ h => h) (Or.inl ⟨by kernel_rfl, fun X hX => by obtain ⟨k0, k1, k2, k3⟩ := (hKV.out.duo.a.below hX).cells; simp only at k0 k1 k2 k3; go_simp⟩) hHeld ?_
            try simp only [Act.put, List.setIfInBounds_toArray, List.set_cons_zero, List.set_cons_succ]
            refine wpAnyH_ready (rs := [9]) (by kernel_rfl) (by simp) ?_
            refine AllReadyH.cons rfl (fun K hK => ?_) AllReadyH.nil
            rw [if_pos (by rfl)]
            go_wp2_with fail
            refine (mark_is am al as' _).mono ?_
            rintro e Y1 ⟨rfl, hb⟩
            have hHb := below_call hHeld hb
            clear hHeld hb
            go_wp2_with fail
            refine hK.out _ _ (hHb) (fun hHeld => ?_)
            clear hK K hHb
            try simp only [Act.put, List.setIfInBounds_toArray, List.set_cons_zero, List.set_cons_succ]
            refine take_at (i := 10) (v := .bool false) rfl rfl (by kernel_rfl) (by kernel_rfl) (by kernel_rfl) (fun _ _ _ h => h) (Or.inl ⟨by kernel_rfl, fun X _ => by have h0_ := hx1; first | (go_simp; done) | (go_simp; omega) | (go_simp; rw [IntKind.wrap_i64]; omega)⟩) hHeld ?_
            try simp only [Act.put, List.setIfInBounds_toArray, List.set_cons_zero, List.set_cons_succ]
            refine take_at (i := 11) (v := .bool false) rfl rfl (by kernel_rfl) (by kernel_rfl) (by kernel_rfl) (fun _ _ _ h => h) (Or.inl ⟨by kernel_rfl, fun X _ => by go_simp⟩) hHeld ?_
            try simp only [Act.put, List.setIfInBounds_toArray, List.set_cons_zero, List.set_cons_succ]
            refine take_at (i := 12) (v := .map (some mb)) rfl rfl (by kernel_rfl) (by kernel_rfl) (by kernel_rfl) (fun _ _ _ h => h) (Or.inl ⟨by kernel_rfl, fun X _ => by go_simp⟩) hHeld ?_
            try simp only [Act.put, List.setIfInBounds_toArray, List.set_cons_zero, List.set_cons_succ]
            refine take_at (i := 13) (v := .agg #[.int .i64 xs, .int .i64 xk]) rfl rfl (by kernel_rfl) (by kernel_rfl) (by kernel_rfl) (fun _ _ _ h => h) (Or.inl ⟨by kernel_rfl, fun X hX => by obtain ⟨c0, c1⟩ := pair_cells ((hX.block g2 hg2).trans hgV.out); go_simp⟩) hHeld ?_
            try simp only [Act.put, List.setIfInBounds_toArray, List.set_cons_zero, List.set_cons_succ]
            refine wpAnyH_ready (rs := [14]) (by kernel_rfl) (by simp) ?_
            refine AllReadyH.cons rfl (fun K hK => ?_) AllReadyH.nil
            rw [if_pos (by rfl)]
            refine wp_lookup_bool (kd := 93) rfl (.tmp 91) (.tmp 92) rfl mb _ (setP (prs (RR.take i))) rfl (ownsMap_keep hmV.out (hHeld.block mb (by omega))) (.agg #[.int .i64 xs, .int .i64 xk]) (kl xs xk) rfl (key81 xs xk hin.out) false (setP_no _ xs xk hx4 hpin.out hin.out) ?_
            refine hK.out _ _ hHeld (fun hHeld => ?_)
            clear hK K
            try simp only [Act.put, List.setIfInBounds_toArray, List.set_cons_zero, List.set_cons_succ]
            refine take_at (i := 15) (v := .bool false) rfl rfl (by kernel_rfl) (by kernel_rfl) (by kernel_rfl) (fun _ _ _ h => h) (Or.inl ⟨by kernel_rfl, fun X _ => by go_simp⟩) hHeld ?_
            try simp only [Act.put, List.setIfInBounds_toArray, List.set_cons_zero, List.set_cons_succ]
            refine take_at (i := 16) (v := .bool false) rfl rfl (by kernel_rfl) (by kernel_rfl) (by kernel_rfl) (fun _ _ _ h => h) (Or.inl ⟨by kernel_rfl, fun X _ => by go_simp⟩) hHeld ?_
            try simp only [Act.put, List.setIfInBounds_toArray, List.set_cons_zero, List.set_cons_succ]
            refine take_at (i := 17) (v := .int .i64 ((i : Nat) : Int)) rfl rfl (by kernel_rfl) (by kernel_rfl) (by kernel_rfl) (fun _ _ _ h => h) (Or.inl ⟨by kernel_rfl, fun X _ => by go_simp⟩) hHeld ?_
            try simp only [Act.put, List.setIfInBounds_toArray, List.set_cons_zero, List.set_cons_succ]
            refine take_at (i := 18) (v := .bool false) rfl rfl (by kernel_rfl) (by kernel_rfl) (by kernel_rfl) (fun _ _ _ h => h) (Or.inl ⟨by kernel_rfl, fun X _ => by have h0_ := hi0h.out; go_simp; (try omega)⟩) hHeld ?_
            try simp only [Act.put, List.setIfInBounds_toArray, List.set_cons_zero, List.set_cons_succ]
            refine take_at (i := 19) (v := .bool false) rfl rfl (by kernel_rfl) (by kernel_rfl) (by kernel_rfl) (fun _ _ _ h => h) (Or.inl ⟨by kernel_rfl, fun X _ => by go_simp⟩) hHeld ?_
            try simp only [Act.put, List.setIfInBounds_toArray, List.set_cons_zero, List.set_cons_succ]
            refine take_at (i := 20) (v := undef) rfl rfl (by kernel_rfl) (by kernel_rfl) (by kernel_rfl) (fun _ _ _ h => h) (Or.inr ⟨by kernel_rfl, rfl⟩) hHeld ?_
            try simp only [Act.put, List.setIfInBounds_toArray, List.set_cons_zero, List.set_cons_succ]
            refine take_at (i := 21) (v := undef) rfl rfl (by kernel_rfl) (by kernel_rfl) (by kernel_rfl) (fun _ _ _ h => h) (Or.inr ⟨by kernel_rfl, rfl⟩) hHeld ?_
            try simp only [Act.put, List.setIfInBounds_toArray, List.set_cons_zero, List.set_cons_succ]
            refine take_at (i := 22) (v := undef) rfl rfl (by kernel_rfl) (by kernel_rfl) (by kernel_rfl) (fun _ _ _ h => h) (Or.inr ⟨by kernel_rfl, rfl⟩) hHeld ?_
            try simp only [Act.put, List.setIfInBounds_toArray, List.set_cons_zero, List.set_cons_succ]
            refine take_at (i := 23) (v := undef) rfl rfl (by kernel_rfl) (by kernel_rfl) (by kernel_rfl) (fun _ _ _ h => h) (Or.inr ⟨by kernel_rfl, rfl⟩) hHeld ?_
            try simp only [Act.put, List.setIfInBounds_toArray, List.set_cons_zero, List.set_cons_succ]
            refine take_at (i := 24) (v := undef) rfl rfl (by kernel_rfl) (by kernel_rfl) (by kernel_rfl) (fun _ _ _ h => h) (Or.inr ⟨by kernel_rfl, rfl⟩) hHeld ?_
            try simp only [Act.put, List.setIfInBounds_toArray, List.set_cons_zero, List.set_cons_succ]
            refine take_at (i := 25) (v := undef) rfl rfl (by kernel_rfl) (by kernel_rfl) (by kernel_rfl) (fun _ _ _ h => h) (Or.inr ⟨by kernel_rfl, rfl⟩) hHeld ?_
            try simp only [Act.put, List.setIfInBounds_toArray, List.set_cons_zero, List.set_cons_succ]
            refine take_at (i := 26) (v := undef) rfl rfl (by kernel_rfl) (by kernel_rfl) (by kernel_rfl) (fun _ _ _ h => h) (Or.inr ⟨by kernel_rfl, rfl⟩) hHeld ?_
            try simp only [Act.put, List.setIfInBounds_toArray, List.set_cons_zero, List.set_cons_succ]
            refine take_at (i := 27) (v := undef) rfl rfl (by kernel_rfl) (by kernel_rfl) (by kernel_rfl) (fun _ _ _ h => h) (Or.inr ⟨by kernel_rfl, rfl⟩) hHeld ?_
            try simp only [Act.put, List.setIfInBounds_toArray, List.set_cons_zero, List.set_cons_succ]
            refine take_at (i := 28) (v := undef) rfl rfl (by kernel_rfl) (by kernel_rfl) (by kernel_rfl) (fun _ _ _ h => h) (Or.inr ⟨by kernel_rfl, rfl⟩) hHeld ?_
            try simp only [Act.put, List.setIfInBounds_toArray, List.set_cons_zero, List.set_cons_succ]
            refine take_at (i := 29) (v := .bool false) rfl rfl (by kernel_rfl) (by kernel_rfl) (by kernel_rfl) (fun _ _ _ h => h) (Or.inl ⟨by kernel_rfl, fun X _ => by go_simp⟩) hHeld ?_
            try simp only [Act.put, List.setIfInBounds_toArray, List.set_cons_zero, List.set_cons_succ]
            refine take_at (i := 30) (v := .bool false) rfl rfl (by kernel_rfl) (by kernel_rfl) (by kernel_rfl) (fun _ _ _ h => h) (Or.inl ⟨by kernel_rfl, fun X _ => by go_simp⟩) hHeld ?_
            try simp only [Act.put, List.setIfInBounds_toArray, List.set_cons_zero, List.set_cons_succ]
            refine take_at (i := 31) (v := .bool false) rfl rfl (by kernel_rfl) (by kernel_rfl) (by kernel_rfl) (fun _ _ _ h => h) (Or.inl ⟨by kernel_rfl, fun X _ => by go_simp⟩) hHeld ?_
            try simp only [Act.put, List.setIfInBounds_toArray, List.set_cons_zero, List.set_cons_succ]
            refine take_at (i := 32) (v := .pointer (some ⟨gx, 3, none⟩)) rfl rfl (by kernel_rfl) (by kernel_rfl) (by kernel_rfl) (fun _ _ _ h => h) (Or.inl ⟨by kernel_rfl, fun X _ => by go_simp⟩) hHeld ?_
            try simp only [Act.put, List.setIfInBounds_toArray, List.set_cons_zero, List.set_cons_succ]
            refine take_at (i := 33) (v := .int .i64 xcn) rfl rfl (by kernel_rfl) (by kernel_rfl) (by kernel_rfl) (fun _ _ _ h => h) (Or.inl ⟨by kernel_rfl, fun X hX => by obtain ⟨k0, k1, k2, k3, k4⟩ := (hrV.out.keep (hX.block gx hgx)).c; simp only [Nat.zero_add] at k0 k1 k2 k3 k4; go_simp⟩) hHeld ?_
            try simp only [Act.put, List.setIfInBounds_toArray, List.set_cons_zero, List.set_cons_succ]
            refine take_at (i := 34) (v := .bool false) rfl rfl (by kernel_rfl) (by kernel_rfl) (by kernel_rfl) (fun _ _ _ h => h) (Or.inl ⟨by kernel_rfl, fun X _ => by have h0_ := hxc0.out; go_simp; (try omega)⟩) hHeld ?_
            try simp only [Act.put, List.setIfInBounds_toArray, List.set_cons_zero, List.set_cons_succ]
            refine take_at (i := 35) (v := .bool false) rfl rfl (by kernel_rfl) (by kernel_rfl) (by kernel_rfl) (fun _ _ _ h => h) (Or.inl ⟨by kernel_rfl, fun X _ => by go_simp⟩) hHeld ?_
            try simp only [Act.put, List.setIfInBounds_toArray, List.set_cons_zero, List.set_cons_succ]
            refine take_at (i := 36) (v := .bool false) rfl rfl (by kernel_rfl) (by kernel_rfl) (by kernel_rfl) (fun _ _ _ h => h) (Or.inl ⟨by kernel_rfl, fun X _ => by go_simp⟩) hHeld ?_
            try simp only [Act.put, List.setIfInBounds_toArray, List.set_cons_zero, List.set_cons_succ]
            refine take_at (i := 37) (v := .pointer (some ⟨gx, 4, none⟩)) rfl rfl (by kernel_rfl) (by kernel_rfl) (by kernel_rfl) (fun _ _ _ h => h) (Or.inl ⟨by kernel_rfl, fun X _ => by go_simp⟩) hHeld ?_
            try simp only [Act.put, List.setIfInBounds_toArray, List.set_cons_zero, List.set_cons_succ]
            refine take_at (i := 38) (v := .int .u64 (xl : Int)) rfl rfl (by kernel_rfl) (by kernel_rfl) (by kernel_rfl) (fun _ _ _ h => h) (Or.inl ⟨by kernel_rfl, fun X hX => by obtain ⟨k0, k1, k2, k3, k4⟩ := (hrV.out.keep (hX.block gx hgx)).c; simp only [Nat.zero_add] at k0 k1 k2 k3 k4; go_simp⟩) hHeld ?_
            try simp only [Act.put, List.setIfInBounds_toArray, List.set_cons_zero, List.set_cons_succ]
            refine take_at (i := 39) (v := .bool false) rfl rfl (by kernel_rfl) (by kernel_rfl) (by kernel_rfl) (fun _ _ _ h => h) (Or.inl ⟨by kernel_rfl, fun X _ => by have h0_ := hxl0.out; go_simp; (try omega)⟩) hHeld ?_
            try simp only [Act.put, List.setIfInBounds_toArray, List.set_cons_zero, List.set_cons_succ]
            refine take_at (i := 40) (v := .bool false) rfl rfl (by kernel_rfl) (by kernel_rfl) (by kernel_rfl) (fun _ _ _ h => h) (Or.inl ⟨by kernel_rfl, fun X _ => by go_simp⟩) hHeld ?_
            try simp only [Act.put, List.setIfInBounds_toArray, List.set_cons_zero, List.set_cons_succ]
            refine wpAnyH_done (by kernel_rfl) ?_ _
            go_wp2_with fail
            go_meet
            exact ⟨rfl, hHeld⟩
          · obtain ⟨i', hi'⟩ : ∃ i', i = i' + 1 := ⟨i - 1, by omega⟩
            have hprW : Hid (V.cell? ⟨rb, ro + i' * 5, none⟩ = some (.int .i64 (pAt RR i').s) ∧ (pAt RR i').s ≤ xs) := by
              have h := hprV.out hi0
              rw [show i - 1 = i' by omega] at h
              exact h
            have hin1 : i' < N := by omega
            have hii : Hid (i = i' + 1) := hi'
            clear hi' hi0
            have hpin : Hid (∀ x ∈ prs (RR.take i), In64 x) := fun x hx => by
              obtain ⟨q, hq, rfl⟩ := List.mem_map.1 hx
              exact in64_row (hBd'.out q (List.mem_of_mem_take hq))
            refine take_at (i := 0) (v := .pointer (some ⟨gx, 0, none⟩)) rfl rfl (by kernel_rfl) (by kernel_rfl) (by kernel_rfl) (fun _ _ _ h => h) (Or.inl ⟨by kernel_rfl, fun X _ => by go_simp⟩) hHeld ?_
            try simp only [Act.put, List.setIfInBounds_toArray, List.set_cons_zero, List.set_cons_succ]
            refine take_at (i := 1) (v := .int .i64 xs) rfl rfl (by kernel_rfl) (by kernel_rfl) (by kernel_rfl) (fun _ _ _ h => h) (Or.inl ⟨by kernel_rfl, fun X hX => by obtain ⟨k0, k1, k2, k3, k4⟩ := (hrV.out.keep (hX.block gx hgx)).c; simp only [Nat.zero_add] at k0 k1 k2 k3 k4; go_simp⟩) hHeld ?_
            try simp only [Act.put, List.setIfInBounds_toArray, List.set_cons_zero, List.set_cons_succ]
            refine take_at (i := 2) (v := .pointer (some ⟨gp, 1, none⟩)) rfl rfl (by kernel_rfl) (by kernel_rfl) (by kernel_rfl) (fun _ _ _ h => h) (Or.inl ⟨by kernel_rfl, fun X _ => by go_simp⟩) hHeld ?_
            try simp only [Act.put, List.setIfInBounds_toArray, List.set_cons_zero, List.set_cons_succ]
            refine take_at (i := 3) (v := .int .i64 pn) rfl rfl (by kernel_rfl) (by kernel_rfl) (by kernel_rfl) (fun _ _ _ h => h) (Or.inl ⟨by kernel_rfl, fun X hX => by have h := hEV.out.P.call hX; have c1 := h.c1; go_simp⟩) hHeld ?_
            try simp only [Act.put, List.setIfInBounds_toArray, List.set_cons_zero, List.set_cons_succ]
            refine take_at (i := 4) (v := .int .i64 (xs + pn)) rfl rfl (by kernel_rfl) (by kernel_rfl) (by kernel_rfl) (fun _ _ _ h => h) (Or.inl ⟨by kernel_rfl, fun X _ => by have h0_ := hx3.1; have h1_ := hn48; have h2_ := hn0; first | (go_simp; done) | (go_simp; omega) | (go_simp; rw [IntKind.wrap_i64]; omega)⟩) hHeld ?_
            try simp only [Act.put, List.setIfInBounds_toArray, List.set_cons_zero, List.set_cons_succ]
            refine take_at (i := 5) (v := .pointer (some ⟨ba, 0, none⟩)) rfl rfl (by kernel_rfl) (by kernel_rfl) (by kernel_rfl) (fun _ _ _ h => h) (Or.inl ⟨by kernel_rfl, fun X _ => by go_simp⟩) hHeld ?_
            try simp only [Act.put, List.setIfInBounds_toArray, List.set_cons_zero, List.set_cons_succ]
            refine take_at (i := 6) (v := .pointer (some ⟨ba, 0, none⟩)) rfl rfl (by kernel_rfl) (by kernel_rfl) (by kernel_rfl) (fun _ _ _ h => h) (Or.inl ⟨by kernel_rfl, fun X _ => by go_simp⟩) hHeld ?_
            try simp only [Act.put, List.setIfInBounds_toArray, List.set_cons_zero, List.set_cons_succ]
            refine take_at (i := 7) (v := .pointer (some ⟨ba, 0, none⟩)) rfl rfl (by kernel_rfl) (by kernel_rfl) (by kernel_rfl) (fun _ _ _ h => h) (Or.inl ⟨by kernel_rfl, fun X _ => by go_simp⟩) hHeld ?_
            try simp only [Act.put, List.setIfInBounds_toArray, List.set_cons_zero, List.set_cons_succ]
            refine take_at (i := 8) (v := .agg #[.int .i64 am, .int .i64 al, .int .i64 as']) rfl rfl (by kernel_rfl) (by kernel_rfl) (by kernel_rfl) (fun _ _ _ h => h) (Or.inl ⟨by kernel_rfl, fun X hX => by obtain ⟨k0, k1, k2, k3⟩ := (hKV.out.duo.a.below hX).cells; simp only at k0 k1 k2 k3; go_simp⟩) hHeld ?_
            try simp only [Act.put, List.setIfInBounds_toArray, List.set_cons_zero, List.set_cons_succ]
            refine wpAnyH_ready (rs := [9]) (by kernel_rfl) (by simp) ?_
            refine AllReadyH.cons rfl (fun K hK => ?_) AllReadyH.nil
            rw [if_pos (by rfl)]
            go_wp2_with fail
            refine (mark_is am al as' _).mono ?_
            rintro e Y1 ⟨rfl, hb⟩
            have hHb := below_call hHeld hb
            clear hHeld hb
            go_wp2_with fail
            refine hK.out _ _ (hHb) (fun hHeld => ?_)
            clear hK K hHb
            try simp only [Act.put, List.setIfInBounds_toArray, List.set_cons_zero, List.set_cons_succ]
            refine take_at (i := 10) (v := .bool false) rfl rfl (by kernel_rfl) (by kernel_rfl) (by kernel_rfl) (fun _ _ _ h => h) (Or.inl ⟨by kernel_rfl, fun X _ => by have h0_ := hx1; first | (go_simp; done) | (go_simp; omega) | (go_simp; rw [IntKind.wrap_i64]; omega)⟩) hHeld ?_
            try simp only [Act.put, List.setIfInBounds_toArray, List.set_cons_zero, List.set_cons_succ]
            refine take_at (i := 11) (v := .bool false) rfl rfl (by kernel_rfl) (by kernel_rfl) (by kernel_rfl) (fun _ _ _ h => h) (Or.inl ⟨by kernel_rfl, fun X _ => by go_simp⟩) hHeld ?_
            try simp only [Act.put, List.setIfInBounds_toArray, List.set_cons_zero, List.set_cons_succ]
            refine take_at (i := 12) (v := .map (some mb)) rfl rfl (by kernel_rfl) (by kernel_rfl) (by kernel_rfl) (fun _ _ _ h => h) (Or.inl ⟨by kernel_rfl, fun X _ => by go_simp⟩) hHeld ?_
            try simp only [Act.put, List.setIfInBounds_toArray, List.set_cons_zero, List.set_cons_succ]
            refine take_at (i := 13) (v := .agg #[.int .i64 xs, .int .i64 xk]) rfl rfl (by kernel_rfl) (by kernel_rfl) (by kernel_rfl) (fun _ _ _ h => h) (Or.inl ⟨by kernel_rfl, fun X hX => by obtain ⟨c0, c1⟩ := pair_cells ((hX.block g2 hg2).trans hgV.out); go_simp⟩) hHeld ?_
            try simp only [Act.put, List.setIfInBounds_toArray, List.set_cons_zero, List.set_cons_succ]
            refine wpAnyH_ready (rs := [14]) (by kernel_rfl) (by simp) ?_
            refine AllReadyH.cons rfl (fun K hK => ?_) AllReadyH.nil
            rw [if_pos (by rfl)]
            refine wp_lookup_bool (kd := 93) rfl (.tmp 91) (.tmp 92) rfl mb _ (setP (prs (RR.take i))) rfl (ownsMap_keep hmV.out (hHeld.block mb (by omega))) (.agg #[.int .i64 xs, .int .i64 xk]) (kl xs xk) rfl (key81 xs xk hin.out) false (setP_no _ xs xk hx4 hpin.out hin.out) ?_
            refine hK.out _ _ hHeld (fun hHeld => ?_)
            clear hK K
            try simp only [Act.put, List.setIfInBounds_toArray, List.set_cons_zero, List.set_cons_succ]
            refine take_at (i := 15) (v := .bool false) rfl rfl (by kernel_rfl) (by kernel_rfl) (by kernel_rfl) (fun _ _ _ h => h) (Or.inl ⟨by kernel_rfl, fun X _ => by go_simp⟩) hHeld ?_
            try simp only [Act.put, List.setIfInBounds_toArray, List.set_cons_zero, List.set_cons_succ]
            refine take_at (i := 16) (v := .bool false) rfl rfl (by kernel_rfl) (by kernel_rfl) (by kernel_rfl) (fun _ _ _ h => h) (Or.inl ⟨by kernel_rfl, fun X _ => by go_simp⟩) hHeld ?_
            try simp only [Act.put, List.setIfInBounds_toArray, List.set_cons_zero, List.set_cons_succ]
            refine take_at (i := 17) (v := .int .i64 ((i : Nat) : Int)) rfl rfl (by kernel_rfl) (by kernel_rfl) (by kernel_rfl) (fun _ _ _ h => h) (Or.inl ⟨by kernel_rfl, fun X _ => by go_simp⟩) hHeld ?_
            try simp only [Act.put, List.setIfInBounds_toArray, List.set_cons_zero, List.set_cons_succ]
            refine take_at (i := 18) (v := .bool true) rfl rfl (by kernel_rfl) (by kernel_rfl) (by kernel_rfl) (fun _ _ _ h => h) (Or.inl ⟨by kernel_rfl, fun X _ => by have h0_ := hii.out; go_simp; (try omega)⟩) hHeld ?_
            try simp only [Act.put, List.setIfInBounds_toArray, List.set_cons_zero, List.set_cons_succ]
            refine take_at (i := 19) (v := .bool true) rfl rfl (by kernel_rfl) (by kernel_rfl) (by kernel_rfl) (fun _ _ _ h => h) (Or.inl ⟨by kernel_rfl, fun X _ => by go_simp⟩) hHeld ?_
            try simp only [Act.put, List.setIfInBounds_toArray, List.set_cons_zero, List.set_cons_succ]
            refine take_at (i := 20) (v := .slice (some ⟨rb, ro, none⟩) N xc) rfl rfl (by kernel_rfl) (by kernel_rfl) (by kernel_rfl) (fun _ _ _ h => h) (Or.inl ⟨by kernel_rfl, fun X _ => by go_simp⟩) hHeld ?_
            try simp only [Act.put, List.setIfInBounds_toArray, List.set_cons_zero, List.set_cons_succ]
            refine take_at (i := 21) (v := .int .i64 ((i : Nat) : Int)) rfl rfl (by kernel_rfl) (by kernel_rfl) (by kernel_rfl) (fun _ _ _ h => h) (Or.inl ⟨by kernel_rfl, fun X _ => by go_simp⟩) hHeld ?_
            try simp only [Act.put, List.setIfInBounds_toArray, List.set_cons_zero, List.set_cons_succ]
            refine take_at (i := 22) (v := .int .i64 ((i' : Nat) : Int)) rfl rfl (by kernel_rfl) (by kernel_rfl) (by kernel_rfl) (fun _ _ _ h => h) (Or.inl ⟨by kernel_rfl, fun X _ => by have h0_ := hii.out; go_simp; rw [IntKind.wrap_i64]; omega⟩) hHeld ?_
            try simp only [Act.put, List.setIfInBounds_toArray, List.set_cons_zero, List.set_cons_succ]
            refine take_at (i := 23) (v := .pointer (some ⟨rb, ro + i' * 5, none⟩)) rfl rfl (by kernel_rfl) (by kernel_rfl) (by kernel_rfl) (fun _ _ _ h => h) (Or.inl ⟨by kernel_rfl, fun X _ => by have h0_ := hin1; have h1_ := hcn; first | (go_simp; done) | (go_simp; omega) | (go_simp; rw [IntKind.wrap_i64]; omega)⟩) hHeld ?_
            try simp only [Act.put, List.setIfInBounds_toArray, List.set_cons_zero, List.set_cons_succ]
            refine take_at (i := 24) (v := .pointer (some ⟨rb, ro + i' * 5, none⟩)) rfl rfl (by kernel_rfl) (by kernel_rfl) (by kernel_rfl) (fun _ _ _ h => h) (Or.inl ⟨by kernel_rfl, fun X _ => by first | (go_simp; done) | (go_simp; omega) | (go_simp; rw [IntKind.wrap_i64]; omega)⟩) hHeld ?_
            try simp only [Act.put, List.setIfInBounds_toArray, List.set_cons_zero, List.set_cons_succ]
            refine take_at (i := 25) (v := .int .i64 (pAt RR i').s) rfl rfl (by kernel_rfl) (by kernel_rfl) (by kernel_rfl) (fun _ _ _ h => h) (Or.inl ⟨by kernel_rfl, fun X hX => by have c0 := (hX.cell (p := ⟨rb, ro + i' * 5, none⟩) (show rb < V.heap.size by omega)).trans hprW.out.1; go_simp⟩) hHeld ?_
            try simp only [Act.put, List.setIfInBounds_toArray, List.set_cons_zero, List.set_cons_succ]
            refine take_at (i := 26) (v := .pointer (some ⟨gx, 0, none⟩)) rfl rfl (by kernel_rfl) (by kernel_rfl) (by kernel_rfl) (fun _ _ _ h => h) (Or.inl ⟨by kernel_rfl, fun X _ => by go_simp⟩) hHeld ?_
            try simp only [Act.put, List.setIfInBounds_toArray, List.set_cons_zero, List.set_cons_succ]
            refine take_at (i := 27) (v := .int .i64 xs) rfl rfl (by kernel_rfl) (by kernel_rfl) (by kernel_rfl) (fun _ _ _ h => h) (Or.inl ⟨by kernel_rfl, fun X hX => by obtain ⟨k0, k1, k2, k3, k4⟩ := (hrV.out.keep (hX.block gx hgx)).c; simp only [Nat.zero_add] at k0 k1 k2 k3 k4; go_simp⟩) hHeld ?_
            try simp only [Act.put, List.setIfInBounds_toArray, List.set_cons_zero, List.set_cons_succ]
            refine take_at (i := 28) (v := .bool false) rfl rfl (by kernel_rfl) (by kernel_rfl) (by kernel_rfl) (fun _ _ _ h => h) (Or.inl ⟨by kernel_rfl, fun X _ => by have h0_ := hprW.out.2; first | (go_simp; done) | (go_simp; omega) | (go_simp; rw [IntKind.wrap_i64]; omega)⟩) hHeld ?_
            try simp only [Act.put, List.setIfInBounds_toArray, List.set_cons_zero, List.set_cons_succ]
            refine take_at (i := 29) (v := .bool false) rfl rfl (by kernel_rfl) (by kernel_rfl) (by kernel_rfl) (fun _ _ _ h => h) (Or.inl ⟨by kernel_rfl, fun X _ => by go_simp⟩) hHeld ?_
            try simp only [Act.put, List.setIfInBounds_toArray, List.set_cons_zero, List.set_cons_succ]
            refine take_at (i := 30) (v := .bool false) rfl rfl (by kernel_rfl) (by kernel_rfl) (by kernel_rfl) (fun _ _ _ h => h) (Or.inl ⟨by kernel_rfl, fun X _ => by go_simp⟩) hHeld ?_
            try simp only [Act.put, List.setIfInBounds_toArray, List.set_cons_zero, List.set_cons_succ]
            refine take_at (i := 31) (v := .bool false) rfl rfl (by kernel_rfl) (by kernel_rfl) (by kernel_rfl) (fun _ _ _ h => h) (Or.inl ⟨by kernel_rfl, fun X _ => by go_simp⟩) hHeld ?_
            try simp only [Act.put, List.setIfInBounds_toArray, List.set_cons_zero, List.set_cons_succ]
            refine take_at (i := 32) (v := .pointer (some ⟨gx, 3, none⟩)) rfl rfl (by kernel_rfl) (by kernel_rfl) (by kernel_rfl) (fun _ _ _ h => h) (Or.inl ⟨by kernel_rfl, fun X _ => by go_simp⟩) hHeld ?_
            try simp only [Act.put, List.setIfInBounds_toArray, List.set_cons_zero, List.set_cons_succ]
            refine take_at (i := 33) (v := .int .i64 xcn) rfl rfl (by kernel_rfl) (by kernel_rfl) (by kernel_rfl) (fun _ _ _ h => h) (Or.inl ⟨by kernel_rfl, fun X hX => by obtain ⟨k0, k1, k2, k3, k4⟩ := (hrV.out.keep (hX.block gx hgx)).c; simp only [Nat.zero_add] at k0 k1 k2 k3 k4; go_simp⟩) hHeld ?_
            try simp only [Act.put, List.setIfInBounds_toArray, List.set_cons_zero, List.set_cons_succ]
            refine take_at (i := 34) (v := .bool false) rfl rfl (by kernel_rfl) (by kernel_rfl) (by kernel_rfl) (fun _ _ _ h => h) (Or.inl ⟨by kernel_rfl, fun X _ => by have h0_ := hxc0.out; go_simp; (try omega)⟩) hHeld ?_
            try simp only [Act.put, List.setIfInBounds_toArray, List.set_cons_zero, List.set_cons_succ]
            refine take_at (i := 35) (v := .bool false) rfl rfl (by kernel_rfl) (by kernel_rfl) (by kernel_rfl) (fun _ _ _ h => h) (Or.inl ⟨by kernel_rfl, fun X _ => by go_simp⟩) hHeld ?_
            try simp only [Act.put, List.setIfInBounds_toArray, List.set_cons_zero, List.set_cons_succ]
            refine take_at (i := 36) (v := .bool false) rfl rfl (by kernel_rfl) (by kernel_rfl) (by kernel_rfl) (fun _ _ _ h => h) (Or.inl ⟨by kernel_rfl, fun X _ => by go_simp⟩) hHeld ?_
            try simp only [Act.put, List.setIfInBounds_toArray, List.set_cons_zero, List.set_cons_succ]
            refine take_at (i := 37) (v := .pointer (some ⟨gx, 4, none⟩)) rfl rfl (by kernel_rfl) (by kernel_rfl) (by kernel_rfl) (fun _ _ _ h => h) (Or.inl ⟨by kernel_rfl, fun X _ => by go_simp⟩) hHeld ?_
            try simp only [Act.put, List.setIfInBounds_toArray, List.set_cons_zero, List.set_cons_succ]
            refine take_at (i := 38) (v := .int .u64 (xl : Int)) rfl rfl (by kernel_rfl) (by kernel_rfl) (by kernel_rfl) (fun _ _ _ h => h) (Or.inl ⟨by kernel_rfl, fun X hX => by obtain ⟨k0, k1, k2, k3, k4⟩ := (hrV.out.keep (hX.block gx hgx)).c; simp only [Nat.zero_add] at k0 k1 k2 k3 k4; go_simp⟩) hHeld ?_
            try simp only [Act.put, List.setIfInBounds_toArray, List.set_cons_zero, List.set_cons_succ]
            refine take_at (i := 39) (v := .bool false) rfl rfl (by kernel_rfl) (by kernel_rfl) (by kernel_rfl) (fun _ _ _ h => h) (Or.inl ⟨by kernel_rfl, fun X _ => by have h0_ := hxl0.out; go_simp; (try omega)⟩) hHeld ?_
            try simp only [Act.put, List.setIfInBounds_toArray, List.set_cons_zero, List.set_cons_succ]
            refine take_at (i := 40) (v := .bool false) rfl rfl (by kernel_rfl) (by kernel_rfl) (by kernel_rfl) (fun _ _ _ h => h) (Or.inl ⟨by kernel_rfl, fun X _ => by go_simp⟩) hHeld ?_
            try simp only [Act.put, List.setIfInBounds_toArray, List.set_cons_zero, List.set_cons_succ]
            refine wpAnyH_done (by kernel_rfl) ?_ _
            go_wp2_with fail
            go_meet
            exact ⟨rfl, hHeld⟩
        case rest =>
          obtain ⟨rfl, hbW⟩ := hcut
          have hc0 : Hid (wc.heap[g2]? = some (.cells #[.int .i64 xs, .int .i64 xk] 81 (0, 0))) := (hbW.out.block g2 hg2).trans hgV.out
          have hm7 : Hid (wc.ownsMap Try.prog 81 (plainElem (H := Unit) Try.prog 4) mb i (setP (prs (RR.take i)))) := ownsMap_keep hmV.out (hbW.out.block mb (by omega))
          have hb7 : Hid (Below mb W5 wc) := hbV.out.trans (hbW.out.mono (by omega))
          have hz7 : mb < wc.heap.size := by have := hbW.out.size; omega
          have e0 : wc.cell? ⟨g2, 0, none⟩ = some (.int .i64 xs) := by have h := hc0.out; simp [World.cell?, h]
          have e1 : wc.cell? ⟨g2, 1, none⟩ = some (.int .i64 xk) := by have h := hc0.out; simp [World.cell?, h]
          clear hKV hEV hprV hrV hgV hmV hbV hbW hwV hx1 hx2 hx4
          go_wp2_with (at_mapUpdate; refine wpList_mapUpdate_own _ rfl _ _ _ 80 rfl 81 4 keyLaw81 Try.underlying80 _ mb i (setP (prs (RR.take i))) rfl hm7.out (by unfold maxLen; omega) _ _ (kl xs xk) rfl rfl (key81 xs xk hin.out) (.lit (.bool true)) [] (plainElem_bool Try.underlying4 true) ?_; intro w9 hm9 hg9)
          have hm10 : Hid (w9.ownsMap Try.prog 81 (plainElem (H := Unit) Try.prog 4) mb (i + 1) (setP (prs (RR.take (i + 1))))) := by
            have h := hm9
            rw [← setP_snoc, ← hx5] at h
            exact h
          have hb10 : Hid (Below mb W5 w9) := hb7.out.trans ((Below.refl _ _).grown hg9 (Nat.le_of_lt hz7) (fun k hk => by injection hk with hk; omega))
          have hz10 : mb < w9.heap.size := Nat.lt_of_lt_of_le hz7 hg9.size
          clear hm9 hg9 hm7 hb7 e0 e1 hc0
          go_wp2_with fail
          go_roundw
          case rel => exact ⟨i + 1, by omega, by go_num, hb10, hm10, hz10⟩
          case measure => simp [intOf]; omega
      · have hc9 := all_counts ⟨os, pn, ps, pa, pk, pf⟩ is r0
        have hl9 := (rows_len ⟨os, pn, ps, pa, pk, pf⟩ is).2
        rw [hA0.out] at hc9 hl9
        have z1 : r0.l = 0 := rfl
        have z2 : r0.s = 0 := rfl
        have hmo := hm.out
        obtain ⟨am, al, as', aL⟩ := A
        simp only at hc9 hl9
        have hca : 0 ≤ al := by omega
        have hca2 : al ≤ 25 := by omega
        have hcb : 0 ≤ as' := by omega
        have hcb2 : as' ≤ 25 := by omega
        have hcl : aL.length ≤ 200 := by omega
        clear hc9 hl9 z1 z2 hmo hmap
        have hKw : Hid (KQ W3 wr B ba qa oa1 ga bb qb ob2 gb qi ⟨os, pn, ps, pa, pk, pf⟩ ⟨os, pn, ps, pa, pk, pf⟩ ⟨am, al, as', aL⟩ ⟨am, al, as', aL⟩ (.slice xa N xc) (.slice ya N yc) RR RR (.slice ia m ic) is) := hK5.out.below (hbw.out.mono hmz)
        go_upto_region 18 with fail
        refine wp_region_held_drew (S := fun X => Hid (∃ oa' ob' : Nat, KQ W3 X B ba qa oa' ga bb qb ob' gb qi ⟨os, pn, ps, pa, pk, pf⟩ ⟨os, pn, ps, pa, pk, pf⟩ ⟨am, al, as', aL⟩ ⟨am, al, as', aL⟩ (.slice xa N xc) (.slice ya N yc) RR RR (.slice ia m ic) is)) (by kernel_rfl) ⟨oa1, ob2, hKw.out.below (Below.refl _ _).drew⟩ (fun hHeld => ?_)
        generalize wr.drew = V at hHeld ⊢
        refine take_at (i := 0) (v := .slice xa N xc) rfl rfl (by kernel_rfl) (by kernel_rfl) (by kernel_rfl) (fun _ _ _ h => h) (Or.inl ⟨by kernel_rfl, fun X _ => by go_simp⟩) hHeld ?_
        try simp only [Act.put, List.setIfInBounds_toArray, List.set_cons_zero, List.set_cons_succ]
        refine take_at (i := 1) (v := .slice ya N yc) rfl rfl (by kernel_rfl) (by kernel_rfl) (by kernel_rfl) (fun _ _ _ h => h) (Or.inl ⟨by kernel_rfl, fun X _ => by go_simp⟩) hHeld ?_
        try simp only [Act.put, List.setIfInBounds_toArray, List.set_cons_zero, List.set_cons_succ]
        refine wpAnyH_ready (rs := [2]) (by kernel_rfl) (by simp) ?_
        refine AllReadyH.cons rfl (fun K hK => ?_) AllReadyH.nil
        obtain ⟨oz, pz, hq⟩ := hHeld.out
        rw [if_pos (by rfl)]
        go_wp2_with fail
        refine (same_r (.slice xa N xc) (.slice ya N yc) RR _ (rdr_own hq.hu) (rdr_own hq.hv)).mono ?_
        rintro e Q1 ⟨rfl, hb⟩
        have hHn : Hid (∃ oa' ob' : Nat, KQ W3 Q1 B ba qa oa' ga bb qb ob' gb qi ⟨os, pn, ps, pa, pk, pf⟩ ⟨os, pn, ps, pa, pk, pf⟩ ⟨am, al, as', aL⟩ ⟨am, al, as', aL⟩ (.slice xa N xc) (.slice ya N yc) RR RR (.slice ia m ic) is) := ⟨_, _, hq.below hb⟩
        clear hHeld hq hb
        go_wp2_with fail
        refine hK.out _ _ hHn (fun hHeld => ?_)
        clear hK K hHn
        try simp only [Act.put, List.setIfInBounds_toArray, List.set_cons_zero, List.set_cons_succ]
        refine take_at (i := 3) (v := .bool true) rfl rfl (by kernel_rfl) (by kernel_rfl) (by kernel_rfl) (fun _ _ _ h => h) (Or.inl ⟨by kernel_rfl, fun X _ => by go_simp⟩) hHeld ?_
        try simp only [Act.put, List.setIfInBounds_toArray, List.set_cons_zero, List.set_cons_succ]
        refine take_at (i := 4) (v := .pointer (some ⟨ba, 0, none⟩)) rfl rfl (by kernel_rfl) (by kernel_rfl) (by kernel_rfl) (fun _ _ _ h => h) (Or.inl ⟨by kernel_rfl, fun X _ => by go_simp⟩) hHeld ?_
        try simp only [Act.put, List.setIfInBounds_toArray, List.set_cons_zero, List.set_cons_succ]
        refine take_at (i := 5) (v := .pointer (some ⟨ba, 0, none⟩)) rfl rfl (by kernel_rfl) (by kernel_rfl) (by kernel_rfl) (fun _ _ _ h => h) (Or.inl ⟨by kernel_rfl, fun X _ => by go_simp⟩) hHeld ?_
        try simp only [Act.put, List.setIfInBounds_toArray, List.set_cons_zero, List.set_cons_succ]
        refine take_at (i := 6) (v := .pointer (some ⟨ba, 0, none⟩)) rfl rfl (by kernel_rfl) (by kernel_rfl) (by kernel_rfl) (fun _ _ _ h => h) (Or.inl ⟨by kernel_rfl, fun X _ => by go_simp⟩) hHeld ?_
        try simp only [Act.put, List.setIfInBounds_toArray, List.set_cons_zero, List.set_cons_succ]
        refine take_at (i := 7) (v := .agg #[.int .i64 am, .int .i64 al, .int .i64 as']) rfl rfl (by kernel_rfl) (by kernel_rfl) (by kernel_rfl) (fun _ _ _ h => h) (Or.inl ⟨by kernel_rfl, fun X hX => by obtain ⟨oz, pz, hq⟩ := hX.out; obtain ⟨k0, k1, k2, k3⟩ := hq.duo.a.cells; simp only at k0 k1 k2 k3; go_simp⟩) hHeld ?_
        try simp only [Act.put, List.setIfInBounds_toArray, List.set_cons_zero, List.set_cons_succ]
        refine take_at (i := 9) (v := .pointer (some ⟨bb, 0, none⟩)) rfl rfl (by kernel_rfl) (by kernel_rfl) (by kernel_rfl) (fun _ _ _ h => h) (Or.inl ⟨by kernel_rfl, fun X _ => by go_simp⟩) hHeld ?_
        try simp only [Act.put, List.setIfInBounds_toArray, List.set_cons_zero, List.set_cons_succ]
        refine take_at (i := 10) (v := .pointer (some ⟨bb, 0, none⟩)) rfl rfl (by kernel_rfl) (by kernel_rfl) (by kernel_rfl) (fun _ _ _ h => h) (Or.inl ⟨by kernel_rfl, fun X _ => by go_simp⟩) hHeld ?_
        try simp only [Act.put, List.setIfInBounds_toArray, List.set_cons_zero, List.set_cons_succ]
        refine take_at (i := 11) (v := .pointer (some ⟨bb, 0, none⟩)) rfl rfl (by kernel_rfl) (by kernel_rfl) (by kernel_rfl) (fun _ _ _ h => h) (Or.inl ⟨by kernel_rfl, fun X _ => by go_simp⟩) hHeld ?_
        try simp only [Act.put, List.setIfInBounds_toArray, List.set_cons_zero, List.set_cons_succ]
        refine take_at (i := 12) (v := .agg #[.int .i64 am, .int .i64 al, .int .i64 as']) rfl rfl (by kernel_rfl) (by kernel_rfl) (by kernel_rfl) (fun _ _ _ h => h) (Or.inl ⟨by kernel_rfl, fun X hX => by obtain ⟨oz, pz, hq⟩ := hX.out; obtain ⟨k0, k1, k2, k3⟩ := hq.duo.b.cells; simp only at k0 k1 k2 k3; go_simp⟩) hHeld ?_
        try simp only [Act.put, List.setIfInBounds_toArray, List.set_cons_zero, List.set_cons_succ]
        refine wpAnyH_ready (rs := [8]) (by kernel_rfl) (by simp) ?_
        refine AllReadyH.cons rfl (fun K hK => ?_) AllReadyH.nil
        obtain ⟨oz, pz, hq⟩ := hHeld.out
        rw [if_pos (by rfl)]
        go_wp2_with fail
        refine (mark_is am al as' _).mono ?_
        rintro e Q2 ⟨rfl, hb⟩
        have hHn : Hid (∃ oa' ob' : Nat, KQ W3 Q2 B ba qa oa' ga bb qb ob' gb qi ⟨os, pn, ps, pa, pk, pf⟩ ⟨os, pn, ps, pa, pk, pf⟩ ⟨am, al, as', aL⟩ ⟨am, al, as', aL⟩ (.slice xa N xc) (.slice ya N yc) RR RR (.slice ia m ic) is) := ⟨_, _, hq.below hb⟩
        clear hHeld hq hb
        go_wp2_with fail
        refine hK.out _ _ hHn (fun hHeld => ?_)
        clear hK K hHn
        try simp only [Act.put, List.setIfInBounds_toArray, List.set_cons_zero, List.set_cons_succ]
        refine wpAnyH_ready (rs := [13]) (by kernel_rfl) (by simp) ?_
        refine AllReadyH.cons rfl (fun K hK => ?_) AllReadyH.nil
        obtain ⟨oz, pz, hq⟩ := hHeld.out
        rw [if_pos (by rfl)]
        go_wp2_with fail
        refine (mark_is am al as' _).mono ?_
        rintro e Q3 ⟨rfl, hb⟩
        have hHn : Hid (∃ oa' ob' : Nat, KQ W3 Q3 B ba qa oa' ga bb qb ob' gb qi ⟨os, pn, ps, pa, pk, pf⟩ ⟨os, pn, ps, pa, pk, pf⟩ ⟨am, al, as', aL⟩ ⟨am, al, as', aL⟩ (.slice xa N xc) (.slice ya N yc) RR RR (.slice ia m ic) is) := ⟨_, _, hq.below hb⟩
        clear hHeld hq hb
        go_wp2_with fail
        refine hK.out _ _ hHn (fun hHeld => ?_)
        clear hK K hHn
        try simp only [Act.put, List.setIfInBounds_toArray, List.set_cons_zero, List.set_cons_succ]
        refine take_at (i := 14) (v := .bool true) rfl rfl (by kernel_rfl) (by kernel_rfl) (by kernel_rfl) (fun _ _ _ h => h) (Or.inl ⟨by kernel_rfl, fun X _ => by go_simp⟩) hHeld ?_
        try simp only [Act.put, List.setIfInBounds_toArray, List.set_cons_zero, List.set_cons_succ]
        refine take_at (i := 15) (v := .bool true) rfl rfl (by kernel_rfl) (by kernel_rfl) (by kernel_rfl) (fun _ _ _ h => h) (Or.inl ⟨by kernel_rfl, fun X _ => by go_simp⟩) hHeld ?_
        try simp only [Act.put, List.setIfInBounds_toArray, List.set_cons_zero, List.set_cons_succ]
        refine take_at (i := 16) (v := .bool true) rfl rfl (by kernel_rfl) (by kernel_rfl) (by kernel_rfl) (fun _ _ _ h => h) (Or.inl ⟨by kernel_rfl, fun X _ => by go_simp⟩) hHeld ?_
        try simp only [Act.put, List.setIfInBounds_toArray, List.set_cons_zero, List.set_cons_succ]
        refine take_at (i := 17) (v := .pointer (some ⟨ba, 0, none⟩)) rfl rfl (by kernel_rfl) (by kernel_rfl) (by kernel_rfl) (fun _ _ _ h => h) (Or.inl ⟨by kernel_rfl, fun X _ => by go_simp⟩) hHeld ?_
        try simp only [Act.put, List.setIfInBounds_toArray, List.set_cons_zero, List.set_cons_succ]
        refine take_at (i := 18) (v := .pointer (some ⟨ba, 0, none⟩)) rfl rfl (by kernel_rfl) (by kernel_rfl) (by kernel_rfl) (fun _ _ _ h => h) (Or.inl ⟨by kernel_rfl, fun X _ => by go_simp⟩) hHeld ?_
        try simp only [Act.put, List.setIfInBounds_toArray, List.set_cons_zero, List.set_cons_succ]
        refine take_at (i := 19) (v := .pointer (some ⟨ba, 0, none⟩)) rfl rfl (by kernel_rfl) (by kernel_rfl) (by kernel_rfl) (fun _ _ _ h => h) (Or.inl ⟨by kernel_rfl, fun X _ => by go_simp⟩) hHeld ?_
        try simp only [Act.put, List.setIfInBounds_toArray, List.set_cons_zero, List.set_cons_succ]
        refine take_at (i := 20) (v := .agg #[.int .i64 am, .int .i64 al, .int .i64 as']) rfl rfl (by kernel_rfl) (by kernel_rfl) (by kernel_rfl) (fun _ _ _ h => h) (Or.inl ⟨by kernel_rfl, fun X hX => by obtain ⟨oz, pz, hq⟩ := hX.out; obtain ⟨k0, k1, k2, k3⟩ := hq.duo.a.cells; simp only at k0 k1 k2 k3; go_simp⟩) hHeld ?_
        try simp only [Act.put, List.setIfInBounds_toArray, List.set_cons_zero, List.set_cons_succ]
        refine take_at (i := 22) (v := .pointer (some ⟨bb, 0, none⟩)) rfl rfl (by kernel_rfl) (by kernel_rfl) (by kernel_rfl) (fun _ _ _ h => h) (Or.inl ⟨by kernel_rfl, fun X _ => by go_simp⟩) hHeld ?_
        try simp only [Act.put, List.setIfInBounds_toArray, List.set_cons_zero, List.set_cons_succ]
        refine take_at (i := 23) (v := .pointer (some ⟨bb, 0, none⟩)) rfl rfl (by kernel_rfl) (by kernel_rfl) (by kernel_rfl) (fun _ _ _ h => h) (Or.inl ⟨by kernel_rfl, fun X _ => by go_simp⟩) hHeld ?_
        try simp only [Act.put, List.setIfInBounds_toArray, List.set_cons_zero, List.set_cons_succ]
        refine take_at (i := 24) (v := .pointer (some ⟨bb, 0, none⟩)) rfl rfl (by kernel_rfl) (by kernel_rfl) (by kernel_rfl) (fun _ _ _ h => h) (Or.inl ⟨by kernel_rfl, fun X _ => by go_simp⟩) hHeld ?_
        try simp only [Act.put, List.setIfInBounds_toArray, List.set_cons_zero, List.set_cons_succ]
        refine take_at (i := 25) (v := .agg #[.int .i64 am, .int .i64 al, .int .i64 as']) rfl rfl (by kernel_rfl) (by kernel_rfl) (by kernel_rfl) (fun _ _ _ h => h) (Or.inl ⟨by kernel_rfl, fun X hX => by obtain ⟨oz, pz, hq⟩ := hX.out; obtain ⟨k0, k1, k2, k3⟩ := hq.duo.b.cells; simp only at k0 k1 k2 k3; go_simp⟩) hHeld ?_
        try simp only [Act.put, List.setIfInBounds_toArray, List.set_cons_zero, List.set_cons_succ]
        refine wpAnyH_ready (rs := [21]) (by kernel_rfl) (by simp) ?_
        refine AllReadyH.cons rfl (fun K hK => ?_) AllReadyH.nil
        obtain ⟨oz, pz, hq⟩ := hHeld.out
        rw [if_pos (by rfl)]
        go_wp2_with fail
        refine (late_is am al as' _).mono ?_
        rintro e Q4 ⟨rfl, hb⟩
        have hHn : Hid (∃ oa' ob' : Nat, KQ W3 Q4 B ba qa oa' ga bb qb ob' gb qi ⟨os, pn, ps, pa, pk, pf⟩ ⟨os, pn, ps, pa, pk, pf⟩ ⟨am, al, as', aL⟩ ⟨am, al, as', aL⟩ (.slice xa N xc) (.slice ya N yc) RR RR (.slice ia m ic) is) := ⟨_, _, hq.below hb⟩
        clear hHeld hq hb
        go_wp2_with fail
        refine hK.out _ _ hHn (fun hHeld => ?_)
        clear hK K hHn
        try simp only [Act.put, List.setIfInBounds_toArray, List.set_cons_zero, List.set_cons_succ]
        refine wpAnyH_ready (rs := [26]) (by kernel_rfl) (by simp) ?_
        refine AllReadyH.cons rfl (fun K hK => ?_) AllReadyH.nil
        obtain ⟨oz, pz, hq⟩ := hHeld.out
        rw [if_pos (by rfl)]
        go_wp2_with fail
        refine (late_is am al as' _).mono ?_
        rintro e Q5 ⟨rfl, hb⟩
        have hHn : Hid (∃ oa' ob' : Nat, KQ W3 Q5 B ba qa oa' ga bb qb ob' gb qi ⟨os, pn, ps, pa, pk, pf⟩ ⟨os, pn, ps, pa, pk, pf⟩ ⟨am, al, as', aL⟩ ⟨am, al, as', aL⟩ (.slice xa N xc) (.slice ya N yc) RR RR (.slice ia m ic) is) := ⟨_, _, hq.below hb⟩
        clear hHeld hq hb
        go_wp2_with fail
        refine hK.out _ _ hHn (fun hHeld => ?_)
        clear hK K hHn
        try simp only [Act.put, List.setIfInBounds_toArray, List.set_cons_zero, List.set_cons_succ]
        refine take_at (i := 27) (v := .bool true) rfl rfl (by kernel_rfl) (by kernel_rfl) (by kernel_rfl) (fun _ _ _ h => h) (Or.inl ⟨by kernel_rfl, fun X _ => by go_simp⟩) hHeld ?_
        try simp only [Act.put, List.setIfInBounds_toArray, List.set_cons_zero, List.set_cons_succ]
        refine take_at (i := 28) (v := .bool true) rfl rfl (by kernel_rfl) (by kernel_rfl) (by kernel_rfl) (fun _ _ _ h => h) (Or.inl ⟨by kernel_rfl, fun X _ => by go_simp⟩) hHeld ?_
        try simp only [Act.put, List.setIfInBounds_toArray, List.set_cons_zero, List.set_cons_succ]
        refine take_at (i := 29) (v := .bool true) rfl rfl (by kernel_rfl) (by kernel_rfl) (by kernel_rfl) (fun _ _ _ h => h) (Or.inl ⟨by kernel_rfl, fun X _ => by go_simp⟩) hHeld ?_
        try simp only [Act.put, List.setIfInBounds_toArray, List.set_cons_zero, List.set_cons_succ]
        refine take_at (i := 30) (v := .pointer (some ⟨ba, 0, none⟩)) rfl rfl (by kernel_rfl) (by kernel_rfl) (by kernel_rfl) (fun _ _ _ h => h) (Or.inl ⟨by kernel_rfl, fun X _ => by go_simp⟩) hHeld ?_
        try simp only [Act.put, List.setIfInBounds_toArray, List.set_cons_zero, List.set_cons_succ]
        refine take_at (i := 31) (v := .pointer (some ⟨ba, 0, none⟩)) rfl rfl (by kernel_rfl) (by kernel_rfl) (by kernel_rfl) (fun _ _ _ h => h) (Or.inl ⟨by kernel_rfl, fun X _ => by go_simp⟩) hHeld ?_
        try simp only [Act.put, List.setIfInBounds_toArray, List.set_cons_zero, List.set_cons_succ]
        refine take_at (i := 32) (v := .pointer (some ⟨ba, 3, none⟩)) rfl rfl (by kernel_rfl) (by kernel_rfl) (by kernel_rfl) (fun _ _ _ h => h) (Or.inl ⟨by kernel_rfl, fun X _ => by go_simp⟩) hHeld ?_
        try simp only [Act.put, List.setIfInBounds_toArray, List.set_cons_zero, List.set_cons_succ]
        refine take_at (i := 33) (v := .pointer (some ⟨qa, 0, none⟩)) rfl rfl (by kernel_rfl) (by kernel_rfl) (by kernel_rfl) (fun _ _ _ h => h) (Or.inl ⟨by kernel_rfl, fun X hX => by obtain ⟨oz, pz, hq⟩ := hX.out; obtain ⟨k0, k1, k2, k3⟩ := hq.duo.a.cells; simp only at k0 k1 k2 k3; go_simp⟩) hHeld ?_
        try simp only [Act.put, List.setIfInBounds_toArray, List.set_cons_zero, List.set_cons_succ]
        refine take_at (i := 35) (v := .pointer (some ⟨bb, 0, none⟩)) rfl rfl (by kernel_rfl) (by kernel_rfl) (by kernel_rfl) (fun _ _ _ h => h) (Or.inl ⟨by kernel_rfl, fun X _ => by go_simp⟩) hHeld ?_
        try simp only [Act.put, List.setIfInBounds_toArray, List.set_cons_zero, List.set_cons_succ]
        refine take_at (i := 36) (v := .pointer (some ⟨bb, 0, none⟩)) rfl rfl (by kernel_rfl) (by kernel_rfl) (by kernel_rfl) (fun _ _ _ h => h) (Or.inl ⟨by kernel_rfl, fun X _ => by go_simp⟩) hHeld ?_
        try simp only [Act.put, List.setIfInBounds_toArray, List.set_cons_zero, List.set_cons_succ]
        refine take_at (i := 37) (v := .pointer (some ⟨bb, 3, none⟩)) rfl rfl (by kernel_rfl) (by kernel_rfl) (by kernel_rfl) (fun _ _ _ h => h) (Or.inl ⟨by kernel_rfl, fun X _ => by go_simp⟩) hHeld ?_
        try simp only [Act.put, List.setIfInBounds_toArray, List.set_cons_zero, List.set_cons_succ]
        refine take_at (i := 38) (v := .pointer (some ⟨qb, 0, none⟩)) rfl rfl (by kernel_rfl) (by kernel_rfl) (by kernel_rfl) (fun _ _ _ h => h) (Or.inl ⟨by kernel_rfl, fun X hX => by obtain ⟨oz, pz, hq⟩ := hX.out; obtain ⟨k0, k1, k2, k3⟩ := hq.duo.b.cells; simp only at k0 k1 k2 k3; go_simp⟩) hHeld ?_
        try simp only [Act.put, List.setIfInBounds_toArray, List.set_cons_zero, List.set_cons_succ]
        refine wpAnyH_ready (rs := [34]) (by kernel_rfl) (by simp) ?_
        refine AllReadyH.cons rfl (fun K hK => ?_) AllReadyH.nil
        obtain ⟨oz, pz, hq⟩ := hHeld.out
        rw [if_pos (by rfl)]
        go_wp2_with fail
        refine (open_is qa oz pn ps pa aL _ hq.duo.a.pan (by omega)).mono ?_
        rintro e Q6 ⟨u34, rfl, hop, hb⟩
        have hHn : Hid (∃ oa' ob' : Nat, KQ W3 Q6 B ba qa oa' ga bb qb ob' gb qi ⟨os, pn, ps, pa, pk, pf⟩ ⟨os, pn, ps, pa, pk, pf⟩ ⟨am, al, as', aL⟩ ⟨am, al, as', aL⟩ (.slice xa N xc) (.slice ya N yc) RR RR (.slice ia m ic) is) := ⟨_, _, hq.below hb⟩
        have p34 : Hid (RdR Q6 u34 aL) := rdr_own hop
        clear hop
        clear hHeld hq hb
        go_wp2_with fail
        refine hK.out _ _ hHn (fun hHeld => ?_)
        clear hK K hHn
        try simp only [Act.put, List.setIfInBounds_toArray, List.set_cons_zero, List.set_cons_succ]
        refine wpAnyH_ready (rs := [39]) (by kernel_rfl) (by simp) ?_
        refine AllReadyH.cons rfl (fun K hK => ?_) AllReadyH.nil
        obtain ⟨oz, pz, hq⟩ := hHeld.out
        rw [if_pos (by rfl)]
        go_wp2_with fail
        refine (open_is qb pz pn ps pa aL _ hq.duo.b.pan (by omega)).mono ?_
        rintro e Q7 ⟨u39, rfl, hop, hb⟩
        have hHn : Hid (∃ oa' ob' : Nat, KQ W3 Q7 B ba qa oa' ga bb qb ob' gb qi ⟨os, pn, ps, pa, pk, pf⟩ ⟨os, pn, ps, pa, pk, pf⟩ ⟨am, al, as', aL⟩ ⟨am, al, as', aL⟩ (.slice xa N xc) (.slice ya N yc) RR RR (.slice ia m ic) is) := ⟨_, _, hq.below hb⟩
        have p39 : Hid (RdR Q7 u39 aL) := rdr_own hop
        replace p34 : Hid (RdR Q7 u34 aL) := p34.out.below hb
        clear hop
        clear hHeld hq hb
        go_wp2_with fail
        refine hK.out _ _ hHn (fun hHeld => ?_)
        clear hK K hHn
        try simp only [Act.put, List.setIfInBounds_toArray, List.set_cons_zero, List.set_cons_succ]
        refine wpAnyH_ready (rs := [40]) (by kernel_rfl) (by simp) ?_
        refine AllReadyH.cons rfl (fun K hK => ?_) AllReadyH.nil
        obtain ⟨oz, pz, hq⟩ := hHeld.out
        rw [if_pos (by rfl)]
        go_wp2_with fail
        refine (same_r u34 u39 aL _ p34.out p39.out).mono ?_
        rintro e Q8 ⟨rfl, hb⟩
        have hHn : Hid (∃ oa' ob' : Nat, KQ W3 Q8 B ba qa oa' ga bb qb ob' gb qi ⟨os, pn, ps, pa, pk, pf⟩ ⟨os, pn, ps, pa, pk, pf⟩ ⟨am, al, as', aL⟩ ⟨am, al, as', aL⟩ (.slice xa N xc) (.slice ya N yc) RR RR (.slice ia m ic) is) := ⟨_, _, hq.below hb⟩
        clear p34 p39
        clear hHeld hq hb
        go_wp2_with fail
        refine hK.out _ _ hHn (fun hHeld => ?_)
        clear hK K hHn
        try simp only [Act.put, List.setIfInBounds_toArray, List.set_cons_zero, List.set_cons_succ]
        refine take_at (i := 41) (v := .bool true) rfl rfl (by kernel_rfl) (by kernel_rfl) (by kernel_rfl) (fun _ _ _ h => h) (Or.inl ⟨by kernel_rfl, fun X _ => by go_simp⟩) hHeld ?_
        try simp only [Act.put, List.setIfInBounds_toArray, List.set_cons_zero, List.set_cons_succ]
        refine take_at (i := 42) (v := .bool true) rfl rfl (by kernel_rfl) (by kernel_rfl) (by kernel_rfl) (fun _ _ _ h => h) (Or.inl ⟨by kernel_rfl, fun X _ => by go_simp⟩) hHeld ?_
        try simp only [Act.put, List.setIfInBounds_toArray, List.set_cons_zero, List.set_cons_succ]
        refine take_at (i := 43) (v := .pointer (some ⟨ba, 0, none⟩)) rfl rfl (by kernel_rfl) (by kernel_rfl) (by kernel_rfl) (fun _ _ _ h => h) (Or.inl ⟨by kernel_rfl, fun X _ => by go_simp⟩) hHeld ?_
        try simp only [Act.put, List.setIfInBounds_toArray, List.set_cons_zero, List.set_cons_succ]
        refine wpAnyH_ready (rs := [44]) (by kernel_rfl) (by simp) ?_
        refine AllReadyH.cons rfl (fun K hK => ?_) AllReadyH.nil
        obtain ⟨oz, pz, hq⟩ := hHeld.out
        rw [if_pos (by rfl)]
        go_wp2_with fail
        refine (rtake_is ba qa oz ga ⟨os, pn, ps, pa, pk, pf⟩ ⟨am, al, as', aL⟩ (.slice none 0 0) qi [] _ hq.duo.a (rdi_nil _ _) hq.hq.1 hq.hq.2.1 hq.hq.2.2.1 (by simp only [List.length_nil]; omega) ⟨hca, by simp only [List.length_nil]; omega⟩ ⟨hcb, by simp only [List.length_nil]; omega⟩).mono ?_
        rintro e Q9 ⟨u44, o44, rfl, hu44, hR44, ho44, hc44⟩
        have hu45 : Q9.ownsRow _ 45 5 u44 0 (rcs []) := hu44
        obtain ⟨ta, tc, rfl⟩ := own_len hu45
        have hR45 : Rnr Q9 ba qa o44 ga ⟨os, pn, ps, pa, pk, pf⟩ ⟨am, al, as', aL⟩ := hR44
        have hHn : Hid (∃ oa' ob' : Nat, KQ W3 Q9 B ba qa oa' ga bb qb ob' gb qi ⟨os, pn, ps, pa, pk, pf⟩ ⟨os, pn, ps, pa, pk, pf⟩ ⟨am, al, as', aL⟩ ⟨am, al, as', aL⟩ (.slice xa N xc) (.slice ya N yc) RR RR (.slice ia m ic) is) := ⟨_, _, hq.takeA (Nat.lt_of_lt_of_le hqi hq.bel.size) hR45 hc44 ho44⟩
        clear hu44 hu45 hR44 hR45 ho44 hc44
        clear hHeld hq
        go_wp2_with fail
        refine hK.out _ _ hHn (fun hHeld => ?_)
        clear hK K hHn
        try simp only [Act.put, List.setIfInBounds_toArray, List.set_cons_zero, List.set_cons_succ]
        refine take_at (i := 45) (v := .int .i64 0) rfl rfl (by kernel_rfl) (by kernel_rfl) (by kernel_rfl) (fun _ _ _ h => h) (Or.inl ⟨by kernel_rfl, fun X _ => by go_simp⟩) hHeld ?_
        try simp only [Act.put, List.setIfInBounds_toArray, List.set_cons_zero, List.set_cons_succ]
        refine take_at (i := 46) (v := .bool true) rfl rfl (by kernel_rfl) (by kernel_rfl) (by kernel_rfl) (fun _ _ _ h => h) (Or.inl ⟨by kernel_rfl, fun X _ => by go_simp⟩) hHeld ?_
        try simp only [Act.put, List.setIfInBounds_toArray, List.set_cons_zero, List.set_cons_succ]
        refine take_at (i := 47) (v := .bool true) rfl rfl (by kernel_rfl) (by kernel_rfl) (by kernel_rfl) (fun _ _ _ h => h) (Or.inl ⟨by kernel_rfl, fun X _ => by go_simp⟩) hHeld ?_
        try simp only [Act.put, List.setIfInBounds_toArray, List.set_cons_zero, List.set_cons_succ]
        refine take_at (i := 48) (v := .bool true) rfl rfl (by kernel_rfl) (by kernel_rfl) (by kernel_rfl) (fun _ _ _ h => h) (Or.inl ⟨by kernel_rfl, fun X _ => by go_simp⟩) hHeld ?_
        try simp only [Act.put, List.setIfInBounds_toArray, List.set_cons_zero, List.set_cons_succ]
        refine wpAnyH_ready (rs := [49]) (by kernel_rfl) (by simp) ?_
        refine AllReadyH.cons rfl (fun K hK => ?_) AllReadyH.nil
        obtain ⟨oz, pz, hq⟩ := hHeld.out
        rw [if_pos (by rfl)]
        go_wp2_with fail
        refine (runs_is _).mono ?_
        rintro e Q10 ⟨rfl, hb⟩
        have hHn : Hid (∃ oa' ob' : Nat, KQ W3 Q10 B ba qa oa' ga bb qb ob' gb qi ⟨os, pn, ps, pa, pk, pf⟩ ⟨os, pn, ps, pa, pk, pf⟩ ⟨am, al, as', aL⟩ ⟨am, al, as', aL⟩ (.slice xa N xc) (.slice ya N yc) RR RR (.slice ia m ic) is) := ⟨_, _, hq.below hb⟩
        clear hHeld hq hb
        go_wp2_with fail
        refine hK.out _ _ hHn (fun hHeld => ?_)
        clear hK K hHn
        try simp only [Act.put, List.setIfInBounds_toArray, List.set_cons_zero, List.set_cons_succ]
        refine take_at (i := 50) (v := .bool true) rfl rfl (by kernel_rfl) (by kernel_rfl) (by kernel_rfl) (fun _ _ _ h => h) (Or.inl ⟨by kernel_rfl, fun X _ => by go_simp⟩) hHeld ?_
        try simp only [Act.put, List.setIfInBounds_toArray, List.set_cons_zero, List.set_cons_succ]
        refine take_at (i := 51) (v := .bool true) rfl rfl (by kernel_rfl) (by kernel_rfl) (by kernel_rfl) (fun _ _ _ h => h) (Or.inl ⟨by kernel_rfl, fun X _ => by go_simp⟩) hHeld ?_
        try simp only [Act.put, List.setIfInBounds_toArray, List.set_cons_zero, List.set_cons_succ]
        refine wpAnyH_done (by kernel_rfl) ?_ _
        go_wp2_with fail
        go_ret
        exact ⟨rfl, by obtain ⟨_, _, hq⟩ := hHeld.out; have h := hg0.out; rw [h]; exact hBw3.out.trans (hq.bel.mono hg3)⟩
end Go.Proofs.Ytombgbdplafooaa
