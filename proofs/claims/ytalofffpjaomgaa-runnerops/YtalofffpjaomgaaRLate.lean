/- RunnerLate, walked. -/
import Derived.Test.YtalofffpjaomgaaRRuns
import Derived.Test.YtalofffpjaomgaaRIns
import Derived.Test.YtalofffpjaomgaaMathL
import Derived.Deep.QuietTactic
import Derived.BigQuiet
namespace Go.Proofs.Ytalofffpjaomgaa
open Go.RowKit M
open O (RdO Kpk Pik Small Ints)
open O.MO (Oq Pq rightP)
set_option linter.unusedVariables false
set_option linter.unusedSimpArgs false
attribute [local go_sem ↓] Go.wp_at_zero Go.wp_at_succ

/-- window.Panes. -/
theorem wpanes_is (n s : Int) (w : World) (hr : rightB n s = true) : Calls Try.prog 26 #[.int .i64 n, .int .i64 s] w fun e w' => e = .returned (.int .i64 (most n s)) ∧ w' = w := by
  have hb := right_of hr
  have hr' : Hid (rightB n s = true) := hr
  obtain ⟨k, hk⟩ : ∃ k, Hid (most n s = k) := ⟨_, rfl⟩
  rw [hk.out]
  clear hr
  go_enter Try.func26, Try.ntmps26
  go_wp2_with fail
  refine (O.wright_is n s true _ hr'.out).mono ?_
  rintro e w' ⟨rfl, he⟩; obtain rfl := he.symm; clear he
  go_wp2_with fail
  refine (O.wmost_is n s k _ (by omega) (by omega) (by omega) hk.out).mono ?_
  rintro e w' ⟨rfl, he⟩; obtain rfl := he.symm; clear he
  go_wp2_with fail
  go_ret
  exact ⟨rfl, rfl⟩
/-- A pipe of small numbers: what New wants of it. -/
theorem small_new {p : Pq} (h : Small p) : rightP p = true ∧ p.os.length ≤ 1000 ∧ (∀ o ∈ p.os, o.n ≤ 9223372036854775807) ∧ rightB p.n p.s = true := by
  have hr := O.small_right h
  refine ⟨hr, by have := h.1; omega, fun o ho => by have := h.2.1 o ho; omega, ?_⟩
  have h1 := hr
  unfold rightP at h1
  simp only [Bool.and_eq_true] at h1
  exact h1.2.1
theorem own_len {w : World} {B : Nat} {e : TypeId} {size n : Nat} {v : Value} {xs : List Value} (h : w.ownsRow B e size v n xs) : ∃ a c, v = .slice a n c := by
  obtain ⟨_, h | ⟨g, cap, cur, rfl, _⟩⟩ := h
  · rw [h.2]; exact ⟨_, _, h.1⟩
  · exact ⟨_, _, rfl⟩

set_option maxHeartbeats 4000000 in
set_option maxRecDepth 100000 in
theorem runnerLate_walk (k : KeepIn) (la : Option Addr) (ll lc : Nat) (t x : Int) (w : World) (hk : IsKeep w k) (hI : Ins4 w la ll lc) (ht : (Lit.int .i64 t).wf = true) (hx : (Lit.int .i64 x).wf = true) :
    Calls Try.prog 6 #[kin k, .slice la ll lc, .int .i64 t, .int .i64 x] w fun e w' => e = .returned (.bool true) ∧ Below w.heap.size w w' := by
  obtain ⟨ao, lo, co, an, ln, cn, kn, ks, kg, kk, kf⟩ := k
  unfold kin
  obtain ⟨hk1, hk2⟩ := hk
  simp only at hk1 hk2
  have hI' : Hid (Ins4 w la ll lc) := hI
  clear hI
  go_enter Try.func6, Try.ntmps6
  go_upto_region 1 with fail
  refine world_gen (fun W => Hid (Kpk W w.heap.size (.slice ao lo co) (.slice an ln cn) kn ks kg kk kf) ∧ Hid (Ints W ao lo co) ∧ Hid (Ints W an ln cn) ∧ Hid (Ins4 W la ll lc) ∧ Hid (Below w.heap.size w W)) ⟨O.kpk_new _ _ _ _ _ _ _ _, hk1.call (below_alloc _ _), hk2.call (below_alloc _ _), hI'.out.call (below_alloc _ _), below_alloc _ _⟩ ?_
  clear hk1 hk2 hI'
  rintro W ⟨hK, hk1, hk2, hI, hB⟩
  obtain ⟨g0, hg0⟩ : ∃ x, Hid (w.heap.size = x) := ⟨_, rfl⟩
  rw [hg0.out] at hK hB ⊢
  have c0 := hK.out.c0
  have c1 := hK.out.c1
  have c2 := hK.out.c2
  have c3 := hK.out.c3
  have c4 := hK.out.c4
  have c5 := hK.out.c5
  have c6 := hK.out.c6
  go_wp2_with fail
  refine (O.keep_any ao lo co an ln cn kn ks kg kk kf _ hk1.out hk2.out).mono ?_
  rintro e W1 ⟨p, u, hS, rfl, ho, hu, b1⟩
  obtain ⟨ua, uc, rfl⟩ := own_len ho
  have hS' : Hid (Small p) := hS
  have hO : Hid (OpsIn W1 (.slice ua p.os.length uc) p.os) := ⟨O.own_base ho (Nat.zero_le _), (small_new hS).2.2.1⟩
  replace hI : Hid (Ins4 W1 la ll lc) := hI.out.call b1
  have hWz : g0 ≤ W.heap.size := by have := hB.out.size; have := hg0.out; omega
  replace hB : Hid (Below g0 w W1) := hB.out.trans (b1.mono hWz)
  clear hK hk1 hk2 c0 c1 c2 c3 c4 c5 c6 ho hu b1 hS
  go_upto_region 2 with fail
  refine world_gen (fun X => Hid (Pik X W1.heap.size (.slice ua p.os.length uc) p.n p.s p.a p.k p.f) ∧ Hid (OpsIn X (.slice ua p.os.length uc) p.os) ∧ Hid (Ins4 X la ll lc) ∧ Hid (Below g0 w X) ∧ W1.heap.size < X.heap.size) ⟨O.pik_new _ _ _ _ _ _ _, hO.out.below (below_alloc _ _), hI.out.call (below_alloc _ _), hB.out.alloc (by have := hB.out.size; have := hg0.out; omega) _, by simp⟩ ?_
  have hgw : g0 ≤ W1.heap.size := by have := hB.out.size; have := hg0.out; omega
  clear hO hI hB
  generalize W1.heap.size = gp at hgw ⊢
  rintro W0 ⟨hP, hO, hI, hB, hgp⟩
  have c0 := hP.out.c0
  have c1 := hP.out.c1
  have c2 := hP.out.c2
  have c3 := hP.out.c3
  have c4 := hP.out.c4
  have c5 := hP.out.c5
  go_wp2_with fail
  refine (new_is (.slice ua p.os.length uc) p _ hO.out (small_new hS'.out).1 (small_new hS'.out).2.1).mono ?_
  rintro e W2 ⟨b, q, o, g, rfl, hR, zb, zq, zo, zg, b2⟩
  have hA : Hid (Rnr W2 b q o g p ⟨0, 0, 0, []⟩) := hR
  have hF : Hid (Below W0.heap.size W0 W2) := b2
  clear hR b2 c0 c1 c2 c3 c4 c5
  obtain ⟨d0, d1, d2, d3⟩ := hA.out.cells
  go_upto_region 5 with fail
  clear d0 d1 d2 d3
  go_wp2_with fail
  refine (inputs_is la ll lc _ (hI.out.call hF.out)).mono ?_
  rintro e W3 ⟨iu, is, rfl, hl25, hG, ho, b3⟩
  obtain ⟨hA1, hA2, hA3, hA4⟩ := hA.out.lt
  obtain ⟨qi, hrd, hq1, hq3, hq4⟩ := rdi_own ho (fun i hi => (hG i hi).lt) b3.size
  have hrd' : Hid (RdI W3 iu qi is) := hrd
  have hG' : Hid (∀ i ∈ is, Good i) := hG
  replace hA : Hid (Rnr W3 b q o g p ⟨0, 0, 0, []⟩) := hA.out.below b3
  replace hF : Hid (Below W0.heap.size W0 W3) := below_call hF.out b3
  have hz23 : W2.heap.size ≤ W3.heap.size := b3.size
  have hz02 : W0.heap.size ≤ W2.heap.size := by omega
  clear hrd hG ho b3 hq3 hq4 hI
  go_wp2_with fail
  refine (rtake_is b q o g p ⟨0, 0, 0, []⟩ iu qi is _ hA.out hrd'.out (by omega) (by omega) (by omega) (by simp; omega) (by simp; omega) (by simp; omega)).mono ?_
  rintro e W4 ⟨ru, o2, rfl, hrow, hA4', ho2, hc4⟩
  obtain ⟨⟨m, l, s, L⟩, hr1⟩ : ∃ x, Hid (stR p ⟨0, 0, 0, []⟩ is = x) := ⟨_, rfl⟩
  obtain ⟨R, hR1⟩ : ∃ x, Hid (rowsR p ⟨0, 0, 0, []⟩ is = x) := ⟨_, rfl⟩
  have hcn := cn_all (small_new hS'.out).2.2.2 is ⟨0, 0, 0, []⟩ 0 (cn_nil 0) (by omega) (by omega)
  have hmk := all_mark p is ⟨0, 0, 0, []⟩ (fun i hi hm => by have := hG'.out i hi; unfold Good at this; omega) (by decide) (by decide)
  have hct := all_counts p is ⟨0, 0, 0, []⟩
  have hto := all_total p is ⟨0, 0, 0, []⟩
  rw [hr1.out] at hA4' hcn hmk hct hto
  rw [hR1.out] at hrow hcn hto
  simp only at hcn hmk hct hto
  have hcn' : Hid _ := hcn
  have hct' : Hid (0 ≤ l ∧ l ≤ 25 ∧ 0 ≤ s ∧ s ≤ 25) := by
    have h : 0 ≤ l ∧ l ≤ 25 ∧ 0 ≤ s ∧ s ≤ 25 := by omega
    exact h
  have hto' : Hid (L.length + R.length ≤ 200) := by
    have h : L.length + R.length ≤ 200 := by simp at hto; omega
    exact h
  obtain ⟨hm0, hm1⟩ := hmk
  replace hA : Hid (Rnr W4 b q o2 g p ⟨m, l, s, L⟩) := hA4'
  have hz4 : W3.heap.size ≤ W4.heap.size := hc4.size
  replace hF : Hid (Below W0.heap.size W0 W4) := hF.out.trans (hc4.below (by omega) (by omega) (by omega) (by omega))
  have hro : Hid (W4.ownsRow W3.heap.size 45 5 ru R.length (rcs R)) := hrow
  have hbW3 : b < W3.heap.size := by omega
  have hzo2 : W0.heap.size ≤ o2 := by omega
  have hqW3 : q < W3.heap.size := by omega
  clear hcn hct hto hA4' hrow hc4 hrd' hG' hr1 hR1 ho2 hA1 hA2 hA3 hA4
  obtain ⟨hA1, hA2, hA3, hA4⟩ := hA.out.lt
  obtain ⟨ra, rc, rfl⟩ := own_len hro.out
  go_upto_region 6 with fail
  refine wp_region_held_drew (S := fun X => Below W4.heap.size W4 X) (by kernel_rfl) (Below.refl _ _).drew (fun hHeld => ?_)
  generalize W4.drew = V at hHeld ⊢

  refine take_at (i := 0) (v := .pointer (some ⟨b, 0, none⟩)) rfl rfl (by kernel_rfl) (by kernel_rfl) (by kernel_rfl) (fun _ _ _ h => h) (Or.inl ⟨by rfl, fun X _ => by go_simp⟩) hHeld ?_
  try simp only [Act.put, List.setIfInBounds_toArray, List.set_cons_zero, List.set_cons_succ]
  refine take_at (i := 1) (v := .pointer (some ⟨b, 0, none⟩)) rfl rfl (by kernel_rfl) (by kernel_rfl) (by kernel_rfl) (fun _ _ _ h => h) (Or.inl ⟨by rfl, fun X _ => by go_simp⟩) hHeld ?_
  try simp only [Act.put, List.setIfInBounds_toArray, List.set_cons_zero, List.set_cons_succ]
  refine take_at (i := 2) (v := .pointer (some ⟨b, 3, none⟩)) rfl rfl (by kernel_rfl) (by kernel_rfl) (by kernel_rfl) (fun _ _ _ h => h) (Or.inl ⟨by rfl, fun X _ => by go_simp⟩) hHeld ?_
  try simp only [Act.put, List.setIfInBounds_toArray, List.set_cons_zero, List.set_cons_succ]
  refine take_at (i := 3) (v := .pointer (some ⟨q, 0, none⟩)) rfl rfl (by kernel_rfl) (by kernel_rfl) (by kernel_rfl) (fun _ _ _ h => h) (Or.inl ⟨by rfl, fun X hX => by obtain ⟨k0, k1, k2, k3⟩ := (hA.out.below hX).cells; simp only at k0 k1 k2 k3; go_simp⟩) hHeld ?_
  try simp only [Act.put, List.setIfInBounds_toArray, List.set_cons_zero, List.set_cons_succ]
  refine take_at (i := 5) (v := .pointer (some ⟨b, 0, none⟩)) rfl rfl (by kernel_rfl) (by kernel_rfl) (by kernel_rfl) (fun _ _ _ h => h) (Or.inl ⟨by rfl, fun X _ => by go_simp⟩) hHeld ?_
  try simp only [Act.put, List.setIfInBounds_toArray, List.set_cons_zero, List.set_cons_succ]
  refine take_at (i := 6) (v := .pointer (some ⟨b, 0, none⟩)) rfl rfl (by kernel_rfl) (by kernel_rfl) (by kernel_rfl) (fun _ _ _ h => h) (Or.inl ⟨by rfl, fun X _ => by go_simp⟩) hHeld ?_
  try simp only [Act.put, List.setIfInBounds_toArray, List.set_cons_zero, List.set_cons_succ]
  refine take_at (i := 7) (v := .pointer (some ⟨b, 0, none⟩)) rfl rfl (by kernel_rfl) (by kernel_rfl) (by kernel_rfl) (fun _ _ _ h => h) (Or.inl ⟨by rfl, fun X _ => by go_simp⟩) hHeld ?_
  try simp only [Act.put, List.setIfInBounds_toArray, List.set_cons_zero, List.set_cons_succ]
  refine take_at (i := 8) (v := .agg #[.int .i64 m, .int .i64 l, .int .i64 s]) rfl rfl (by kernel_rfl) (by kernel_rfl) (by kernel_rfl) (fun _ _ _ h => h) (Or.inl ⟨by rfl, fun X hX => by obtain ⟨k0, k1, k2, k3⟩ := (hA.out.below hX).cells; simp only at k0 k1 k2 k3; go_simp⟩) hHeld ?_
  try simp only [Act.put, List.setIfInBounds_toArray, List.set_cons_zero, List.set_cons_succ]
  refine take_at (i := 10) (v := .pointer (some ⟨b, 0, none⟩)) rfl rfl (by kernel_rfl) (by kernel_rfl) (by kernel_rfl) (fun _ _ _ h => h) (Or.inl ⟨by rfl, fun X _ => by go_simp⟩) hHeld ?_
  try simp only [Act.put, List.setIfInBounds_toArray, List.set_cons_zero, List.set_cons_succ]
  refine take_at (i := 11) (v := .pointer (some ⟨b, 0, none⟩)) rfl rfl (by kernel_rfl) (by kernel_rfl) (by kernel_rfl) (fun _ _ _ h => h) (Or.inl ⟨by rfl, fun X _ => by go_simp⟩) hHeld ?_
  try simp only [Act.put, List.setIfInBounds_toArray, List.set_cons_zero, List.set_cons_succ]
  refine take_at (i := 12) (v := .pointer (some ⟨b, 0, none⟩)) rfl rfl (by kernel_rfl) (by kernel_rfl) (by kernel_rfl) (fun _ _ _ h => h) (Or.inl ⟨by rfl, fun X _ => by go_simp⟩) hHeld ?_
  try simp only [Act.put, List.setIfInBounds_toArray, List.set_cons_zero, List.set_cons_succ]
  refine take_at (i := 13) (v := .agg #[.int .i64 m, .int .i64 l, .int .i64 s]) rfl rfl (by kernel_rfl) (by kernel_rfl) (by kernel_rfl) (fun _ _ _ h => h) (Or.inl ⟨by rfl, fun X hX => by obtain ⟨k0, k1, k2, k3⟩ := (hA.out.below hX).cells; simp only at k0 k1 k2 k3; go_simp⟩) hHeld ?_
  try simp only [Act.put, List.setIfInBounds_toArray, List.set_cons_zero, List.set_cons_succ]
  refine take_at (i := 15) (v := .pointer (some ⟨b, 0, none⟩)) rfl rfl (by kernel_rfl) (by kernel_rfl) (by kernel_rfl) (fun _ _ _ h => h) (Or.inl ⟨by rfl, fun X _ => by go_simp⟩) hHeld ?_
  try simp only [Act.put, List.setIfInBounds_toArray, List.set_cons_zero, List.set_cons_succ]
  refine take_at (i := 16) (v := .pointer (some ⟨b, 0, none⟩)) rfl rfl (by kernel_rfl) (by kernel_rfl) (by kernel_rfl) (fun _ _ _ h => h) (Or.inl ⟨by rfl, fun X _ => by go_simp⟩) hHeld ?_
  try simp only [Act.put, List.setIfInBounds_toArray, List.set_cons_zero, List.set_cons_succ]
  refine take_at (i := 17) (v := .pointer (some ⟨b, 0, none⟩)) rfl rfl (by kernel_rfl) (by kernel_rfl) (by kernel_rfl) (fun _ _ _ h => h) (Or.inl ⟨by rfl, fun X _ => by go_simp⟩) hHeld ?_
  try simp only [Act.put, List.setIfInBounds_toArray, List.set_cons_zero, List.set_cons_succ]
  refine take_at (i := 18) (v := .agg #[.int .i64 m, .int .i64 l, .int .i64 s]) rfl rfl (by kernel_rfl) (by kernel_rfl) (by kernel_rfl) (fun _ _ _ h => h) (Or.inl ⟨by rfl, fun X hX => by obtain ⟨k0, k1, k2, k3⟩ := (hA.out.below hX).cells; simp only at k0 k1 k2 k3; go_simp⟩) hHeld ?_
  try simp only [Act.put, List.setIfInBounds_toArray, List.set_cons_zero, List.set_cons_succ]
  refine wpAnyH_ready (rs := [4]) (by kernel_rfl) (by simp) ?_
  refine AllReadyH.cons rfl (fun K hK => ?_) AllReadyH.nil
  rw [if_pos (by rfl)]
  go_wp2_with fail
  refine (open_is q o2 p.n p.s p.a L _ (hA.out.below hHeld).pan (by have := hto'.out; omega)).mono ?_
  rintro e V2 ⟨ou, rfl, hop, hb⟩
  have hb2 : Hid (Below W4.heap.size W4 V2) := below_call hHeld hb
  have hVz : W4.heap.size ≤ V.heap.size := hHeld.size
  have hop' : Hid (V2.ownsRow W4.heap.size 45 5 ou L.length (rcs L)) := O.own_base hop hVz
  clear hHeld hb hop
  go_wp2_with fail
  refine hK.out _ _ (hb2.out) (fun hHeld => ?_)
  clear hK K
  try simp only [Act.put, List.setIfInBounds_toArray, List.set_cons_zero, List.set_cons_succ]
  refine wpAnyH_ready (rs := [9]) (by kernel_rfl) (by simp) ?_
  refine AllReadyH.cons rfl (fun K hK => ?_) AllReadyH.nil
  rw [if_pos (by rfl)]
  go_wp2_with fail
  refine (mark_is m l s _).mono ?_
  rintro e V3 ⟨rfl, hb⟩
  replace hb2 : Hid (Below W4.heap.size W4 V3) := below_call hb2.out hb
  replace hop' : Hid (V3.ownsRow W4.heap.size 45 5 ou L.length (rcs L)) := own_below hop'.out hb
  clear hHeld hb
  go_wp2_with fail
  refine hK.out _ _ (hb2.out) (fun hHeld => ?_)
  clear hK K
  try simp only [Act.put, List.setIfInBounds_toArray, List.set_cons_zero, List.set_cons_succ]
  refine wpAnyH_ready (rs := [14]) (by kernel_rfl) (by simp) ?_
  refine AllReadyH.cons rfl (fun K hK => ?_) AllReadyH.nil
  rw [if_pos (by rfl)]
  go_wp2_with fail
  refine (late_is m l s _).mono ?_
  rintro e V4 ⟨rfl, hb⟩
  replace hb2 : Hid (Below W4.heap.size W4 V4) := below_call hb2.out hb
  replace hop' : Hid (V4.ownsRow W4.heap.size 45 5 ou L.length (rcs L)) := own_below hop'.out hb
  clear hHeld hb
  go_wp2_with fail
  refine hK.out _ _ (hb2.out) (fun hHeld => ?_)
  clear hK K
  try simp only [Act.put, List.setIfInBounds_toArray, List.set_cons_zero, List.set_cons_succ]
  refine wpAnyH_ready (rs := [19]) (by kernel_rfl) (by simp) ?_
  refine AllReadyH.cons rfl (fun K hK => ?_) AllReadyH.nil
  rw [if_pos (by rfl)]
  go_wp2_with fail
  refine (seen_is m l s _).mono ?_
  rintro e V5 ⟨rfl, hb⟩
  replace hb2 : Hid (Below W4.heap.size W4 V5) := below_call hb2.out hb
  replace hop' : Hid (V5.ownsRow W4.heap.size 45 5 ou L.length (rcs L)) := own_below hop'.out hb
  clear hHeld hb
  go_wp2_with fail
  refine hK.out _ _ (hb2.out) (fun hHeld => ?_)
  clear hK K
  try simp only [Act.put, List.setIfInBounds_toArray, List.set_cons_zero, List.set_cons_succ]
  obtain ⟨oa, oc, rfl⟩ := own_len hop'.out
  refine take_at (i := 20) (v := .slice oa L.length oc) rfl rfl (by kernel_rfl) (by kernel_rfl) (by kernel_rfl) (fun _ _ _ h => h) (Or.inl ⟨by rfl, fun X _ => by go_simp⟩) hHeld ?_
  try simp only [Act.put, List.setIfInBounds_toArray, List.set_cons_zero, List.set_cons_succ]
  refine take_at (i := 21) (v := .int .i64 m) rfl rfl (by kernel_rfl) (by kernel_rfl) (by kernel_rfl) (fun _ _ _ h => h) (Or.inl ⟨by rfl, fun X _ => by go_simp⟩) hHeld ?_
  try simp only [Act.put, List.setIfInBounds_toArray, List.set_cons_zero, List.set_cons_succ]
  refine take_at (i := 22) (v := .int .i64 l) rfl rfl (by kernel_rfl) (by kernel_rfl) (by kernel_rfl) (fun _ _ _ h => h) (Or.inl ⟨by rfl, fun X _ => by go_simp⟩) hHeld ?_
  try simp only [Act.put, List.setIfInBounds_toArray, List.set_cons_zero, List.set_cons_succ]
  refine take_at (i := 23) (v := .int .i64 s) rfl rfl (by kernel_rfl) (by kernel_rfl) (by kernel_rfl) (fun _ _ _ h => h) (Or.inl ⟨by rfl, fun X _ => by go_simp⟩) hHeld ?_
  try simp only [Act.put, List.setIfInBounds_toArray, List.set_cons_zero, List.set_cons_succ]
  refine wpAnyH_done (by kernel_rfl) ?_ _
  clear hHeld
  have hV5 : W4.heap.size ≤ V5.heap.size := hb2.out.size
  replace hA : Hid (Rnr V5 b q o2 g p ⟨m, l, s, L⟩) := hA.out.below hb2.out
  replace hF : Hid (Below W0.heap.size W0 V5) := below_call hF.out hb2.out
  replace hro : Hid (V5.ownsRow W3.heap.size 45 5 (.slice ra R.length rc) R.length (rcs R)) := own_below hro.out hb2.out
  clear hb2
  go_upto_if 58 with fail
  go_cut [16] (fun u wx => Hid (wx.ownsRow W3.heap.size 45 5 (.slice ra R.length rc) R.length (rcs R)) ∧ Hid (wx.ownsRow W4.heap.size 45 5 (.slice oa L.length oc) L.length (rcs L)) ∧ Hid (Below W0.heap.size W0 wx) ∧ W3.heap.size ≤ wx.heap.size)
  case first =>
    by_cases hm : 0 < m
    case neg =>
      go_wp2_with fail
      go_meet
      exact ⟨hro, hop', hF, by omega⟩
    go_wp2_with fail
    refine (O.within_any t 0 (m - 1) _ (by decide) (by omega) (by omega)).mono ?_
    rintro e V6 ⟨⟨tt, htt1, htt2, rfl⟩, he⟩; obtain rfl := he.symm; clear he
    go_wp2_with fail
    refine (at_in tt x _).mono ?_
    rintro e V6 ⟨rfl, b6⟩
    go_wp2_with fail
    refine (mark_in tt _).mono ?_
    rintro e V7 ⟨rfl, b7⟩
    go_wp2_with fail
    refine (mark_in m _).mono ?_
    rintro e V8 ⟨rfl, b8⟩
    have hb : Below V5.heap.size V5 V8 := below_call (below_call b6 b7) b8
    have hV8 : V5.heap.size ≤ V8.heap.size := hb.size
    replace hA : Hid (Rnr V8 b q o2 g p ⟨m, l, s, L⟩) := hA.out.below hb
    replace hF : Hid (Below W0.heap.size W0 V8) := below_call hF.out hb
    replace hro : Hid (V8.ownsRow W3.heap.size 45 5 (.slice ra R.length rc) R.length (rcs R)) := own_below hro.out hb
    replace hop' : Hid (V8.ownsRow W4.heap.size 45 5 (.slice oa L.length oc) L.length (rcs L)) := own_below hop'.out hb
    clear hb b6 b7 b8
    go_wp2_with fail
    have hI3 : Hid (RdI (V8.alloc (.cells (ins [⟨false, ⟨tt, 0, x, 1⟩⟩, ⟨true, ⟨tt, 0, 0, 0⟩⟩, ⟨true, ⟨m, 0, 0, 0⟩⟩]).toArray 40)) (.slice (some ⟨V8.heap.size, 0, none⟩) 3 3) V8.heap.size [⟨false, ⟨tt, 0, x, 1⟩⟩, ⟨true, ⟨tt, 0, 0, 0⟩⟩, ⟨true, ⟨m, 0, 0, 0⟩⟩]) := rdi_lit V8 [⟨false, ⟨tt, 0, x, 1⟩⟩, ⟨true, ⟨tt, 0, 0, 0⟩⟩, ⟨true, ⟨m, 0, 0, 0⟩⟩] (by simp) (by simp)
    obtain ⟨l1, l2, l3⟩ : Hid (L.length ≤ 200) ∧ Hid (l ≤ 25 ∧ 0 ≤ l) ∧ Hid (s ≤ 25 ∧ 0 ≤ s) := by
      have h1 := hto'.out
      have h2 := hct'.out
      exact ⟨(by omega : L.length ≤ 200), (by omega : l ≤ 25 ∧ 0 ≤ l), (by omega : s ≤ 25 ∧ 0 ≤ s)⟩
    refine (rtake_is b q o2 g p ⟨m, l, s, L⟩ _ V8.heap.size _ _ (hA.out.below (below_alloc _ _)) hI3.out (by omega) (by omega) (by omega) (by have := l1.out; simp; omega) (by have := l2.out; simp; omega) (by have := l3.out; simp; omega)).mono ?_
    rintro e V9 ⟨tu, o3, rfl, htu, hA9, ho3, hc9⟩
    have hlt3 := late_three p ⟨m, l, s, L⟩ tt x htt1 (by simp only; omega) hm1
    simp only at hlt3
    rw [hlt3.1] at htu
    rw [hlt3.2] at hA9
    obtain ⟨ta, tc, rfl⟩ := own_len htu
    have hap1 := own_rows_apart (hro.out.alloc (.cells (ins [⟨false, ⟨tt, 0, x, 1⟩⟩, ⟨true, ⟨tt, 0, 0, 0⟩⟩, ⟨true, ⟨m, 0, 0, 0⟩⟩]).toArray 40)) (hA.out.below (below_alloc _ _)) (by omega) (by omega)
    have hap2 := own_rows_apart (hop'.out.alloc (.cells (ins [⟨false, ⟨tt, 0, x, 1⟩⟩, ⟨true, ⟨tt, 0, 0, 0⟩⟩, ⟨true, ⟨m, 0, 0, 0⟩⟩]).toArray 40)) (hA.out.below (below_alloc _ _)) (by omega) (by omega)
    replace hro : Hid (V9.ownsRow W3.heap.size 45 5 (.slice ra R.length rc) R.length (rcs R)) := own_ch3 (hro.out.alloc _) hc9 hap1
    replace hop' : Hid (V9.ownsRow W4.heap.size 45 5 (.slice oa L.length oc) L.length (rcs L)) := own_ch3 (hop'.out.alloc _) hc9 hap2
    replace hF : Hid (Below W0.heap.size W0 V9) := (below_call hF.out (below_alloc _ _)).trans (hc9.below (by omega) (by omega) (by omega) (by simp; omega))
    have hV9 : V8.heap.size < V9.heap.size := by have := hc9.size; simp at this; omega
    replace hA : Hid (Rnr V9 b q o3 g p ⟨m, l + 1, s + 1, L⟩) := hA9
    clear htu hA9 ho3 hc9 hlt3 hap1 hap2 hI3
    obtain ⟨c0, c1, c2, c3⟩ := hA.out.cells
    simp only at c0 c1 c2 c3
    have l2a := l2.out
    have l3a := l3.out
    go_wp2_with fail
    refine (late_is m (l + 1) (s + 1) _).mono ?_
    rintro e V10 ⟨rfl, b9⟩
    replace hA : Hid (Rnr V10 b q o3 g p ⟨m, l + 1, s + 1, L⟩) := hA.out.below b9
    have hb9 : Hid (Below V9.heap.size V9 V10) := b9
    clear b9 c0 c1 c2 c3
    obtain ⟨c0, c1, c2, c3⟩ := hA.out.cells
    simp only at c0 c1 c2 c3
    go_wp2_with fail
    refine (seen_is m (l + 1) (s + 1) _).mono ?_
    rintro e V11 ⟨rfl, b9⟩
    replace hA : Hid (Rnr V11 b q o3 g p ⟨m, l + 1, s + 1, L⟩) := hA.out.below b9
    replace hb9 : Hid (Below V9.heap.size V9 V11) := below_call hb9.out b9
    clear b9 c0 c1 c2 c3
    obtain ⟨c0, c1, c2, c3⟩ := hA.out.cells
    simp only at c0 c1 c2 c3
    go_wp2_with fail
    refine (mark_is m (l + 1) (s + 1) _).mono ?_
    rintro e V12 ⟨rfl, b9⟩
    replace hA : Hid (Rnr V12 b q o3 g p ⟨m, l + 1, s + 1, L⟩) := hA.out.below b9
    replace hb9 : Hid (Below V9.heap.size V9 V12) := below_call hb9.out b9
    clear b9 c0 c1 c2 c3
    obtain ⟨c0, c1, c2, c3⟩ := hA.out.cells
    simp only at c0 c1 c2 c3
    go_wp2_with fail
    refine (open_is q o3 p.n p.s p.a L _ hA.out.pan (by have := l1.out; omega)).mono ?_
    rintro e V13 ⟨ou2, rfl, hou2, b9⟩
    have hb13 : Hid (Below V9.heap.size V9 V13) := below_call hb9.out b9
    have hr1 : Hid (RdR V13 ou2 L) := rdr_own hou2
    have hr2 : Hid (RdR V13 (.slice oa L.length oc) L) := rdr_own (own_below hop'.out hb13.out)
    clear b9 hb9 hou2 c0 c1 c2 c3
    go_wp2_with fail
    refine (same_r ou2 (.slice oa L.length oc) L _ hr1.out hr2.out).mono ?_
    rintro e V14 ⟨rfl, b9⟩
    have hb14 : Hid (Below V9.heap.size V9 V14) := below_call hb13.out b9
    clear b9 hr1 hr2 hb13
    go_wp2_with fail
    go_meet
    exact ⟨own_below hro.out hb14.out, own_below hop'.out hb14.out, below_call hF.out hb14.out, by have := hb14.out.size; omega⟩
  case rest =>
    obtain ⟨hro2, hop2, hF2, hW3X⟩ := hcut
    obtain ⟨X, hXe⟩ : ∃ X, X = wc := ⟨_, rfl⟩
    subst hXe
    clear hA hF hro hop'
    obtain ⟨i0, hi, hz0, hz1, hz2⟩ := info_parts Try.info45
    go_wp2_with (at_builtin; refine wpList_append_srcN _ (by rfl) _ _ 34 rfl 5 W3.heap.size 45 i0 rzero 40 Try.underlying34 hi hz0 hz1 hz2 rfl (by decide) (.slice ra R.length rc) R.length (rcs R) rfl hro2.out (.slice oa L.length oc) L.length (rcs L) rfl (srcN_own hop2.out) (rcs_one _) ?c1 ?c2 ?c3 ?_)
    case c1 => have := hto'.out; unfold maxLen; omega
    case c2 => have := hto'.out; omega
    case c3 => exact hW3X
    intro v' W5 o5 b5
    obtain ⟨va, vc, rfl⟩ := own_len o5
    have hF5 : Hid (Below W0.heap.size W0 W5) := hF2.out.trans (b5.mono (by omega))
    have hrd : Hid (RdR W5 (.slice va (R.length + L.length) vc) (R ++ L)) := by
      have h : W5.ownsRow W3.heap.size 45 5 (.slice va (R.length + L.length) vc) (R ++ L).length (rcs (R ++ L)) := by rw [List.length_append, rcs_append]; exact o5
      exact rdr_own h
    obtain ⟨hCL, hCR, d, hd1, hd2, hd3, hd4⟩ := hcn'.out
    have hCn : Hid (Cn (R ++ L) 200) := by
      intro x hx
      rcases List.mem_append.1 hx with hx | hx
      · have := hCR x hx; omega
      · have := hCL x hx; omega
    have hsum : Hid (sumC (R ++ L) = d) := by
      have h : sumC (R ++ L) = d := by rw [sumC_append]; rw [hd1]; simp [sumC]
      exact h
    have hM200 : R.length + L.length ≤ 200 := by have := hto'.out; omega
    have hMl : Hid ((R ++ L).length = R.length + L.length) := List.length_append
    obtain ⟨A, hAe⟩ : ∃ A, Hid (R ++ L = A) := ⟨_, rfl⟩
    rw [hAe.out] at hrd hCn hsum hMl
    have hd' : Hid (0 ≤ d ∧ d ≤ most p.n p.s * (s - l) ∧ (p.os = [] → s - l ≤ d)) := by
      have h : 0 ≤ d ∧ d ≤ most p.n p.s * (s - l) ∧ (p.os = [] → s - l ≤ d) := by
        rw [show s - l - (0 - 0) = s - l by omega] at hd3 hd4
        exact ⟨hd2, hd3, hd4⟩
      exact h
    clear hcn' hCL hCR hd1 hd2 hd3 hd4 o5 b5 hop2 hro2 hF2 hto' hAe
    obtain ⟨M, hM⟩ : ∃ M, R.length + L.length = M := ⟨_, rfl⟩
    rw [hM] at hrd hMl hM200 ⊢
    clear hM
    obtain ⟨_, ea, ecap, hev, _, _, hel⟩ := hrd.out
    rw [hMl.out] at hev hel
    injection hev with hev1 hev2 hev3
    subst hev1 hev3
    have hel' : Hid (M ≠ 0 → ∃ b off, va = some ⟨b, off, none⟩ ∧ b < W5.heap.size ∧ ∀ j, j < M → RwAt W5 b (off + j * 5) (pAt A j)) := hel
    clear hel hrd
    go_wp2_with fail
    go_loopw [17, 118] (fun v i wr => ∃ j : Nat, j ≤ M ∧ i = .int .i64 j ∧ v = .int .i64 (sumC (A.take j)) ∧ Hid (Below W5.heap.size W5 wr)) (fun _ i _ => M - (intOf i).toNat)
    case atStart => exact ⟨0, Nat.zero_le _, rfl, by simp [sumC], Below.refl _ _⟩
    case round =>
      obtain ⟨j, hj, rfl, rfl, hbw⟩ := hrel
      have hSb := sumC_bound hCn.out (by decide) j
      by_cases hlt : j < M
      · obtain ⟨eb, off, rfl, hebl, hcell⟩ := hel'.out (by omega)
        obtain ⟨x0, x1, x2, x3, x4⟩ := (hcell j hlt).keep (hbw.out.block eb hebl)
        have hcj := hCn.out (pAt A j) (pAt_mem A j (by rw [hMl.out]; exact hlt))
        have hnx : Hid (sumC (A.take (j + 1)) = sumC (A.take j) + (pAt A j).c) := by
          have h : sumC (A.take (j + 1)) = sumC (A.take j) + (pAt A j).c := by rw [take_pn A j (by rw [hMl.out]; exact hlt), sumC_append]; simp [sumC]
          exact h
        obtain ⟨S, hS⟩ : ∃ S, Hid (sumC (A.take j) = S) := ⟨_, rfl⟩
        obtain ⟨⟨y1, y2, y3, y4, y5⟩, hy⟩ : ∃ y, Hid (pAt A j = y) := ⟨_, rfl⟩
        rw [hS.out] at hSb hnx ⊢
        rw [hy.out] at x0 x1 x2 x3 x4 hcj hnx
        simp only at x0 x1 x2 x3 x4 hcj hnx
        have hS0 : 0 ≤ S ∧ S ≤ 40000 := by omega
        clear hcell hSb
        have hz := hbw.out.size
        go_wp2_with fail
        go_roundw
        case rel => exact ⟨j + 1, by omega, by go_num, by rw [hnx.out], hbw.out.alloc hz _⟩
        case measure => simp [intOf]; omega
      · obtain rfl : j = M := by omega
        have htk : A.take j = A := List.take_of_length_le (Nat.le_of_eq hMl.out)
        rw [htk, hsum.out] at hSb ⊢
        clear hSb htk
        have hk := hP.out.call (below_call hF5.out hbw.out)
        have k0 := hk.c0
        have k1 := hk.c1
        have k2 := hk.c2
        have hrb : Hid (rightB p.n p.s = true) := (small_new hS'.out).2.2.2
        obtain ⟨mo, hmo⟩ : ∃ mo, Hid (most p.n p.s = mo) := ⟨_, rfl⟩
        have hmob : 1 ≤ mo ∧ mo ≤ 8 := by
          have h1 := (right_iff _ _).1 hrb.out
          have h2 := most_pos h1.1 h1.2.1
          rw [hmo.out] at h1 h2
          omega
        obtain ⟨hd0, hd1, hd2⟩ := hd'.out
        rw [hmo.out] at hd1
        obtain ⟨hc1, hc2, hc3, hc4⟩ := hct'.out
        obtain ⟨D, hD⟩ : ∃ D, s - l = D := ⟨_, rfl⟩
        obtain ⟨Pr, hPr⟩ : ∃ Pr, D * mo = Pr := ⟨_, rfl⟩
        rw [hD] at hd1 hd2
        have hPb : Hid (d ≤ Pr ∧ -200 ≤ Pr ∧ Pr ≤ 200) := by
          have h : d ≤ Pr ∧ -200 ≤ Pr ∧ Pr ≤ 200 := by
            rcases (show mo = 1 ∨ mo = 2 ∨ mo = 3 ∨ mo = 4 ∨ mo = 5 ∨ mo = 6 ∨ mo = 7 ∨ mo = 8 by omega) with rfl | rfl | rfl | rfl | rfl | rfl | rfl | rfl <;> omega
          exact h
        obtain ⟨hp1, hp2, hp3⟩ := hPb.out
        have hdP : d ≤ 200 := by omega
        have hdec : Hid (p.os = [] → D ≤ d) := hd2
        clear hd2 hd1 hk hPb hd'
        obtain ⟨lo', hlo⟩ : ∃ x, Hid (p.os.length = x) := ⟨_, rfl⟩
        rw [hlo.out] at k0
        have hD1 : -25 ≤ D ∧ D ≤ 25 := by omega
        have hfin : Hid (Below g0 w wr) := hB.out.trans ((below_call hF5.out hbw.out).mono (by omega))
        have hgr : g0 ≤ wr.heap.size := by have := hbw.out.size; have := hF5.out.size; omega
        go_wp2_with fail
        refine (wpanes_is p.n p.s _ hrb.out).mono ?_
        rintro e V9 ⟨rfl, he⟩; obtain rfl := he.symm; clear he
        rw [hmo.out]
        by_cases h0 : lo' = 0
        · subst h0
          have hDd : D ≤ d := hdec.out (List.eq_nil_of_length_eq_zero hlo.out)
          go_wp2_with fail
          refine (runs_is _).mono ?_
          rintro e V9 ⟨rfl, b9⟩
          go_wp2_with fail
          go_ret
          refine ⟨rfl, ?_⟩
          rw [hg0.out]
          exact hfin.out.trans (b9.mono hgr)
        · have hpos : 0 < lo' := by omega
          have hlo4 : lo' ≤ 4 := by have := hS'.out.1; have := hlo.out; omega
          go_wp2_with fail
          refine (runs_is _).mono ?_
          rintro e V9 ⟨rfl, b9⟩
          go_wp2_with fail
          go_ret
          refine ⟨rfl, ?_⟩
          rw [hg0.out]
          exact hfin.out.trans (b9.mono hgr)
end Go.Proofs.Ytalofffpjaomgaa
