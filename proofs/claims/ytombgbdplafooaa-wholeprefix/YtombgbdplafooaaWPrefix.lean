/- WholePrefix, walked. -/
import Derived.Test.YtombgbdplafooaaWHelp
import Derived.Deep.QuietTactic
import Derived.BigQuiet
namespace Go.Proofs.Ytombgbdplafooaa
open Go.RowKit M
open O (RdO Kpk Pik Small Ints)
open O.MO (Oq Pq rightP)
set_option linter.unusedVariables false
set_option linter.unusedSimpArgs false
attribute [local go_sem ↓] Go.wp_at_zero Go.wp_at_succ

set_option maxHeartbeats 8000000 in
set_option maxRecDepth 100000 in
theorem wholePrefix_walk (k : KeepIn) (la : Option Addr) (ll lc : Nat) (cut other : Int) (w : World) (hk : IsKeep w k) (hI : Ins4 w la ll lc) (hcut : (Lit.int .i64 cut).wf = true) (hoth : (Lit.int .i64 other).wf = true) :
    Calls Try.prog 8 #[kin k, .slice la ll lc, .int .i64 cut, .int .i64 other] w fun e w' => e = .returned (.bool true) ∧ Below w.heap.size w w' := by
  obtain ⟨ao, lo, co, an, ln, cn, kn, ks, kg, kk, kf⟩ := k
  unfold kin
  obtain ⟨hk1, hk2⟩ := hk
  simp only at hk1 hk2
  have hI' : Hid (Ins4 w la ll lc) := hI
  clear hI
  go_enter Try.func8, Try.ntmps8
  go_upto_region 1 with fail
  refine world_gen (fun W => Hid (Kpk W w.heap.size (.slice ao lo co) (.slice an ln cn) kn ks kg kk kf) ∧ Hid (Ints W ao lo co) ∧ Hid (Ints W an ln cn) ∧ Hid (Below w.heap.size w W)) ⟨O.kpk_new _ _ _ _ _ _ _ _, hk1.call (below_alloc _ _), hk2.call (below_alloc _ _), below_alloc _ _⟩ ?_
  clear hk1 hk2
  rintro W ⟨hK, hk1, hk2, hB⟩
  obtain ⟨g0, hg0⟩ : ∃ x, Hid (w.heap.size = x) := ⟨_, rfl⟩
  rw [hg0.out] at hK hB ⊢
  have c0 := hK.out.c0
  have c1 := hK.out.c1
  have c2 := hK.out.c2
  have c3 := hK.out.c3
  have c4 := hK.out.c4
  have c5 := hK.out.c5
  have c6 := hK.out.c6
  go_wp2_with fail
  refine (O.keep_any ao lo co an ln cn kn ks kg kk kf _ hk1.out hk2.out).mono ?_
  rintro e W1 ⟨⟨os, pn, ps, pa, pk, pf⟩, u, hS, he, ho, hu, b1⟩
  simp only at he ho
  subst he
  obtain ⟨ua, uc, rfl⟩ := own_len ho
  have hS' : Hid (Small ⟨os, pn, ps, pa, pk, pf⟩) := hS
  have hO : Hid (OpsIn W1 (.slice ua os.length uc) os) := ⟨O.own_base ho (Nat.zero_le _), (small_new hS).2.2.1⟩
  have hWz : g0 ≤ W.heap.size := by have := hB.out.size; have := hg0.out; omega
  replace hB : Hid (Below g0 w W1) := hB.out.trans (b1.mono hWz)
  clear hK hk1 hk2 c0 c1 c2 c3 c4 c5 c6 ho hu b1 hS
  go_upto_region 2 with fail
  refine world_gen (fun X => Hid (Pik X W1.heap.size (.slice ua os.length uc) pn ps pa pk pf) ∧ Hid (OpsIn X (.slice ua os.length uc) os) ∧ Hid (Below g0 w X) ∧ W1.heap.size < X.heap.size) ⟨O.pik_new _ _ _ _ _ _ _, hO.out.below (below_alloc _ _), hB.out.alloc (by have := hB.out.size; have := hg0.out; omega) _, by simp⟩ ?_
  have hgw : g0 ≤ W1.heap.size := by have := hB.out.size; have := hg0.out; omega
  clear hO hB
  generalize W1.heap.size = gp at hgw ⊢
  rintro W0 ⟨hP, hO, hB, hgp⟩
  go_wp2_with fail
  refine (inputs_is la ll lc _ (hI'.out.below hB.out (Nat.le_of_eq hg0.out) hB.out.size)).mono ?_
  rintro e W3 ⟨iu, is, rfl, hl25, hG, ho, b3⟩
  obtain ⟨ia, ic, rfl⟩ := own_len ho
  obtain ⟨qi, hrd, hq1, hq3, hq4⟩ := rdi_own ho (fun i hi => (hG i hi).lt) b3.size
  have hG' : Hid (∀ i ∈ is, Good i) := hG
  have hE : Hid (WE w W3 g0 gp (.slice ua os.length uc) ⟨os, pn, ps, pa, pk, pf⟩ qi (.slice ia is.length ic) is) := ⟨hP.out.call b3, hO.out.below b3, hrd, hB.out.trans (b3.mono (by omega)), hgw, by have := b3.size; omega, hq4⟩
  have hown : Hid (W3.ownsRow W0.heap.size 71 5 (.slice ia is.length ic) is.length (ins is)) := ho
  have hz3 : W0.heap.size ≤ W3.heap.size := b3.size
  clear hP hO hB hrd hG ho b3 hq3 hq4
  obtain ⟨m, hm⟩ : ∃ m, Hid (is.length = m) := ⟨_, rfl⟩
  rw [hm.out] at hl25 hE hown ⊢
  go_wp2_with fail
  refine (O.within_any cut 0 m _ (by decide) (by omega) (by omega)).mono ?_
  rintro e V ⟨⟨ci, hc0, hc1, rfl⟩, he⟩; obtain rfl := he.symm; clear he
  obtain ⟨c, rfl⟩ : ∃ n : Nat, ci = n := ⟨ci.toNat, by omega⟩
  have hcm : c ≤ m := by omega
  obtain ⟨hmI, hic, hic2⟩ := hE.out.I.caps
  have hmI' : Hid (m = is.length) := hmI
  clear hmI
  have hci : c ≤ ic := by omega
  go_upto_region 4 with fail
  refine wp_region_held_drew (S := fun X => Below W3.heap.size W3 X) (by kernel_rfl) (Below.refl _ _).drew (fun hHeld => ?_)
  generalize W3.drew = V at hHeld ⊢
  refine take_at (i := 0) (v := O.pv (.slice ua os.length uc) pn ps pa pk pf) rfl rfl (by kernel_rfl) (by kernel_rfl) (by kernel_rfl) (fun _ _ _ h => h) (Or.inl ⟨by rfl, fun X hX => by have h := (hE.out.P).call hX; have c0 := h.c0; have c1 := h.c1; have c2 := h.c2; have c3 := h.c3; have c4 := h.c4; have c5 := h.c5; go_simp⟩) hHeld ?_
  try simp only [Act.put, List.setIfInBounds_toArray, List.set_cons_zero, List.set_cons_succ]
  refine take_at (i := 1) (v := .slice ia m ic) rfl rfl (by kernel_rfl) (by kernel_rfl) (by kernel_rfl) (fun _ _ _ h => h) (Or.inl ⟨by rfl, fun X _ => by go_simp⟩) hHeld ?_
  try simp only [Act.put, List.setIfInBounds_toArray, List.set_cons_zero, List.set_cons_succ]
  refine take_at (i := 2) (v := .int .i64 (c : Int)) rfl rfl (by kernel_rfl) (by kernel_rfl) (by kernel_rfl) (fun _ _ _ h => h) (Or.inl ⟨by rfl, fun X _ => by go_simp⟩) hHeld ?_
  try simp only [Act.put, List.setIfInBounds_toArray, List.set_cons_zero, List.set_cons_succ]
  refine take_at (i := 3) (v := .slice ia c ic) rfl rfl (by kernel_rfl) (by kernel_rfl) (by kernel_rfl) (fun _ _ _ h => h) (Or.inl ⟨by rfl, fun X _ => by go_simp⟩) hHeld ?_
  try simp only [Act.put, List.setIfInBounds_toArray, List.set_cons_zero, List.set_cons_succ]
  refine take_at (i := 5) (v := O.pv (.slice ua os.length uc) pn ps pa pk pf) rfl rfl (by kernel_rfl) (by kernel_rfl) (by kernel_rfl) (fun _ _ _ h => h) (Or.inl ⟨by rfl, fun X hX => by have h := (hE.out.P).call hX; have c0 := h.c0; have c1 := h.c1; have c2 := h.c2; have c3 := h.c3; have c4 := h.c4; have c5 := h.c5; go_simp⟩) hHeld ?_
  try simp only [Act.put, List.setIfInBounds_toArray, List.set_cons_zero, List.set_cons_succ]
  refine take_at (i := 6) (v := .slice ia m ic) rfl rfl (by kernel_rfl) (by kernel_rfl) (by kernel_rfl) (fun _ _ _ h => h) (Or.inl ⟨by rfl, fun X _ => by go_simp⟩) hHeld ?_
  try simp only [Act.put, List.setIfInBounds_toArray, List.set_cons_zero, List.set_cons_succ]
  refine wpAnyH_ready (rs := [4]) (by kernel_rfl) (by simp) ?_
  refine AllReadyH.cons rfl (fun K hK => ?_) AllReadyH.nil
  rw [if_pos (by rfl)]
  go_wp2_with fail
  refine (wrows_is (.slice ua os.length uc) ⟨os, pn, ps, pa, pk, pf⟩ (.slice ia c ic) qi (is.take c) _ (hE.out.O.below hHeld) (small_new hS'.out).1 (small_new hS'.out).2.1 ((hE.out.I.take (by have := hm.out; omega)).below hHeld) (by have := hHeld.size; have := hE.out.hq; omega) (by rw [List.length_take]; omega)).mono ?_
  rintro e V2 ⟨u1, rfl, hu1, hb⟩
  have hr1 : Hid (RdR V2 u1 (rowsR ⟨os, pn, ps, pa, pk, pf⟩ r0 (is.take c))) := rdr_own hu1
  clear hu1
  have hHb := below_call hHeld hb
  clear hHeld hb
  go_wp2_with fail
  refine hK.out _ _ (hHb) (fun hHeld => ?_)
  clear hK K hHb
  try simp only [Act.put, List.setIfInBounds_toArray, List.set_cons_zero, List.set_cons_succ]
  refine wpAnyH_ready (rs := [7]) (by kernel_rfl) (by simp) ?_
  refine AllReadyH.cons rfl (fun K hK => ?_) AllReadyH.nil
  rw [if_pos (by rfl)]
  go_wp2_with fail
  refine (wrows_is (.slice ua os.length uc) ⟨os, pn, ps, pa, pk, pf⟩ (.slice ia m ic) qi (is) _ (hE.out.O.below hHeld) (small_new hS'.out).1 (small_new hS'.out).2.1 (hE.out.I.below hHeld) (by have := hHeld.size; have := hE.out.hq; omega) (by have := hm.out; omega)).mono ?_
  rintro e V3 ⟨u2, rfl, hu2, hb⟩
  have hr2 : Hid (RdR V3 u2 (rowsR ⟨os, pn, ps, pa, pk, pf⟩ r0 (is))) := rdr_own hu2
  replace hr1 : Hid (RdR V3 u1 (rowsR ⟨os, pn, ps, pa, pk, pf⟩ r0 (is.take c))) := hr1.out.below hb
  clear hu2
  have hHb := below_call hHeld hb
  clear hHeld hb
  go_wp2_with fail
  refine hK.out _ _ (hHb) (fun hHeld => ?_)
  clear hK K hHb
  try simp only [Act.put, List.setIfInBounds_toArray, List.set_cons_zero, List.set_cons_succ]
  refine take_at (i := 8) (v := u1) rfl rfl (by kernel_rfl) (by kernel_rfl) (by kernel_rfl) (fun _ _ _ h => h) (Or.inl ⟨by rfl, fun X _ => by go_simp⟩) hHeld ?_
  try simp only [Act.put, List.setIfInBounds_toArray, List.set_cons_zero, List.set_cons_succ]
  refine take_at (i := 9) (v := u2) rfl rfl (by kernel_rfl) (by kernel_rfl) (by kernel_rfl) (fun _ _ _ h => h) (Or.inl ⟨by rfl, fun X _ => by go_simp⟩) hHeld ?_
  try simp only [Act.put, List.setIfInBounds_toArray, List.set_cons_zero, List.set_cons_succ]
  refine wpAnyH_done (by kernel_rfl) ?_ _
  have hE4 : Hid (WE w V3 g0 gp (.slice ua os.length uc) ⟨os, pn, ps, pa, pk, pf⟩ qi (.slice ia m ic) is) := hE.out.call hHeld
  have hown4 : Hid (V3.ownsRow W0.heap.size 71 5 (.slice ia m ic) m (ins is)) := own_below hown.out hHeld
  have hz4 : W0.heap.size ≤ V3.heap.size := by have := hHeld.size; omega
  clear hE hown hHeld hz3 hci
  obtain ⟨i0, hi, hy0, hy1, hy2⟩ := info_parts Try.info71
  go_wp2_with (at_builtin; refine wpList_append_srcN _ (by rfl) _ _ 55 rfl 5 V3.heap.size 71 i0 izero 40 Try.underlying55 hi hy0 hy1 hy2 rfl (by decide) (.slice (some ⟨V3.heap.size, 0, none⟩) 0 0) 0 (ins []) rfl (own_emptyI V3 V3.heap.size V3.heap.size (Nat.le_refl _) rfl) (.slice ia m ic) m (ins is) rfl ((srcN_own hown4.out).below (below_alloc _ _)) (ins_one _) (by unfold maxLen; omega) (by omega) (by simp) ?_)
  intro v5 W5 o5 b5
  have hb5 : Hid (Below V3.heap.size V3 W5) := ((below_alloc V3 _).trans (b5.mono (Nat.le_refl _)))
  have ho5 : Hid (W5.ownsRow V3.heap.size 71 5 v5 m (ins is)) := by
    have h : W5.ownsRow V3.heap.size 71 5 v5 m (ins is) := by first | exact o5 | (have h := o5; rw [Nat.zero_add] at h; exact h)
    exact h
  have hz5 : V3.heap.size ≤ W5.heap.size := hb5.out.size
  clear o5 b5
  go_wp2_with (at_builtin; refine wpList_append_srcN _ (by rfl) _ _ 55 rfl 5 V3.heap.size 71 i0 izero 40 Try.underlying55 hi hy0 hy1 hy2 rfl (by decide) v5 m (ins is) rfl (ho5.out.alloc _) (.slice (some ⟨W5.heap.size, 0, none⟩) 1 1) 1 (ins [endI]) rfl (in_src W5 endI _ rfl) (ins_one _) (by unfold maxLen; omega) (by omega) (by simp; omega) ?_)
  intro v6 W6 o6 b6
  have hb6 : Hid (Below V3.heap.size V3 W6) := (hb5.out.trans ((below_alloc W5 _).mono hz5)).trans b6
  have ho6 : Hid (W6.ownsRow V3.heap.size 71 5 v6 (m + 1) (ins (is ++ [endI]))) := by
    have h : W6.ownsRow V3.heap.size 71 5 v6 (m + 1) (ins (is ++ [endI])) := by rw [ins_append]; exact o6
    exact h
  have hE6 : Hid (WE w W6 g0 gp (.slice ua os.length uc) ⟨os, pn, ps, pa, pk, pf⟩ qi (.slice ia m ic) is) := hE4.out.call hb6.out
  have hr1' : Hid (RdR W6 u1 (rowsR ⟨os, pn, ps, pa, pk, pf⟩ r0 (is.take c))) := hr1.out.below hb6.out
  have hr2' : Hid (RdR W6 u2 (rowsR ⟨os, pn, ps, pa, pk, pf⟩ r0 is)) := hr2.out.below hb6.out
  have hlab : Hid (∀ i ∈ is ++ [endI], i.e.l < 18446744073709551616) := end_l (good_l hG'.out)
  have hz6 : V3.heap.size ≤ W6.heap.size := hb6.out.size
  clear o6 b6 hb5 ho5 hb6 hE4 hown4 hr1 hr2
  obtain ⟨q6, hI6, hq6, _, hq6'⟩ := rdi_own ho6.out hlab.out hz6
  have hI6' : Hid (RdI W6 v6 q6 (is ++ [endI])) := hI6
  clear hI6 ho6
  have c0 := hE6.out.P.c0
  have c1 := hE6.out.P.c1
  have c2 := hE6.out.P.c2
  have c3 := hE6.out.P.c3
  have c4 := hE6.out.P.c4
  have c5 := hE6.out.P.c5
  go_wp2_with fail
  refine (wrows_is (.slice ua os.length uc) ⟨os, pn, ps, pa, pk, pf⟩ v6 q6 (is ++ [endI]) _ hE6.out.O (small_new hS'.out).1 (small_new hS'.out).2.1 hI6'.out hq6' (by rw [List.length_append, hm.out]; simp; omega)).mono ?_
  rintro e W7 ⟨u7, rfl, hu7, b7⟩
  have hE7 : Hid (WE w W7 g0 gp (.slice ua os.length uc) ⟨os, pn, ps, pa, pk, pf⟩ qi (.slice ia m ic) is) := hE6.out.call b7
  have hr7 : Hid (RdR W7 u7 (rowsR ⟨os, pn, ps, pa, pk, pf⟩ r0 (is ++ [endI]))) := rdr_own hu7
  replace hr1' : Hid (RdR W7 u1 (rowsR ⟨os, pn, ps, pa, pk, pf⟩ r0 (is.take c))) := hr1'.out.below b7
  replace hr2' : Hid (RdR W7 u2 (rowsR ⟨os, pn, ps, pa, pk, pf⟩ r0 is)) := hr2'.out.below b7
  have hI7 : Hid (RdI W7 v6 q6 (is ++ [endI])) := hI6'.out.below b7
  have hq7 : q6 ≤ W7.heap.size := by have := b7.size; omega
  clear hu7 b7 hE6 hI6' c0 c1 c2 c3 c4 c5
  have hcut : Hid (rowsR ⟨os, pn, ps, pa, pk, pf⟩ r0 is = rowsR ⟨os, pn, ps, pa, pk, pf⟩ r0 (is.take c) ++ rowsR ⟨os, pn, ps, pa, pk, pf⟩ (stR ⟨os, pn, ps, pa, pk, pf⟩ r0 (is.take c)) (is.drop c)) := rows_cut _ _ _ _
  have hend : Hid ((stR ⟨os, pn, ps, pa, pk, pf⟩ r0 (is ++ [endI])).L = [] ∧ rowsR ⟨os, pn, ps, pa, pk, pf⟩ r0 (is ++ [endI]) = rowsR ⟨os, pn, ps, pa, pk, pf⟩ r0 is ++ (stR ⟨os, pn, ps, pa, pk, pf⟩ r0 is).L) := end_all (small_n hS'.out) (good_t hG'.out)
  have hpre1 : Hid (rowsR ⟨os, pn, ps, pa, pk, pf⟩ r0 (is.take c) <+: rowsR ⟨os, pn, ps, pa, pk, pf⟩ r0 is) := by
    have h : rowsR ⟨os, pn, ps, pa, pk, pf⟩ r0 (is.take c) <+: rowsR ⟨os, pn, ps, pa, pk, pf⟩ r0 is := ⟨_, hcut.out.symm⟩
    exact h
  have hpre2 : Hid (rowsR ⟨os, pn, ps, pa, pk, pf⟩ r0 is <+: rowsR ⟨os, pn, ps, pa, pk, pf⟩ r0 (is ++ [endI])) := by
    have h : rowsR ⟨os, pn, ps, pa, pk, pf⟩ r0 is <+: rowsR ⟨os, pn, ps, pa, pk, pf⟩ r0 (is ++ [endI]) := ⟨_, hend.out.2.symm⟩
    exact h
  have hall : Hid (LabL (labs is) (rowsR ⟨os, pn, ps, pa, pk, pf⟩ r0 (is ++ [endI]))) := rows_labs _ _
  have hpast : Hid (decide ((stR ⟨os, pn, ps, pa, pk, pf⟩ r0 (is ++ [endI])).L = []) = true) := by
    have h : decide ((stR ⟨os, pn, ps, pa, pk, pf⟩ r0 (is ++ [endI])).L = []) = true := by rw [hend.out.1]; rfl
    exact h
  clear hcut hend
  have hMb : Hid ((rowsR ⟨os, pn, ps, pa, pk, pf⟩ r0 is).length ≤ 200) := by
    have h : (rowsR ⟨os, pn, ps, pa, pk, pf⟩ r0 is).length ≤ 200 := by have h := (rows_len ⟨os, pn, ps, pa, pk, pf⟩ is).1; have := hm.out; omega
    exact h
  generalize rowsR ⟨os, pn, ps, pa, pk, pf⟩ r0 (is.take c) = A at hr1' hpre1
  generalize rowsR ⟨os, pn, ps, pa, pk, pf⟩ r0 is = B at hr2' hpre1 hpre2 hMb
  generalize rowsR ⟨os, pn, ps, pa, pk, pf⟩ r0 (is ++ [endI]) = E at hr7 hpre2 hall
  go_wp2_with fail
  refine (prefix_is u1 u2 A B _ true hr1'.out hr2'.out (pre_yes hpre1.out)).mono ?_
  rintro e W8 ⟨rfl, b8⟩
  have hE8 : Hid (WE w W8 g0 gp (.slice ua os.length uc) ⟨os, pn, ps, pa, pk, pf⟩ qi (.slice ia m ic) is) := hE7.out.call b8
  replace hr1' : Hid (RdR W8 u1 A) := hr1'.out.below b8
  replace hr2' : Hid (RdR W8 u2 B) := hr2'.out.below b8
  replace hr7 : Hid (RdR W8 u7 E) := hr7.out.below b8
  have hI8 : Hid (RdI W8 v6 q6 (is ++ [endI])) := hI7.out.below b8
  have hq8 : q6 ≤ W8.heap.size := by have := b8.size; omega
  clear b8 hE7 hI7 hq7
  go_wp2_with fail
  refine (prefix_is u2 u7 B E _ true hr2'.out hr7.out (pre_yes hpre2.out)).mono ?_
  rintro e W9 ⟨rfl, b9⟩
  have hE9 : Hid (WE w W9 g0 gp (.slice ua os.length uc) ⟨os, pn, ps, pa, pk, pf⟩ qi (.slice ia m ic) is) := hE8.out.call b9
  replace hr1' : Hid (RdR W9 u1 A) := hr1'.out.below b9
  replace hr2' : Hid (RdR W9 u2 B) := hr2'.out.below b9
  replace hr7 : Hid (RdR W9 u7 E) := hr7.out.below b9
  have hI9 : Hid (RdI W9 v6 q6 (is ++ [endI])) := hI8.out.below b9
  have hq9 : q6 ≤ W9.heap.size := by have := b9.size; omega
  clear b9 hE8 hI8 hq8
  have c0 := hE9.out.P.c0
  have c1 := hE9.out.P.c1
  have c2 := hE9.out.P.c2
  have c3 := hE9.out.P.c3
  have c4 := hE9.out.P.c4
  have c5 := hE9.out.P.c5
  go_wp2_with fail
  refine (wpast_is (.slice ua os.length uc) ⟨os, pn, ps, pa, pk, pf⟩ v6 q6 (is ++ [endI]) true _ hE9.out.O (small_new hS'.out).1 (small_new hS'.out).2.1 hI9.out hq9 (by rw [List.length_append, hm.out]; simp; omega) hpast.out).mono ?_
  rintro e W10 ⟨rfl, b10⟩
  clear c0 c1 c2 c3 c4 c5
  have hE10 : Hid (WE w W10 g0 gp (.slice ua os.length uc) ⟨os, pn, ps, pa, pk, pf⟩ qi (.slice ia m ic) is) := hE9.out.call b10
  replace hr1' : Hid (RdR W10 u1 A) := hr1'.out.below b10
  replace hr2' : Hid (RdR W10 u2 B) := hr2'.out.below b10
  replace hr7 : Hid (RdR W10 u7 E) := hr7.out.below b10
  have hI10 : Hid (RdI W10 v6 q6 (is ++ [endI])) := hI9.out.below b10
  have hq10 : q6 ≤ W10.heap.size := by have := b10.size; omega
  clear b10 hE9 hI9 hq9
  go_wp2_with fail
  refine (prefix_is _ u1 [] A _ true (rdr_nil _) hr1'.out (pre_nil _)).mono ?_
  rintro e W11 ⟨rfl, b11⟩
  have hE11 : Hid (WE w W11 g0 gp (.slice ua os.length uc) ⟨os, pn, ps, pa, pk, pf⟩ qi (.slice ia m ic) is) := hE10.out.call b11
  replace hr1' : Hid (RdR W11 u1 A) := hr1'.out.below b11
  replace hr2' : Hid (RdR W11 u2 B) := hr2'.out.below b11
  replace hr7 : Hid (RdR W11 u7 E) := hr7.out.below b11
  have hI11 : Hid (RdI W11 v6 q6 (is ++ [endI])) := hI10.out.below b11
  have hq11 : q6 ≤ W11.heap.size := by have := b11.size; omega
  clear b11 hE10 hI10 hq10
  go_wp2_with fail
  refine (prefix_is u1 u1 A A _ true hr1'.out hr1'.out (pre_self _)).mono ?_
  rintro e W12 ⟨rfl, b12⟩
  have hE12 : Hid (WE w W12 g0 gp (.slice ua os.length uc) ⟨os, pn, ps, pa, pk, pf⟩ qi (.slice ia m ic) is) := hE11.out.call b12
  replace hr1' : Hid (RdR W12 u1 A) := hr1'.out.below b12
  replace hr2' : Hid (RdR W12 u2 B) := hr2'.out.below b12
  replace hr7 : Hid (RdR W12 u7 E) := hr7.out.below b12
  have hI12 : Hid (RdI W12 v6 q6 (is ++ [endI])) := hI11.out.below b12
  have hq12 : q6 ≤ W12.heap.size := by have := b12.size; omega
  clear b12 hE11 hI11 hq11
  obtain ⟨ea, ec, he7, hec1, hec2⟩ := hr7.out.form
  subst he7
  have hr7' : Hid (RdR W12 (.slice ea E.length ec) E) := hr7.out
  clear hr7 hI12 hq12 hpast hpre2
  obtain ⟨n, hn⟩ : ∃ n, Hid (E.length = n) := ⟨_, rfl⟩
  rw [hn.out] at hr7' hec1 ⊢
  go_wp2_with fail
  go_loopw [75] (fun i wr => ∃ j : Nat, j ≤ n ∧ i = .int .i64 j ∧ Hid (Below W12.heap.size W12 wr)) (fun i _ => n - (intOf i).toNat)
  case atStart => exact ⟨0, Nat.zero_le _, rfl, Below.refl _ _⟩
  case round =>
    obtain ⟨j, hj, rfl, hb⟩ := hrel
    by_cases hlt : j < n
    · have hjl : j < E.length := by rw [hn.out]; exact hlt
      have hsub := hall.out _ (pAt_mem E j hjl)
      have hr := hr7'.out.below hb.out
      obtain ⟨hl, ao', cap', he', hlc, hcm', hcell⟩ := hr
      injection he' with he1 he2 he3
      subst he1 he3
      obtain ⟨gb, off, rfl, hgb, hrow⟩ := hcell (by omega)
      have hat := hrow j (by omega)
      obtain ⟨x, hx⟩ : ∃ x, Hid (pAt E j = x) := ⟨_, rfl⟩
      rw [hx.out] at hat hsub
      have hsub' : Hid (Sub x.l (labs is)) := hsub
      clear hcell hrow hsub hx hl hlc hcm' he2 hgb
      obtain ⟨d0, d1, d2, d3, d4⟩ := hat
      go_upto_region 12 with fail
      clear d0 d1 d2 d3 d4
      have hwz : W12.heap.size ≤ wr.heap.size := hb.out.size
      refine world_gen (fun X => Hid (Rok X wr.heap.size x) ∧ Hid (Below W12.heap.size W12 X)) ⟨rok_new _ _, hb.out.trans ((below_alloc _ _).mono hwz)⟩ ?_
      clear hb
      rintro X ⟨hK, hb⟩
      generalize wr.heap.size = gi at hK hwz ⊢
      have hEX : Hid (WE w X g0 gp (.slice ua os.length uc) ⟨os, pn, ps, pa, pk, pf⟩ qi (.slice ia m ic) is) := hE12.out.call hb.out
      have hll := labs_lt is (good_l hG'.out)
      have hxl := sub_lt hsub'.out hll
      have hbit : Hid (bits .andNot .u64 (x.l : Int) ((labs is : Nat) : Int) = 0) := sub_bits hsub'.out hxl hll
      clear hll hxl hsub'
      have hgi : gi < X.heap.size := Rok.lt hK.out
      obtain ⟨xs, xk, xc, xv, xl⟩ := x
      simp only at hbit
      refine wp_region_held_drew (S := fun X' => Below X.heap.size X X') (by kernel_rfl) (Below.refl _ _).drew (fun hHeld => ?_)
      generalize X.drew = V at hHeld ⊢
      refine take_at (i := 0) (v := .pointer (some ⟨gi, 4, none⟩)) rfl rfl (by kernel_rfl) (by kernel_rfl) (by kernel_rfl) (fun _ _ _ h => h) (Or.inl ⟨by rfl, fun X _ => by go_simp⟩) hHeld ?_
      try simp only [Act.put, List.setIfInBounds_toArray, List.set_cons_zero, List.set_cons_succ]
      refine take_at (i := 1) (v := .int .u64 (xl : Int)) rfl rfl (by kernel_rfl) (by kernel_rfl) (by kernel_rfl) (fun _ _ _ h => h) (Or.inl ⟨by rfl, fun X hX => by have c4 := (Rok.c (Rok.keep hK.out (hX.block gi hgi))).2.2.2.2; simp only at c4; go_simp⟩) hHeld ?_
      try simp only [Act.put, List.setIfInBounds_toArray, List.set_cons_zero, List.set_cons_succ]
      refine take_at (i := 2) (v := .slice ia m ic) rfl rfl (by kernel_rfl) (by kernel_rfl) (by kernel_rfl) (fun _ _ _ h => h) (Or.inl ⟨by rfl, fun X _ => by go_simp⟩) hHeld ?_
      try simp only [Act.put, List.setIfInBounds_toArray, List.set_cons_zero, List.set_cons_succ]
      refine wpAnyH_ready (rs := [3]) (by kernel_rfl) (by simp) ?_
      refine AllReadyH.cons rfl (fun K hK => ?_) AllReadyH.nil
      rw [if_pos (by rfl)]
      go_wp2_with fail
      refine (labels_is (.slice ia m ic) qi is _ (hEX.out.I.below hHeld)).mono ?_
      rintro e V2 ⟨rfl, hb⟩
      have hHb := below_call hHeld hb
      clear hHeld hb
      go_wp2_with fail
      refine hK.out _ _ (hHb) (fun hHeld => ?_)
      clear hK K hHb
      try simp only [Act.put, List.setIfInBounds_toArray, List.set_cons_zero, List.set_cons_succ]
      refine take_at (i := 4) (v := .int .u64 0) rfl rfl (by kernel_rfl) (by kernel_rfl) (by kernel_rfl) (fun _ _ _ h => h) (Or.inl ⟨by rfl, fun X _ => by have e := hbit.out; go_simp⟩) hHeld ?_
      try simp only [Act.put, List.setIfInBounds_toArray, List.set_cons_zero, List.set_cons_succ]
      refine take_at (i := 5) (v := .bool false) rfl rfl (by kernel_rfl) (by kernel_rfl) (by kernel_rfl) (fun _ _ _ h => h) (Or.inl ⟨by rfl, fun X _ => by go_simp⟩) hHeld ?_
      try simp only [Act.put, List.setIfInBounds_toArray, List.set_cons_zero, List.set_cons_succ]
      refine wpAnyH_done (by kernel_rfl) ?_ _
      have hb2 : Hid (Below W12.heap.size W12 V2) := hb.out.trans (hHeld.mono hb.out.size)
      clear hHeld hb hEX hK hbit
      go_wp2_with fail
      go_roundw
      case rel => exact ⟨j + 1, by omega, by go_num, hb2⟩
      case measure => simp [intOf]; omega
    · obtain rfl : j = n := by omega
      have hE13 : Hid (WE w wr g0 gp (.slice ua os.length uc) ⟨os, pn, ps, pa, pk, pf⟩ qi (.slice ia m ic) is) := hE12.out.call hb.out
      have hr2 : Hid (RdR wr u2 B) := hr2'.out.below hb.out
      clear hE12 hr1' hr2' hr7' hall hn hec1 hec2 hb hpre1
      obtain ⟨ba, bc, he2, hbc1, hbc2⟩ := hr2.out.form
      subst he2
      by_cases hB0 : B.length = 0
      · rw [hB0] at hr2 hbc1 ⊢
        go_wp2_with fail
        refine (wholeRuns_walk _).mono ?_
        rintro e W20 ⟨rfl, b20⟩
        have hBB : Hid (Below g0 w W20) := (hE13.out.call b20).B
        go_wp2_with fail
        go_ret
        exact ⟨rfl, by rw [hg0.out]; exact hBB.out⟩
      · obtain ⟨M, hM⟩ : ∃ M, Hid (B.length = M) := ⟨_, rfl⟩
        have hM1 : 1 ≤ M := by have := hM.out; omega
        have hM6 : M ≤ 1000 := by have := hM.out; have := hMb.out; omega
        have hsrc : Hid (SrcN 5 wr (.slice ba M bc) M (rcs B)) := by
          have h : SrcN 5 wr (.slice ba M bc) M (rcs B) := by
            rcases hr2.out.src with h | h
            · rw [h] at hB0; exact absurd rfl hB0
            · rw [hM.out] at h; exact h
          exact h
        rw [hM.out] at hr2 hbc1 ⊢
        clear hB0
        obtain ⟨j0, hj0, hx0, hx1, hx2⟩ := info_parts Try.info45
        go_wp2_with (at_builtin; refine wpList_append_srcN _ (by rfl) _ _ 39 rfl 5 wr.heap.size 45 j0 rzero 40 Try.underlying39 hj0 hx0 hx1 hx2 rfl (by decide) (.slice (some ⟨wr.heap.size, 0, none⟩) 0 0) 0 (rcs []) rfl (own_emptyR wr wr.heap.size wr.heap.size (Nat.le_refl _) rfl) (.slice ba M bc) M (rcs B) rfl (hsrc.out.below (below_alloc _ _)) (rcs_one _) (by unfold maxLen; omega) (by omega) (by simp) ?_)
        intro v15 W15 o15 b15
        have hb15 : Hid (Below wr.heap.size wr W15) := (below_alloc wr _).trans b15
        have ho15 : W15.ownsRow wr.heap.size 45 5 v15 M (rcs B) := by first | exact o15 | (have h := o15; rw [Nat.zero_add] at h; exact h)
        obtain ⟨gt, ct, rfl, hgt1, hgt2, hct1, hct2, hfr, hat⟩ := own_rows_some ho15 (by have := hM.out; omega)
        have hat' : Hid (∀ j, j < B.length → RwAt W15 gt (j * 5) (pAt B j)) := hat
        have hE15 : Hid (WE w W15 g0 gp (.slice ua os.length uc) ⟨os, pn, ps, pa, pk, pf⟩ qi (.slice ia m ic) is) := hE13.out.call hb15.out
        have hB15 : Hid (Below g0 w W15) := hE15.out.B
        have hwrz := hE13.out.size
        clear o15 b15 ho15 hat hE13 hE15 hsrc
        rw [hM.out] at hct1 ⊢
        go_wp2_with fail
        refine (O.within_any other 0 ((M : Int) - 1) _ (by decide) (by omega) (by omega)).mono ?_
        rintro e V' ⟨⟨ii, hi0, hi1, rfl⟩, he⟩; obtain rfl := he.symm; clear he
        obtain ⟨i, rfl⟩ : ∃ n : Nat, ii = n := ⟨ii.toNat, by omega⟩
        have hiM : i < M := by omega
        have hiB : i < B.length := by rw [hM.out]; exact hiM
        obtain ⟨k0, k1, k2, k3, k4⟩ := hat'.out i hiB
        have hup := rdr_up (g := gt) (cap := ct) (i := i) (L := B) (by rw [hM.out]; exact hct1) hct2 hgt2 hat'.out hiB
        rw [hM.out] at hup
        have hup' : Hid (RdR (W15.setCell ⟨gt, i * 5 + 3, none⟩ (.int .i64 (wrap64 ((pAt B i).c + 1)))) (.slice (some ⟨gt, 0, none⟩) M ct) (cntUp B i)) := hup
        have hfr3 := hfr (i * 5 + 3)
        clear hup hat' hfr
        generalize hc9 : (pAt B i).c = cc at k3 hup'
        go_upto_region 19 with fail
        have hset : Hid (Below g0 w (W15.setCell ⟨gt, i * 5 + 3, none⟩ (.int .i64 (wrap64 (cc + 1))))) := hB15.out.setCell (show g0 ≤ gt by omega) _
        have hset2 : Hid (RdR (W15.setCell ⟨gt, i * 5 + 3, none⟩ (.int .i64 (wrap64 (cc + 1)))) (.slice ba M bc) B) := hr2.out.below (hb15.out.setCell (show wr.heap.size ≤ gt from hgt1) _)
        clear k0 k1 k2 k3 k4 hfr3 hr2 hb15 hB15
        refine world_gen (fun X => Hid (RdR X (.slice (some ⟨gt, 0, none⟩) M ct) (cntUp B i)) ∧ Hid (Below g0 w X) ∧ Hid (RdR X (.slice ba M bc) B)) ⟨hup'.out, hset.out, hset2.out⟩ ?_
        clear hup' hset hset2
        rintro X ⟨hT, hBX, hRB⟩
        have hiB' : Hid (i < B.length) := hiB
        have hMl : Hid (B.length = M) := hM.out
        clear hiB hM hc9 hgt2
        go_wp2_with fail
        refine (prefix_is _ _ (cntUp B i) B _ false hT.out hRB.out (pre_no (cntUp_no' hiB'.out))).mono ?_
        rintro e W21 ⟨rfl, b21⟩
        replace hT : Hid (RdR W21 (.slice (some ⟨gt, 0, none⟩) M ct) (cntUp B i)) := hT.out.below b21
        replace hRB : Hid (RdR W21 (.slice ba M bc) B) := hRB.out.below b21
        replace hBX : Hid (Below g0 w W21) := hBX.out.trans (b21.mono (by have := hBX.out.size; have := hg0.out; omega))
        clear b21
        obtain ⟨M1, rfl⟩ : ∃ M1, M = M1 + 1 := ⟨M - 1, by omega⟩
        have hM1' : (((M1 + 1 : Nat) : Int) - 1) = (M1 : Int) := by omega
        go_wp2_with fail
        refine (prefix_is _ _ B (B.take M1) _ false hRB.out (hRB.out.take (by have := hMl.out; omega)) (pre_no (short_no (by have := hMl.out; omega)))).mono ?_
        rintro e W22 ⟨rfl, b22⟩
        replace hT : Hid (RdR W22 (.slice (some ⟨gt, 0, none⟩) (M1 + 1) ct) (cntUp B i)) := hT.out.below b22
        replace hRB : Hid (RdR W22 (.slice ba (M1 + 1) bc) B) := hRB.out.below b22
        replace hBX : Hid (Below g0 w W22) := hBX.out.trans (b22.mono (by have := hBX.out.size; have := hg0.out; omega))
        clear b22 hM1'
        go_wp2_with fail
        refine (prefix_is _ _ ((cntUp B i).take (i + 1)) B _ false (hT.out.take (by rw [cntUp_len]; have := hiB'.out; omega)) hRB.out (pre_no (cntUp_no hiB'.out (Nat.lt_succ_self i)))).mono ?_
        rintro e W23 ⟨rfl, b23⟩
        replace hT : Hid (RdR W23 (.slice (some ⟨gt, 0, none⟩) (M1 + 1) ct) (cntUp B i)) := hT.out.below b23
        replace hRB : Hid (RdR W23 (.slice ba (M1 + 1) bc) B) := hRB.out.below b23
        replace hBX : Hid (Below g0 w W23) := hBX.out.trans (b23.mono (by have := hBX.out.size; have := hg0.out; omega))
        clear b23
        go_wp2_with fail
        refine (prefix_is _ _ ((cntUp B i).take i) B _ true (hT.out.take (by rw [cntUp_len]; have := hiB'.out; omega)) hRB.out (pre_yes (cntUp_yes B i))).mono ?_
        rintro e W24 ⟨rfl, b24⟩
        replace hBX : Hid (Below g0 w W24) := hBX.out.trans (b24.mono (by have := hBX.out.size; have := hg0.out; omega))
        clear b24 hT hRB
        go_wp2_with fail
        refine (wholeRuns_walk _).mono ?_
        rintro e W25 ⟨rfl, b25⟩
        replace hBX : Hid (Below g0 w W25) := hBX.out.trans (b25.mono (by have := hBX.out.size; have := hg0.out; omega))
        clear b25
        go_wp2_with fail
        go_ret
        exact ⟨rfl, by rw [hg0.out]; exact hBX.out⟩
end Go.Proofs.Ytombgbdplafooaa
