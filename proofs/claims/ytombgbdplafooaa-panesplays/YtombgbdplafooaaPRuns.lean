/- PanesRuns, walked. -/
import Derived.Test.YtombgbdplafooaaSame
namespace Go.Proofs.Ytombgbdplafooaa
open Go.RowKit M
set_option linter.unusedVariables false
set_option linter.unusedSimpArgs false
attribute [local go_sem ↓] Go.wp_at_zero Go.wp_at_succ

theorem runs_put : putL 10 5 2 [] [⟨7, 1, 3, 1⟩, ⟨12, 1, 4, 2⟩] = [⟨0, 1, 1, 3, 1⟩, ⟨5, 1, 2, 7, 3⟩, ⟨10, 1, 1, 4, 2⟩] := by kernel_rfl
theorem runs_end : endN 10 15 [⟨0, 1, 1, 3, 1⟩, ⟨5, 1, 2, 7, 3⟩, ⟨10, 1, 1, 4, 2⟩] = 2 := by kernel_rfl
set_option maxHeartbeats 1000000 in
set_option maxRecDepth 100000 in
theorem pruns_is (w : World) : Calls Try.prog 24 #[] w fun e w' => e = .returned (.bool true) ∧ Below w.heap.size w w' := by
  go_enter Try.func24, Try.ntmps24
  go_wp2_with fail
  refine (pnew_is 10 5 2 _).mono ?_
  rintro e w1 ⟨rfl, hP, hb⟩
  obtain ⟨q, hq⟩ : ∃ q, Hid (w.heap.size = q) := ⟨_, rfl⟩
  have hP1 : Hid (Pan w1 q q 10 5 2 []) := by rw [← hq.out]; exact hP
  have hb1 : Hid (Below q w w1) := by rw [← hq.out]; exact hb
  rw [hq.out]
  clear hP hb
  go_wp2_with fail
  have hE : RdE (w1.alloc (.cells (evs [⟨7, 1, 3, 1⟩, ⟨12, 1, 4, 2⟩]).toArray 35)) (.slice (some ⟨w1.heap.size, 0, none⟩) 2 2) w1.heap.size [⟨7, 1, 3, 1⟩, ⟨12, 1, 4, 2⟩] := rde_lit w1 [⟨7, 1, 3, 1⟩, ⟨12, 1, 4, 2⟩] (by simp) (by simp)
  have hqw := hP1.out.lt
  refine (put_is q q 10 5 2 [] _ w1.heap.size [⟨7, 1, 3, 1⟩, ⟨12, 1, 4, 2⟩] _ (hP1.out.below (below_alloc _ _)) hE (by omega) (by omega) (by simp)).mono ?_
  rintro e w2 ⟨o2, rfl, hP2, ho2, hch⟩
  rw [runs_put] at hP2
  have hP2' : Hid (Pan w2 q o2 10 5 2 [⟨0, 1, 1, 3, 1⟩, ⟨5, 1, 2, 7, 3⟩, ⟨10, 1, 1, 4, 2⟩]) := hP2
  have hqo : q ≤ o2 := by simp at ho2; omega
  have hb2 : Hid (Below q w w2) := by
    have h := (hb1.out.alloc (by have := hb1.out.size; omega) (.cells (evs [⟨7, 1, 3, 1⟩, ⟨12, 1, 4, 2⟩]).toArray 35)).trans (hch.below (Nat.le_refl _) (Nat.le_refl _) (by simp; omega))
    exact h
  clear hP2 hch hE hP1 hb1 ho2 hqw
  go_wp2_with fail
  refine (len_is q o2 10 5 2 _ 3 _ hP2'.out rfl).mono ?_
  rintro e w3 ⟨rfl, he⟩; obtain rfl := he.symm; clear he
  go_wp2_with fail
  refine (close_is q o2 10 5 2 15 _ 2 _ hP2'.out runs_end (by simp)).mono ?_
  rintro e w3 ⟨u, rfl, hu, hP3, hch⟩
  have hlt2 := hP2'.out.lt
  have hu3 : Hid (RdR w3 u [⟨0, 1, 1, 3, 1⟩, ⟨5, 1, 2, 7, 3⟩]) := rdr_own hu
  have hP3' : Hid (Pan w3 q o2 10 5 2 [⟨10, 1, 1, 4, 2⟩]) := hP3
  have hb3 : Hid (Below q w w3) := hb2.out.trans (hch.below (Nat.le_refl _) hqo (by omega))
  have hq3 : q ≤ w3.heap.size := by have := hP3.lt; omega
  clear hu hP3 hch hP2' hb2 hlt2
  go_wp2_with fail
  refine (same_r u _ [⟨0, 1, 1, 3, 1⟩, ⟨5, 1, 2, 7, 3⟩] _ (hu3.out.below (below_alloc _ _)) (rdr_lit w3 [⟨0, 1, 1, 3, 1⟩, ⟨5, 1, 2, 7, 3⟩] (by simp))).mono ?_
  rintro e w4 ⟨rfl, hb4⟩
  have hP4 : Hid (Pan w4 q o2 10 5 2 [⟨10, 1, 1, 4, 2⟩]) := (hP3'.out.below (below_alloc _ _)).below hb4
  have hb4' : Hid (Below q w w4) := (hb3.out.alloc hq3 _).trans (hb4.mono (by simp; omega))
  have hq4 : q ≤ w4.heap.size := by have := hP4.out.lt; omega
  clear hb4 hP3' hb3 hu3 hq3
  go_wp2_with fail
  refine (open_is q o2 10 5 2 _ _ hP4.out (by simp)).mono ?_
  rintro e w5 ⟨u2, rfl, hu2, hb5⟩
  have hu5 : Hid (RdR w5 u2 [⟨10, 1, 1, 4, 2⟩]) := rdr_own hu2
  have hb5' : Hid (Below q w w5) := hb4'.out.trans (hb5.mono hq4)
  have hq5 : q ≤ w5.heap.size := by have := hb5.size; omega
  clear hu2 hb5 hP4 hb4' hq4
  go_wp2_with fail
  refine (same_r u2 _ [⟨10, 1, 1, 4, 2⟩] _ (hu5.out.below (below_alloc _ _)) (rdr_lit w5 [⟨10, 1, 1, 4, 2⟩] (by simp))).mono ?_
  rintro e w6 ⟨rfl, hb6⟩
  have hb6' : Hid (Below q w w6) := (hb5'.out.alloc hq5 _).trans (hb6.mono (by simp; omega))
  clear hb6 hb5' hu5
  go_wp2_with fail
  go_ret
  exact ⟨rfl, by rw [hq.out]; exact hb6'.out⟩
theorem panesRuns_walk0 (w : World) : Calls Try.prog 24 #[] w fun e w' => e = .returned (.bool true) ∧ Below w.heap.size w w' := pruns_is w
end Go.Proofs.Ytombgbdplafooaa
