/- RunnerRuns, walked. -/
import Derived.Test.YtombgbdplafooaaRTwin
namespace Go.Proofs.Ytombgbdplafooaa
open Go.RowKit M
open O (RdO)
open O.MO (Oq Pq rightP)
set_option linter.unusedVariables false
set_option linter.unusedSimpArgs false
attribute [local go_sem ↓] Go.wp_at_zero Go.wp_at_succ

def runsP : Pq := ⟨[⟨2, 2⟩], 10, 10, 2, -1, -1⟩
def runsI : List Inp := [⟨false, ⟨3, 0, 5, 1⟩⟩, ⟨false, ⟨12, 0, 1, 1⟩⟩, ⟨true, ⟨10, 0, 0, 0⟩⟩, ⟨false, ⟨4, 0, 9, 1⟩⟩, ⟨true, ⟨20, 0, 0, 0⟩⟩]
theorem runs_right : rightP runsP = true := by kernel_rfl
theorem runs_rows : rowsR runsP ⟨0, 0, 0, []⟩ runsI = [⟨0, 0, 1, 10, 1⟩, ⟨10, 0, 1, 2, 1⟩] := by kernel_rfl
theorem runs_st : stR runsP ⟨0, 0, 0, []⟩ runsI = ⟨20, 1, 3, []⟩ := by kernel_rfl
theorem Rnr.cells {w : World} {b q o g : Nat} {p : Pq} {r : Rs} (h : Rnr w b q o g p r) : w.cell? ⟨b, 0, none⟩ = some (.int .i64 r.m) ∧ w.cell? ⟨b, 1, none⟩ = some (.int .i64 r.l) ∧ w.cell? ⟨b, 2, none⟩ = some (.int .i64 r.s) ∧ w.cell? ⟨b, 3, none⟩ = some (.pointer (some ⟨q, 0, none⟩)) := by
  obtain ⟨u, h1, _⟩ := h
  exact ⟨h1.c0, h1.c1, h1.c2, h1.c3⟩
theorem Rnr.pan {w : World} {b q o g : Nat} {p : Pq} {r : Rs} (h : Rnr w b q o g p r) : Pan w q o p.n p.s p.a r.L := by
  obtain ⟨u, h1, h2, _⟩ := h
  exact h2
set_option maxHeartbeats 2000000 in
set_option maxRecDepth 100000 in
theorem runs_is (w : World) : Calls Try.prog 38 #[] w fun e w' => e = .returned (.bool true) ∧ Below w.heap.size w w' := by
  go_enter Try.func38, Try.ntmps38
  go_wp2_with fail
  refine (new_is (.slice (some ⟨w.heap.size, 0, none⟩) 1 1) runsP _ (ops_lit1 w 2 2 (by decide)) runs_right (by decide)).mono ?_
  rintro e W1 ⟨b, q, o, g, rfl, hR, hb, hq, ho, hg, hB⟩
  have hR1 : Hid (Rnr W1 b q o g runsP ⟨0, 0, 0, []⟩) := hR
  have hz : w.heap.size + 1 ≤ b ∧ w.heap.size + 1 ≤ q ∧ w.heap.size + 1 ≤ o := by simp at hb hq ho; omega
  have hB1 : Hid (Below w.heap.size w W1) := (below_alloc w (.cells #[.int .i64 2, .int .i64 2] 120)).trans (hB.mono (by simp))
  clear hb hq ho hg hB
  obtain ⟨c0, c1, c2, c3⟩ := hR.cells
  clear hR
  go_wp2_with fail
  clear c0 c1 c2 c3
  refine (at_in 3 5 _).mono ?_
  rintro e W2 ⟨rfl, b2⟩
  go_wp2_with fail
  refine (at_in 12 1 _).mono ?_
  rintro e W3 ⟨rfl, b3⟩
  go_wp2_with fail
  refine (mark_in 10 _).mono ?_
  rintro e W4 ⟨rfl, b4⟩
  go_wp2_with fail
  refine (at_in 4 9 _).mono ?_
  rintro e W5 ⟨rfl, b5⟩
  go_wp2_with fail
  refine (mark_in 20 _).mono ?_
  rintro e W6 ⟨rfl, b6⟩
  have hR6 : Hid (Rnr W6 b q o g runsP ⟨0, 0, 0, []⟩) := ((((hR1.out.below b2).below b3).below b4).below b5).below b6
  have hz6 : Hid (w.heap.size ≤ W1.heap.size ∧ W1.heap.size ≤ W6.heap.size) := by
    have h : w.heap.size ≤ W1.heap.size ∧ W1.heap.size ≤ W6.heap.size := by have := b2.size; have := b3.size; have := b4.size; have := b5.size; have := b6.size; have := hB1.out.size; omega
    exact h
  have hB6 : Hid (Below w.heap.size w W6) := by
    have h : Below W1.heap.size W1 W6 := below_call (below_call (below_call (below_call b2 b3) b4) b5) b6
    have h2 : Below w.heap.size w W6 := hB1.out.trans (h.mono hz6.out.1)
    exact h2
  clear hR1 b2 b3 b4 b5 b6 hB1
  go_wp2_with fail
  have hI : Hid (RdI (W6.alloc (.cells (ins runsI).toArray 71)) (.slice (some ⟨W6.heap.size, 0, none⟩) 5 5) W6.heap.size runsI) := rdi_lit W6 runsI (by decide) (by decide)
  obtain ⟨hl1, hl2, hl3, hl4⟩ := hR6.out.lt
  refine (rtake_is b q o g runsP ⟨0, 0, 0, []⟩ _ W6.heap.size runsI _ (hR6.out.below (below_alloc _ _)) hI.out (by omega) (by omega) (by omega) (by decide) (by decide) (by decide)).mono ?_
  rintro e W7 ⟨u, o2, rfl, hu, hR7, ho2, hc7⟩
  rw [runs_rows] at hu
  rw [runs_st] at hR7
  have hu7 : Hid (RdR W7 u [⟨0, 0, 1, 10, 1⟩, ⟨10, 0, 1, 2, 1⟩]) := rdr_own hu
  have hR7' : Hid (Rnr W7 b q o2 g runsP ⟨20, 1, 3, []⟩) := hR7
  have hw6 : w.heap.size ≤ W6.heap.size := by have := hz6.out; omega
  have hB7 : Hid (Below w.heap.size w W7) := (hB6.out.alloc hw6 _).trans (hc7.below (by omega) (by omega) (by omega) (by simp; omega))
  clear hu hR7 hc7 ho2 hI hR6 hB6 hl1 hl2 hl3 hl4 hz6 hw6
  obtain ⟨c0, c1, c2, c3⟩ := hR7'.out.cells
  simp only at c0 c1 c2 c3
  have hw7 : w.heap.size ≤ W7.heap.size := hB7.out.size
  go_wp2_with fail
  refine (same_r u _ [⟨0, 0, 1, 10, 1⟩, ⟨10, 0, 1, 2, 1⟩] _ (hu7.out.below (below_alloc _ _)) (rdr_lit W7 [⟨0, 0, 1, 10, 1⟩, ⟨10, 0, 1, 2, 1⟩] (by decide))).mono ?_
  rintro e W8 ⟨rfl, b8⟩
  have hR8 : Hid (Rnr W8 b q o2 g runsP ⟨20, 1, 3, []⟩) := (hR7'.out.below (below_alloc _ _)).below b8
  have hB8 : Hid (Below w.heap.size w W8) := (hB7.out.alloc hw7 _).trans (b8.mono (by simp; omega))
  clear b8 hR7' hB7 hu7 hw7 c0 c1 c2 c3
  obtain ⟨c0, c1, c2, c3⟩ := hR8.out.cells
  simp only at c0 c1 c2 c3
  go_wp2_with fail
  refine (late_is 20 1 3 _).mono ?_
  rintro e W9 ⟨rfl, b9⟩
  have hR9 : Hid (Rnr W9 b q o2 g runsP ⟨20, 1, 3, []⟩) := hR8.out.below b9
  have hB9 : Hid (Below w.heap.size w W9) := hB8.out.trans (b9.mono hB8.out.size)
  clear b9 hR8 hB8 c0 c1 c2 c3
  obtain ⟨c0, c1, c2, c3⟩ := hR9.out.cells
  simp only at c0 c1 c2 c3
  go_wp2_with fail
  refine (seen_is 20 1 3 _).mono ?_
  rintro e W10 ⟨rfl, b9⟩
  have hR10 : Hid (Rnr W10 b q o2 g runsP ⟨20, 1, 3, []⟩) := hR9.out.below b9
  have hB10 : Hid (Below w.heap.size w W10) := hB9.out.trans (b9.mono hB9.out.size)
  clear b9 hR9 hB9 c0 c1 c2 c3
  obtain ⟨c0, c1, c2, c3⟩ := hR10.out.cells
  simp only at c0 c1 c2 c3
  go_wp2_with fail
  refine (mark_is 20 1 3 _).mono ?_
  rintro e W11 ⟨rfl, b9⟩
  have hR11 : Hid (Rnr W11 b q o2 g runsP ⟨20, 1, 3, []⟩) := hR10.out.below b9
  have hB11 : Hid (Below w.heap.size w W11) := hB10.out.trans (b9.mono hB10.out.size)
  clear b9 hR10 hB10 c0 c1 c2 c3
  obtain ⟨c0, c1, c2, c3⟩ := hR11.out.cells
  simp only at c0 c1 c2 c3
  go_wp2_with fail
  refine (len_is q o2 runsP.n runsP.s runsP.a [] 0 _ hR11.out.pan rfl).mono ?_
  rintro e W12 ⟨rfl, he⟩; obtain rfl := he.symm; clear he
  go_wp2_with fail
  go_ret
  exact ⟨rfl, hB11.out⟩
theorem runnerRuns_walk (w : World) : Calls Try.prog 38 #[] w fun e w' => e = .returned (.bool true) ∧ Below w.heap.size w w' := runs_is w
end Go.Proofs.Ytombgbdplafooaa
