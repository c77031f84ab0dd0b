/- ClockRuns walked. -/
import Derived.Test.YtgpjjkfgobjfcaaLeaf
namespace Go.Proofs.Ytgpjjkfgobjfcaa
open Go.RowKit

/-- One more call behind what is kept. -/
theorem keep_call {B : Nat} {a w w' : World} (h : Below B a w) (b : Below w.heap.size w w') (hB : B ≤ w.heap.size) : Below B a w' := h.trans (b.mono hB)

set_option maxRecDepth 100000 in
theorem clockRuns_walk (w : World) : Calls Try.prog 3 #[] w fun e w' => e = .returned (.bool true) ∧ Below w.heap.size w w' := by
  have hn := clk_new w
  have hb := (Below.refl w.heap.size w).alloc (Nat.le_refl _) (.cells #[.int .i64 0, .int .i64 0, .int .i64 0] 23)
  go_enter Try.func3, Try.ntmps3
  go_wp2_with fail
  refine (advance_any _ _ _ _ _ _ hn true 5 (.inl ⟨by decide, rfl, rfl⟩)).mono ?_
  rintro e w1 ⟨rfl, k1, b1⟩
  have h1 := hb.trans b1.below
  clear hn hb b1
  go_wp2_with fail
  refine (on_any _ _ _ _ _ _ k1 false 1 1 (.inl ⟨by decide, .inl ⟨by decide, rfl, rfl, rfl⟩⟩) (by decide) (by decide)).mono ?_
  rintro e w2 ⟨rfl, k2, b2⟩
  have h2 := h1.trans b2.below
  clear k1 h1 b2
  go_wp2_with fail
  refine (on_any _ _ _ _ _ _ k2 true 1 2 (.inl ⟨by decide, .inr ⟨by decide, rfl, rfl, rfl⟩⟩) (by decide) (by decide)).mono ?_
  rintro e w3 ⟨rfl, k3, b3⟩
  have h3 := h2.trans b3.below
  clear k2 h2 b3
  go_wp2_with fail
  refine (advance_any _ _ _ _ _ _ k3 false 5 (.inr ⟨by decide, rfl, rfl⟩)).mono ?_
  rintro e w4 ⟨rfl, k4, b4⟩
  have h4 := h3.trans b4.below
  clear k3 h3 b4
  have c0 := k4.c0
  have c1 := k4.c1
  have c2 := k4.c2
  go_wp2_with fail
  refine (late_any _ _ _ _).mono ?_
  rintro e w5 ⟨rfl, b5⟩
  have k5 := k4.below b5 k4.lt
  have h5 := keep_call h4 b5 (Nat.le_of_lt k4.lt)
  clear c0 c1 c2 k4 h4 b5
  have c0 := k5.c0
  have c1 := k5.c1
  have c2 := k5.c2
  go_wp2_with fail
  refine (seen_any _ _ _ _).mono ?_
  rintro e w6 ⟨rfl, b6⟩
  have k6 := k5.below b6 k5.lt
  have h6 := keep_call h5 b6 (Nat.le_of_lt k5.lt)
  clear c0 c1 c2 k5 h5 b6
  have c0 := k6.c0
  have c1 := k6.c1
  have c2 := k6.c2
  go_wp2_with fail
  refine (mark_any _ _ _ _).mono ?_
  rintro e w7 ⟨rfl, b7⟩
  have h7 := keep_call h6 b7 (Nat.le_of_lt k6.lt)
  clear c0 c1 c2 k6 h6 b7
  go_wp2
  go_ret
  exact ⟨rfl, h7⟩
end Go.Proofs.Ytgpjjkfgobjfcaa
