/- The closed sentence WindowRuns, for every memory. -/
import Derived.Test.YtfhfbiodpjpfjaaStarts
import Derived.Test.YtfhfbiodpjpfjaaLast
namespace Go.Proofs.Ytfhfbiodpjpfjaa
open Go.RowKit M
set_option linter.unusedVariables false

set_option maxHeartbeats 400000 in
set_option maxRecDepth 100000 in
theorem runs_any (w : World) :
    Calls Try.prog 3 #[] w fun e w' => e = .returned (.bool true) ∧ Below w.heap.size w w' := by
  go_enter Try.func3, Try.ntmps3
  go_wp2_with fail
  refine (starts_any 7 10 5 _).mono ?_
  rintro e w1 ⟨u, rfl, hu, b1⟩
  have hu1 := hu.below (below_alloc w1 (.cells #[.int .i64 0, .int .i64 5] 3)) (Nat.le_refl _)
  clear hu
  go_wp2_with fail
  refine (same_i _ _ _ [0, 5] _ true hu1 (rd_lit (e := 3) w1 [0, 5] (by simp)) (by decide +kernel)).mono ?_
  rintro e w2 ⟨rfl, b2⟩
  have t2 : Below w.heap.size w w2 := (b1.alloc b1.size _).trans (b2.mono (Nat.le_trans b1.size (by simp)))
  clear b1 b2 hu1
  go_wp2_with fail
  refine (starts_any 12 10 5 _).mono ?_
  rintro e w3 ⟨u, rfl, hu, b3⟩
  have t3 := t2.trans (b3.mono t2.size)
  have hu1 := hu.below (below_alloc w3 (.cells #[.int .i64 5, .int .i64 10] 3)) (Nat.le_refl _)
  clear hu b3 t2
  go_wp2_with fail
  refine (same_i _ _ _ [5, 10] _ true hu1 (rd_lit (e := 3) w3 [5, 10] (by simp)) (by decide +kernel)).mono ?_
  rintro e w4 ⟨rfl, b4⟩
  have t4 : Below w.heap.size w w4 := (t3.alloc t3.size _).trans (b4.mono (Nat.le_trans t3.size (by simp)))
  clear t3 b4 hu1
  go_wp2_with fail
  refine (starts_any 3 4 4 _).mono ?_
  rintro e w5 ⟨u, rfl, hu, b5⟩
  have t5 := t4.trans (b5.mono t4.size)
  have hu1 := hu.below (below_alloc w5 (.cells #[.int .i64 0] 3)) (Nat.le_refl _)
  clear hu b5 t4
  go_wp2_with fail
  refine (same_i _ _ _ [0] _ true hu1 (rd_lit (e := 3) w5 [0] (by simp)) (by decide +kernel)).mono ?_
  rintro e w6 ⟨rfl, b6⟩
  have t6 : Below w.heap.size w w6 := (t5.alloc t5.size _).trans (b6.mono (Nat.le_trans t5.size (by simp)))
  clear t5 b6 hu1
  go_wp2_with fail
  refine (panes_is 10 4 3 _ (by decide +kernel)).mono ?_
  rintro e w' ⟨rfl, he⟩; obtain rfl := he.symm; clear he
  go_wp2_with fail
  refine (last_is 5 _ [] 0 _ (rd_nil _ _) (by decide) (by simp) rfl).mono ?_
  rintro e w' ⟨rfl, he⟩; obtain rfl := he.symm; clear he
  go_wp2_with fail
  refine (last_is 5 _ [3, 1] 8 _ (rd_lit (e := 3) w6 [3, 1] (by simp)) (by decide) (by decide) (by decide +kernel)).mono ?_
  rintro e w' ⟨rfl, he⟩; obtain rfl := he.symm; clear he
  go_wp2_with fail
  go_ret
  exact ⟨rfl, t6.alloc t6.size _⟩
theorem windowRuns_walk (w : World) :
    Calls Try.prog 3 #[] w fun e w' => e = .returned (.bool true) ∧ Below w.heap.size w w' := runs_any w
end Go.Proofs.Ytfhfbiodpjpfjaa
