/- QuotaRuns walked. -/
import Derived.Test.YtldfdgbbfdedkaaSpend
namespace Go.Proofs.Ytldfdgbbfdedkaa
open Go.RowKit M
set_option linter.unusedVariables false

theorem rd_one (w : World) (x : Int) : Rd .i64 (w.alloc (.cells #[.int .i64 x] 3)) (.slice (some ⟨w.heap.size, 0, none⟩) 1 1) [x] := rd_lit w [x] (by simp)
theorem rd_two (w : World) (x y : Int) : Rd .i64 (w.alloc (.cells #[.int .i64 x, .int .i64 y] 3)) (.slice (some ⟨w.heap.size, 0, none⟩) 2 2) [x, y] := rd_lit w [x, y] (by simp)
set_option maxHeartbeats 1000000 in
set_option maxRecDepth 100000 in
theorem quotaRuns_walk (w : World) : Calls Try.prog 3 #[] w fun e w' => e = .returned (.bool true) ∧ Below w.heap.size w w' := by
  go_enter Try.func3, Try.ntmps3
  go_wp2_with fail
  refine (of_any 5 5 _ (.inl ⟨by decide, rfl⟩)).mono ?_
  rintro e w0 ⟨rfl, b0⟩
  go_upto_region 2 with fail
  have hs0 := b0.size
  refine world_gen (fun W => Hid (Qt W w0.heap.size 5 0 0) ∧ Hid (Below w.heap.size w W)) ⟨qt_new w0 5 0 0, b0.alloc hs0 _⟩ ?_
  clear b0
  generalize w0.heap.size = g at hs0 ⊢
  rintro w1 ⟨q1, t1⟩
  have hg : Hid (g < w1.heap.size) := q1.out.lt
  have r2 := rd_two w1 2 1
  have q2 : Hid (Qt (w1.alloc (.cells #[.int .i64 2, .int .i64 1] 3)) g 5 0 0) := q1.out.call (below_alloc _ _)
  have t2 : Hid (Below w.heap.size w (w1.alloc (.cells #[.int .i64 2, .int .i64 1] 3))) := keep_call t1.out (below_alloc _ _) t1.out.size
  clear q1 t1
  go_wp2_with fail
  refine (spend_any g 5 0 0 _ [2, 1] _ q2.out r2 (by decide) (by decide) (by decide) (by decide) true 2 3 0 ⟨by decide, .inl ⟨rfl, rfl, rfl, rfl⟩⟩).mono ?_
  rintro e w3 ⟨rfl, k3, b3⟩
  have q3 : Hid (Qt w3 g 2 3 0) := k3
  have t3 : Hid (Below w.heap.size w w3) := keep_but t2.out b3 hs0
  clear r2 q2 t2 k3 b3 hg
  have r4 := rd_one w3 3
  have q4 : Hid (Qt (w3.alloc (.cells #[.int .i64 3] 3)) g 2 3 0) := q3.out.call (below_alloc _ _)
  have t4 : Hid (Below w.heap.size w (w3.alloc (.cells #[.int .i64 3] 3))) := keep_call t3.out (below_alloc _ _) t3.out.size
  clear q3 t3
  go_wp2_with fail
  refine (spend_any g 2 3 0 _ [3] _ q4.out r4 (by decide) (by decide) (by decide) (by decide) false 2 3 1 ⟨by decide, .inr ⟨rfl, rfl, rfl, rfl⟩⟩).mono ?_
  rintro e w5 ⟨rfl, k5, b5⟩
  have t5 := keep_but t4.out b5 hs0
  clear r4 q4 t4 b5
  have c0 := k5.c0
  have c1 := k5.c1
  have c2 := k5.c2
  go_wp2_with fail
  refine (left_any _ _ _ _).mono ?_
  rintro e w6 ⟨rfl, b6⟩
  have k6 := k5.call b6
  have t6 := keep_call t5 b6 t5.size
  clear c0 c1 c2 k5 t5 b6
  have c0 := k6.c0
  have c1 := k6.c1
  have c2 := k6.c2
  go_wp2_with fail
  refine (spent_any _ _ _ _).mono ?_
  rintro e w7 ⟨rfl, b7⟩
  have k7 := k6.call b7
  have t7 := keep_call t6 b7 t6.size
  clear c0 c1 c2 k6 t6 b7
  have c0 := k7.c0
  have c1 := k7.c1
  have c2 := k7.c2
  go_wp2_with fail
  refine (refused_any _ _ _ _).mono ?_
  rintro e w8 ⟨rfl, b8⟩
  have t8 := keep_call t7 b8 t7.size
  clear c0 c1 c2 k7 t7 b8
  go_wp2
  go_ret
  exact ⟨rfl, t8⟩
end Go.Proofs.Ytldfdgbbfdedkaa
