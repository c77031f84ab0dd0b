/- The closed sentence EventRuns, for every memory. -/
import Derived.Test.YtakemkfnaebmiaaComp
import Derived.Test.YtakemkfnaebmiaaFold
namespace Go.Proofs.Ytakemkfnaebmiaa
open Go.RowKit M

theorem compare_of (t1 k1 v1 : Int) (l1 : Nat) (t2 k2 v2 : Int) (l2 : Nat) (w : World) :
    Calls Try.prog 7 #[.agg #[.int .i64 t1, .int .i64 k1, .int .i64 v1, .int .u64 l1], .agg #[.int .i64 t2, .int .i64 k2, .int .i64 v2, .int .u64 l2]] w fun e w' => e = .returned (.int .i64 (cmpE ⟨t1, k1, v1, l1⟩ ⟨t2, k2, v2, l2⟩)) ∧ Below w.heap.size w w' := compare_any ⟨t1, k1, v1, l1⟩ ⟨t2, k2, v2, l2⟩ w
theorem compare_is (a b : Ev) (w : World) (p : Int) (hp : cmpE a b = p) :
    Calls Try.prog 7 #[.agg #[.int .i64 a.t, .int .i64 a.k, .int .i64 a.v, .int .u64 a.l], .agg #[.int .i64 b.t, .int .i64 b.k, .int .i64 b.v, .int .u64 b.l]] w fun e w' => e = .returned (.int .i64 p) ∧ Below w.heap.size w w' := by
  subst hp; exact compare_any a b w
theorem rd_none (w : World) : RdE w (.slice none 0 0) [] := ⟨by simp, by simp, none, 0, rfl, by simp, by simp, by simp⟩

theorem rd_two (w : World) (a b : Ev) (ha : a.l < 18446744073709551616) (hb : b.l < 18446744073709551616) :
    RdE (w.alloc (.cells #[.int .i64 a.t, .int .i64 a.k, .int .i64 a.v, .int .u64 a.l, .int .i64 b.t, .int .i64 b.k, .int .i64 b.v, .int .u64 b.l] 24)) (.slice (some ⟨w.heap.size, 0, none⟩) 2 2) [a, b] := by
  refine ⟨by simp, by simp [ha, hb], _, 2, rfl, by simp, by simp, fun _ => ⟨_, 0, rfl, by simp, fun j hj => ?_⟩⟩
  match j, hj with
  | 0, _ => exact ⟨new_cell rfl rfl, new_cell rfl rfl, new_cell rfl rfl, new_cell rfl rfl⟩
  | 1, _ => exact ⟨new_cell rfl rfl, new_cell rfl rfl, new_cell rfl rfl, new_cell rfl rfl⟩
set_option maxHeartbeats 400000 in
theorem runs_any (w : World) :
    Calls Try.prog 3 #[] w fun e w' => e = .returned (.bool true) ∧ Below w.heap.size w w' := by
  go_enter Try.func3, Try.ntmps3
  go_wp2_with fail
  refine (compare_is ⟨1, 2, 3, 0⟩ ⟨1, 2, 4, 0⟩ _ (-1) (by decide)).mono ?_
  rintro e w1 ⟨rfl, b1⟩
  have t1 : Below w.heap.size w w1 := ((below_alloc w _).alloc (by simp) _).trans (b1.mono (by simp; omega))
  clear b1
  go_wp2_with fail
  refine (latest_any _ [⟨4, 0, 0, 0⟩, ⟨9, 0, 0, 0⟩] _ 9 (rd_two w1 ⟨4, 0, 0, 0⟩ ⟨9, 0, 0, 0⟩ (by decide) (by decide)) (by decide)).mono ?_
  rintro e w2 ⟨rfl, b2⟩
  have t2 : Below w.heap.size w w2 := (t1.alloc t1.size _).trans (b2.mono (Nat.le_trans t1.size (by simp)))
  clear b2 t1
  go_wp2_with fail
  refine (latest_any _ [] _ (-1) (rd_none w2) rfl).mono ?_
  rintro e w3 ⟨rfl, b3⟩
  have t3 : Below w.heap.size w w3 := t2.trans (b3.mono t2.size)
  clear b3 t2
  go_wp2_with fail
  refine (labels_any _ [] _ 0 (rd_none w3) rfl).mono ?_
  rintro e w4 ⟨rfl, b4⟩
  have t4 : Below w.heap.size w w4 := t3.trans (b4.mono t3.size)
  clear b4 t3
  go_wp2
  go_ret
  exact ⟨rfl, t4⟩
theorem eventRuns_walk (w : World) :
    Calls Try.prog 3 #[] w fun e w' => e = .returned (.bool true) ∧ Below w.heap.size w w' := runs_any w
end Go.Proofs.Ytakemkfnaebmiaa
