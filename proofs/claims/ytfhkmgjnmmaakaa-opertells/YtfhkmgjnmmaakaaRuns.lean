/- The closed sentence OperRuns, for every memory. -/
import Derived.Test.YtfhkmgjnmmaakaaFold
import Derived.Deep.Cut
import Derived.Deep.CutBlock
import Derived.Deep.DeepCutAuto
namespace Go.Proofs.Ytfhkmgjnmmaakaa
open Go.RowKit M

theorem world_gen {P : Program} {c : Code} {Q : Exit → Act → World → Prop} {a : Act} {W : World} (R : World → Prop) (h : R W) (k : ∀ W2, R W2 → c.wp P Q a W2) : c.wp P Q a W := k W h
theorem new_cell {w : World} {b j : Nat} {cs : Array Value} {T : TypeId} {v : Value} (hb : b = w.heap.size) (h : cs[j]? = some v) : (w.alloc (.cells cs T)).cell? ⟨b, j, none⟩ = some v := by
  subst hb; simp [h]
/-- Lists of operations, made in place. -/
theorem rd_1 (w : World) (c n : Int) (h : n ≤ 9223372036854775807) : RdO (w.alloc (.cells #[.int .i64 c, .int .i64 n] 28)) (.slice (some ⟨w.heap.size, 0, none⟩) 1 1) [⟨c, n⟩] := by
  refine ⟨by simp, by simp [h], _, 1, rfl, by simp, by simp, fun _ => ⟨_, 0, rfl, by simp, fun j hj => ?_⟩⟩
  match j, hj with
  | 0, _ => exact ⟨new_cell rfl rfl, new_cell rfl rfl⟩
theorem rd_2 (w : World) (c n c1 n1 : Int) (h : n ≤ 9223372036854775807) (h1 : n1 ≤ 9223372036854775807) : RdO (w.alloc (.cells #[.int .i64 c, .int .i64 n, .int .i64 c1, .int .i64 n1] 28)) (.slice (some ⟨w.heap.size, 0, none⟩) 2 2) [⟨c, n⟩, ⟨c1, n1⟩] := by
  refine ⟨by simp, by simp [h, h1], _, 2, rfl, by simp, by simp, fun _ => ⟨_, 0, rfl, by simp, fun j hj => ?_⟩⟩
  match j, hj with
  | 0, _ => exact ⟨new_cell rfl rfl, new_cell rfl rfl⟩
  | 1, _ => exact ⟨new_cell rfl rfl, new_cell rfl rfl⟩
theorem rd_3 (w : World) (c n c1 n1 c2 n2 : Int) (h : n ≤ 9223372036854775807) (h1 : n1 ≤ 9223372036854775807) (h2 : n2 ≤ 9223372036854775807) : RdO (w.alloc (.cells #[.int .i64 c, .int .i64 n, .int .i64 c1, .int .i64 n1, .int .i64 c2, .int .i64 n2] 28)) (.slice (some ⟨w.heap.size, 0, none⟩) 3 3) [⟨c, n⟩, ⟨c1, n1⟩, ⟨c2, n2⟩] := by
  refine ⟨by simp, by simp [h, h1, h2], _, 3, rfl, by simp, by simp, fun _ => ⟨_, 0, rfl, by simp, fun j hj => ?_⟩⟩
  match j, hj with
  | 0, _ => exact ⟨new_cell rfl rfl, new_cell rfl rfl⟩
  | 1, _ => exact ⟨new_cell rfl rfl, new_cell rfl rfl⟩
  | 2, _ => exact ⟨new_cell rfl rfl, new_cell rfl rfl⟩
theorem rd_4 (w : World) (c n c1 n1 c2 n2 c3 n3 : Int) (h : n ≤ 9223372036854775807) (h1 : n1 ≤ 9223372036854775807) (h2 : n2 ≤ 9223372036854775807) (h3 : n3 ≤ 9223372036854775807) : RdO (w.alloc (.cells #[.int .i64 c, .int .i64 n, .int .i64 c1, .int .i64 n1, .int .i64 c2, .int .i64 n2, .int .i64 c3, .int .i64 n3] 28)) (.slice (some ⟨w.heap.size, 0, none⟩) 4 4) [⟨c, n⟩, ⟨c1, n1⟩, ⟨c2, n2⟩, ⟨c3, n3⟩] := by
  refine ⟨by simp, by simp [h, h1, h2, h3], _, 4, rfl, by simp, by simp, fun _ => ⟨_, 0, rfl, by simp, fun j hj => ?_⟩⟩
  match j, hj with
  | 0, _ => exact ⟨new_cell rfl rfl, new_cell rfl rfl⟩
  | 1, _ => exact ⟨new_cell rfl rfl, new_cell rfl rfl⟩
  | 2, _ => exact ⟨new_cell rfl rfl, new_cell rfl rfl⟩
  | 3, _ => exact ⟨new_cell rfl rfl, new_cell rfl rfl⟩
theorem rd_none (w : World) : RdO w (.slice none 0 0) [] := ⟨by simp, by simp, none, 0, rfl, by simp, by simp, by simp⟩
/-- A literal, a call, a variable behind it: what is below stays. -/
theorem bstep {a w w1 : World} {o : Obj} (h : Below a.heap.size a w) (b : Below (w.alloc o).heap.size (w.alloc o) w1) : Below a.heap.size a w1 :=
  (h.alloc h.size o).trans (b.mono (Nat.le_trans h.size (by simp)))
theorem bcall {a w w1 : World} (h : Below a.heap.size a w) (b : Below w.heap.size w w1) : Below a.heap.size a w1 := h.trans (b.mono h.size)
theorem bnew {a w : World} (h : Below a.heap.size a w) (o : Obj) : Below a.heap.size a (w.alloc o) := h.alloc h.size o
theorem Evk.step {w w1 : World} {b : Nat} {e : Ev} {o : Obj} (h : Evk w b e) (hb : Below (w.alloc o).heap.size (w.alloc o) w1) : Evk w1 b e := (h.alloc o).below hb (Nat.lt_of_lt_of_le h.lt (by simp))
theorem Evk.call {w w1 : World} {b : Nat} {e : Ev} (h : Evk w b e) (hb : Below w.heap.size w w1) : Evk w1 b e := h.below hb h.lt

theorem runs_1 : run [⟨2, 3⟩, ⟨3, 5⟩, ⟨4, 20⟩] ⟨0, 0, 7, 0⟩ = (⟨0, 1, 21, 0⟩, true) := by simp [run, app, wrap64, rem0]
theorem runs_2 : run [⟨5, 7⟩] ⟨0, 0, 7, 0⟩ = (zeroE, false) := by simp [run, app]
theorem runs_3 : app ⟨3, 5⟩ ⟨0, 0, -1, 0⟩ = (⟨0, 4, -1, 0⟩, true) := by simp [app, rem0]
set_option maxHeartbeats 400000 in
set_option maxRecDepth 100000 in
theorem operRuns_walk (w : World) :
    Calls Try.prog 3 #[] w fun e w' => e = .returned (.bool true) ∧ Below w.heap.size w w' := by
  go_enter Try.func3, Try.ntmps3
  go_wp2_with fail
  refine (run_is 0 0 7 0 _ [⟨2, 3⟩, ⟨3, 5⟩, ⟨4, 20⟩] (⟨0, 1, 21, 0⟩, true) _ (rd_3 w 2 3 3 5 4 20 (by decide) (by decide) (by decide)) runs_1).mono ?_
  rintro e w1 ⟨rfl, b1⟩
  have h1 := bstep (Below.refl _ _) b1
  clear b1
  go_upto_region 2 with fail
  refine world_gen (fun W => Evk W w1.heap.size ⟨0, 1, 21, 0⟩ ∧ Below w.heap.size w W) ⟨evk_new _ _ _ _ _, bnew h1 _⟩ ?_
  clear h1
  rintro W ⟨k1, h1⟩
  generalize w1.heap.size = g at k1 ⊢
  go_wp2_with fail
  refine (run_is 0 0 7 0 _ [⟨5, 7⟩] (zeroE, false) _ (rd_1 W 5 7 (by decide)) runs_2).mono ?_
  rintro e w2 ⟨rfl, b2⟩
  have h2 := bstep h1 b2
  have k2 := k1.step b2
  clear b2 h1 k1
  go_upto_region 3 with fail
  refine world_gen (fun W => Evk W g ⟨0, 1, 21, 0⟩ ∧ Below w.heap.size w W) ⟨k2.alloc _, bnew h2 _⟩ ?_
  clear h2 k2
  rintro W2 ⟨k2, h2⟩
  generalize w2.heap.size = g2
  go_wp2_with fail
  refine (apply_is 3 5 0 0 (-1) 0 (⟨0, 4, -1, 0⟩, true) _ (by decide) runs_3).mono ?_
  rintro e w3 ⟨rfl, b3⟩
  have h3 := bcall h2 b3
  have k3 := k2.call b3
  clear b3 h2 k2
  go_upto_region 4 with fail
  refine world_gen (fun W => Evk W g ⟨0, 1, 21, 0⟩ ∧ Evk W w3.heap.size ⟨0, 4, -1, 0⟩ ∧ Below w.heap.size w W) ⟨k3.alloc _, evk_new _ _ _ _ _, bnew h3 _⟩ ?_
  clear h3 k3
  rintro W3 ⟨k3, k4, h3⟩
  generalize w3.heap.size = g3 at k4 ⊢
  have c0 := k3.c2
  have c1 := k3.c1
  have c2 := k4.c1
  go_wp2
  go_ret
  exact ⟨rfl, h3⟩
end Go.Proofs.Ytfhkmgjnmmaakaa
