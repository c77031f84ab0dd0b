/- AggTally, walked: of any numbers it returns true, and nothing that was there is written. -/
import Derived.Test.YtbopojolmmnokaaRuns
import Derived.Deep.Cut
namespace Go.Proofs.Ytbopojolmmnokaa
open Go.RowKit M
set_option linter.unusedVariables false

/-- The block of a Tally alone. -/
def Tk (w : World) (b : Nat) (c : Int) : Prop := w.heap[b]? = some (.cells #[.int .i64 c] 23 (0, 0))
theorem Tk.c0 {w : World} {b : Nat} {c : Int} (h : Tk w b c) : w.cell? ⟨b, 0, none⟩ = some (.int .i64 c) := by
  unfold Tk at h; simp [World.cell?, h]
theorem Tk.free {w : World} {b : Nat} {c : Int} (h : Tk w b c) (i : Nat) : w.frozen? ⟨b, i, none⟩ = false := by
  unfold Tk at h; simp [World.frozen?, h]
theorem tk_make (w : World) (c : Int) : Tk (w.alloc (.cells #[.int .i64 c] 23)) w.heap.size c := by
  show (w.heap.push _)[w.heap.size]? = _
  simp
theorem Tk.set {w : World} {b : Nat} {c : Int} (h : Tk w b c) (x : Int) : Tk (w.setCell ⟨b, 0, none⟩ (.int .i64 x)) b x := by
  unfold Tk at *; simp [World.setCell, Array.getElem?_modify, h]

set_option maxHeartbeats 1000000 in
set_option maxRecDepth 100000 in
theorem tally_core (n m : Int) (w : World) : Calls Try.prog 6 #[.int .i64 n, .int .i64 m] w fun e w' => e = .returned (.bool true) ∧ Below w.heap.size w w' := by
  go_enter Try.func6, Try.ntmps6
  go_wp2_with fail
  refine (new_any 2 _).mono ?_
  rintro e w1 ⟨rfl, b1⟩
  go_upto_region 2 with fail
  have hs := b1.size
  refine world_gen (fun W => Agk W w1.heap.size 0 2 0 ∧ Below w.heap.size w W) ⟨agk_make w1 0 2 0, b1.alloc hs _⟩ ?_
  clear b1
  generalize w1.heap.size = g at *
  rintro W ⟨ha, hb⟩
  go_wp2_with fail
  refine (within_any n 0 1099511627776 _ (by decide) (by decide) (by decide)).mono ?_
  rintro e w' ⟨⟨x, hx0, hx1, rfl⟩, he⟩; obtain rfl := he.symm; clear he
  go_wp2_with fail
  refine (within_any m 0 1099511627776 _ (by decide) (by decide) (by decide)).mono ?_
  rintro e w' ⟨⟨y, hy0, hy1, rfl⟩, he⟩; obtain rfl := he.symm; clear he
  go_wp2_with fail
  refine (tick_any g 0 x x _ ha.c0 (ha.free 0) (by rw [Int.zero_add, wrap_in _ (by omega)])).mono ?_
  rintro e W1 ⟨rfl, he⟩
  have ha1 : Agk W1 g x 2 0 := by rw [he]; exact ha.set0 x
  have hb1 : Below w.heap.size w W1 := by rw [he]; exact hb.setCell hs _
  clear he ha hb
  have c0 := ha1.c0
  go_upto_region 5 with fail
  have hgl := ha1.lt
  refine world_gen (fun W => Agk W g x 2 0 ∧ Tk W W1.heap.size x ∧ Below w.heap.size w W) ⟨ha1.below (below_alloc _ _) hgl, tk_make _ _, hb1.alloc hb1.size _⟩ ?_
  clear ha1 hb1 c0
  generalize W1.heap.size = h at *
  rintro W2 ⟨ha, ht, hb⟩
  go_wp2_with fail
  refine (tick_any h x y (x + y) _ ht.c0 (ht.free 0) (wrap_in _ (by omega))).mono ?_
  rintro e W3 ⟨rfl, he⟩
  have ha1 : Agk W3 g x 2 0 := by rw [he]; exact (Below.heap_setCell _ _ _ _ (show g ≠ h by omega)).trans ha
  have ht1 : Tk W3 h (x + y) := by rw [he]; exact ht.set _
  have hb1 : Below w.heap.size w W3 := by rw [he]; exact hb.setCell (show w.heap.size ≤ h by omega) _
  clear he ha ht hb
  have c0 := ha1.c0
  have c2 := ha1.c2
  have d0 := ht1.c0
  go_wp2_with fail
  refine (runs_any _).mono ?_
  rintro e W4 ⟨rfl, b4⟩
  go_wp2_with fail
  go_ret
  exact ⟨rfl, keep_call hb1 b4 hb1.size⟩
theorem aggTally_walk (n m : Int) (w : World) (_ : (Lit.int .i64 n).wf = true) (_ : (Lit.int .i64 m).wf = true) :
    Calls Try.prog 6 #[.int .i64 n, .int .i64 m] w fun e w' => e = .returned (.bool true) ∧ Below w.heap.size w w' := tally_core n m w
end Go.Proofs.Ytbopojolmmnokaa
