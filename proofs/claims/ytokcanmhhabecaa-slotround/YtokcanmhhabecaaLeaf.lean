/- slot.Ticks; cordonbook.Within; small lemmas of every walk. -/
import Derived.Test.YtokcanmhhabecaaRows
import Derived.Test.YtokcanmhhabecaaMath
import Derived.WalkKit
import Derived.WalkSpells
import Derived.WalkLawsBesides
import Derived.Below
namespace Go.Proofs.Ytokcanmhhabecaa
open Go.RowKit M
set_option linter.unusedVariables false

theorem ret_int {k : IntKind} {a b : Int} (h : a = b) : Ending.returned (.int k a) = .returned (.int k b) := by rw [h]
theorem ret_bool {a b : Bool} (h : a = b) : Ending.returned (.bool a) = .returned (.bool b) := by rw [h]
theorem val_int {k : IntKind} {a b : Int} (h : a = b) : Value.int k a = .int k b := by rw [h]
theorem world_gen {P : Program} {c : Code} {Q : Exit → Act → World → Prop} {a : Act} {W : World} (R : World → Prop) (h : R W) (k : ∀ W2, R W2 → c.wp P Q a W2) : c.wp P Q a W := k W h
theorem keep_call {B : Nat} {w w1 w2 : World} (h : Below B w w1) (h2 : Below w1.heap.size w1 w2) (hB : B ≤ w1.heap.size) : Below B w w2 := h.trans (h2.mono hB)

/-- cordonbook.Within. -/
theorem within_any (n lo hi : Int) (w : World) (hlo : -1000 ≤ lo) (h : lo ≤ hi) (h1 : hi ≤ 4611686018427387904) :
    Calls Try.prog 13 #[.int .i64 n, .int .i64 lo, .int .i64 hi] w fun e w' => (∃ k : Int, lo ≤ k ∧ k ≤ hi ∧ e = .returned (.int .i64 k)) ∧ w' = w := by
  have hb1 : -(hi - lo + 1) < n.tmod (hi - lo + 1) := Int.lt_tmod_of_pos _ (by omega)
  have hb2 : n.tmod (hi - lo + 1) < hi - lo + 1 := Int.tmod_lt_of_pos _ (by omega)
  by_cases hn : n.tmod (hi - lo + 1) < 0
  · go_enter Try.func13, Try.ntmps13
    go_wp2
    go_ret
    exact ⟨⟨lo + (n.tmod (hi - lo + 1) + hi - lo + 1), by omega, by omega, rfl⟩, rfl⟩
  · have hn' : 0 ≤ n.tmod (hi - lo + 1) := by omega
    go_enter Try.func13, Try.ntmps13
    go_wp2
    go_ret
    exact ⟨⟨lo + n.tmod (hi - lo + 1), by omega, by omega, rfl⟩, rfl⟩
/-- slot.Ticks. -/
theorem ticks_is (n b p : Int) (w : World) (h0 : -1000000 ≤ n) (h1 : n ≤ 1000000) (h2 : -1000000 ≤ b) (h3 : b ≤ 1000000) (hp : tk n b = p) :
    Calls Try.prog 10 #[.int .i64 n, .int .i64 b] w fun e w' => e = .returned (.int .i64 p) ∧ w' = w := by
  have hp' : Hid (tk n b = p) := hp
  clear hp
  by_cases c1 : n ≤ 0
  · go_enter Try.func10, Try.ntmps10
    go_wp2
    go_ret
    exact ⟨ret_int (by rw [← hp'.out, tk_none c1]), rfl⟩
  · by_cases c2 : b ≤ 0
    · go_enter Try.func10, Try.ntmps10
      go_wp2
      go_ret
      exact ⟨ret_int (by rw [← hp'.out, tk_never (by omega) c2]), rfl⟩
    · have q0 : 0 ≤ (n - 1) / b := Int.ediv_nonneg (by omega) (by omega)
      have q1 : (n - 1) / b ≤ n - 1 := Int.ediv_le_self _ (by omega)
      go_enter Try.func10, Try.ntmps10
      go_wp2
      go_ret
      exact ⟨ret_int (by rw [← hp'.out, tk_pos (by omega) (by omega)]), rfl⟩
end Go.Proofs.Ytokcanmhhabecaa
