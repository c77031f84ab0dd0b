/- What is left behind each tick: plain mathematics; nothing of the program. -/
import Derived.Test.YtokcanmhhabecaaMathS
namespace Go.Proofs.Ytokcanmhhabecaa.M
open Go.RowKit
set_option linter.unusedVariables false

theorem sv_set {b : Int} {zs : List Int} {t : Nat} {x : Int} (ht : t < zs.length) : sv b (t : Int) (zs.set t x) = max 0 (min b x) := by
  unfold sv
  rw [Int.toNat_natCast, List.length_set, if_pos (by omega)]
  congr 2
  simp [List.getD_eq_getElem?_getD, ht]
/-- What is left of n behind k ticks at b each. -/
def lf (n b : Int) (k : Nat) : Int := max 0 (n - b * k)
theorem lf_zero {n : Int} (b : Int) (h : 0 ≤ n) : lf n b 0 = n := by unfold lf; simp; omega
theorem lf_next {n b : Int} (k : Nat) (hb : 0 < b) (h : 0 < lf n b k) : lf n b (k + 1) = lf n b k - min b (lf n b k) := by
  unfold lf at *
  have : b * ((k + 1 : Nat) : Int) = b * k + b := by rw [Int.natCast_succ, Int.mul_add, Int.mul_one]
  omega
theorem lf_bd {n b : Int} (k : Nat) (hb : 0 < b) (hn : 0 ≤ n) : 0 ≤ lf n b k ∧ lf n b k ≤ n ∧ (0 < lf n b k → (k : Int) < n) := by
  unfold lf
  have h1 : (k : Int) ≤ b * k := by
    have := Int.mul_le_mul_of_nonneg_right (show (1 : Int) ≤ b by omega) (show (0 : Int) ≤ k by omega)
    omega
  omega
/-- So many ticks till nothing is left. -/
theorem tk_of {n b : Int} (k : Nat) (hb : 0 < b) (hn : 0 ≤ n) (h : lf n b k = 0) (h1 : k = 0 ∨ 0 < lf n b (k - 1)) : tk n b = k := by
  by_cases h0 : n ≤ 0
  · rw [tk_none h0]
    rcases h1 with rfl | h1
    · rfl
    · have := (lf_bd (n := n) (k - 1) hb hn).2.2 h1; omega
  · rw [tk_pos (by omega) hb]
    rcases h1 with rfl | h1
    · rw [lf_zero b hn] at h; omega
    · by_cases hk : k = 0
      · subst hk; rw [lf_zero b hn] at h; omega
      · obtain ⟨j, rfl⟩ : ∃ j, k = j + 1 := ⟨k - 1, by omega⟩
        rw [Nat.add_sub_cancel] at h1
        have e : b * ((j + 1 : Nat) : Int) = b * j + b := by rw [Int.natCast_succ, Int.mul_add, Int.mul_one]
        unfold lf at h h1
        have e2 : (n - 1) / b = j := by
          have : (n - 1) / b = (n - 1 - b * j + b * j) / b := by congr 1; omega
          rw [this, Int.add_mul_ediv_left _ _ (by omega), Int.ediv_eq_zero_of_lt (by omega) (by omega)]; omega
        rw [e2]; omega
end Go.Proofs.Ytokcanmhhabecaa.M
