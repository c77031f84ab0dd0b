/- Remainders, numbers that go round, filters: plain mathematics; nothing of the program. -/
import Derived.Test.YtfhkmgjnmmaakaaMath
namespace Go.Proofs.Ytfhkmgjnmmaakaa.M
open Go.RowKit

theorem rem0_eq (v n : Int) (h : 1 ≤ n) : rem0 v n = v % n := by
  have h1 : 0 ≤ v % n := Int.emod_nonneg _ (by omega)
  have h2 : v % n < n := Int.emod_lt_of_pos _ (by omega)
  have h3 := @Int.tmod_eq_emod v n
  unfold rem0
  by_cases hc : 0 ≤ v ∨ n ∣ v
  · rw [if_pos hc] at h3
    rw [if_neg (by omega)]; omega
  · rw [if_neg hc] at h3
    rw [if_pos (by omega)]; omega
theorem key_in (v n : Int) (h : 1 ≤ n) : 0 ≤ rem0 v n ∧ rem0 v n < n := by
  rw [rem0_eq v n h]; exact ⟨Int.emod_nonneg _ (by omega), Int.emod_lt_of_pos _ (by omega)⟩
theorem key_apart (v n j : Int) (h : 1 ≤ n) : rem0 (v + j * n) n = rem0 v n := by
  rw [rem0_eq _ _ h, rem0_eq _ _ h, Int.add_mul_emod_self_right]
theorem key_rest (v n : Int) (h : 1 ≤ n) : (v - rem0 v n).tmod n = 0 := by
  rw [rem0_eq _ _ h]
  exact Int.tmod_eq_zero_of_dvd (Int.dvd_self_sub_emod)
theorem mul_bd (j m : Int) (h1 : 1 ≤ m) (h2 : m ≤ 256) (h3 : -1000 ≤ j) (h4 : j ≤ 1000) : -256000 ≤ j * m ∧ j * m ≤ 256000 := by
  constructor
  · have a : (-1000) * m ≤ j * m := Int.mul_le_mul_of_nonneg_right h3 (by omega)
    omega
  · have a : j * m ≤ 1000 * m := Int.mul_le_mul_of_nonneg_right h4 (by omega)
    omega
theorem wrap_of (v : Int) (h : -9223372036854775808 ≤ v ∧ v ≤ 9223372036854775807) : wrap64 v = v := by
  unfold wrap64; omega
theorem back (v y : Int) (h : -9223372036854775808 ≤ v ∧ v ≤ 9223372036854775807) : wrap64 (wrap64 (wrap64 (wrap64 (v + y) * -1) + y) * -1) = v := by
  unfold wrap64; omega
theorem run_back (v y : Int) (h : -9223372036854775808 ≤ v ∧ v ≤ 9223372036854775807) : run [⟨1, y⟩, ⟨2, -1⟩, ⟨1, y⟩, ⟨2, -1⟩] ⟨0, 0, v, 0⟩ = (⟨0, 0, v, 0⟩, true) := by
  have := back v y h
  simp [run, app] at this ⊢
  exact this
theorem run_nought (x m : Int) (h : 1 ≤ m) : run [⟨2, 0⟩, ⟨3, m⟩] ⟨0, 0, x, 0⟩ = (⟨0, 0, 0, 0⟩, true) := by
  have h1 : ¬ m < 1 := by omega
  simp [run, app, wrap64, h1, rem0]
theorem run_round : run [⟨1, 1⟩] ⟨0, 0, 9223372036854775807, 0⟩ = (⟨0, 0, -9223372036854775808, 0⟩, true) := by
  simp [run, app, wrap64]
theorem app_key (v m l : Int) (h : 1 ≤ m) : app ⟨3, m⟩ ⟨0, 0, v, l⟩ = (⟨0, rem0 v m, v, l⟩, true) := by
  have h1 : ¬ m < 1 := by omega
  simp [app, h1]
end Go.Proofs.Ytfhkmgjnmmaakaa.M
