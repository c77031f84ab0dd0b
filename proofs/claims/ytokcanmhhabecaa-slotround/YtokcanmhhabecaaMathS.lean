/- Sums of what all are served; how many ticks: plain mathematics; nothing of the program. -/
import Derived.Test.YtokcanmhhabecaaMath
namespace Go.Proofs.Ytokcanmhhabecaa.M
open Go.RowKit
set_option linter.unusedVariables false

theorem getD_bd {zs : List Int} {lo hi : Int} (h : ∀ x ∈ zs, lo ≤ x ∧ x ≤ hi) (h0 : lo ≤ 0) (h1 : 0 ≤ hi) (n : Nat) : lo ≤ zs.getD n 0 ∧ zs.getD n 0 ≤ hi := by
  by_cases hn : n < zs.length
  · have : zs.getD n 0 = zs[n] := by simp [List.getD_eq_getElem?_getD, hn]
    rw [this]; exact h _ (List.getElem_mem hn)
  · have : zs.getD n 0 = 0 := by simp [List.getD_eq_getElem?_getD, Nat.le_of_not_lt hn]
    rw [this]; exact ⟨h0, h1⟩
theorem getD_past {zs : List Int} {n : Nat} (hn : zs.length ≤ n) : zs.getD n 0 = 0 := by simp [List.getD_eq_getElem?_getD, hn]
theorem sv_all {b : Int} {zs : List Int} (h : ∀ x ∈ zs, 0 ≤ x ∧ x ≤ b) (hb : 0 ≤ b) (n : Nat) : sv b (n : Int) zs = zs.getD n 0 := by
  have g := getD_bd h (Int.le_refl 0) hb n
  unfold sv
  rw [Int.toNat_natCast]
  by_cases hn : (n : Int) < (zs.length : Int)
  · rw [if_pos hn]; omega
  · rw [if_neg hn, getD_past (by omega)]
theorem sv_none {b : Int} (hb : b ≤ 0) (t : Int) (zs : List Int) : sv b t zs = 0 := by
  unfold sv; split <;> omega
theorem sum8 (zs : List Int) (h : zs.length ≤ 8) : zs.getD 0 0 + zs.getD 1 0 + zs.getD 2 0 + zs.getD 3 0 + zs.getD 4 0 + zs.getD 5 0 + zs.getD 6 0 + zs.getD 7 0 = zs.sum := by
  match zs, h with
  | [], _ => rfl
  | [a], _ => simp
  | [a, b], _ => simp
  | [a, b, c], _ => simp; omega
  | [a, b, c, d], _ => simp; omega
  | [a, b, c, d, e], _ => simp; omega
  | [a, b, c, d, e, f], _ => simp; omega
  | [a, b, c, d, e, f, g], _ => simp; omega
  | [a, b, c, d, e, f, g, i], _ => simp; omega
  | a :: b :: c :: d :: e :: f :: g :: i :: j :: r, h => simp at h
/-- With budget for all everything that waits is served. -/
theorem served_all (f b : Int) (zs : List Int) (hf : 0 ≤ f ∧ f < 8) (hl : zs.length ≤ 8) (h : ∀ x ∈ zs, 0 ≤ x ∧ x ≤ b) (hb : 0 ≤ b) : sumA (fun i => sv b (tn f i) zs) 8 = zs.sum := by
  rw [tn_ways f hf (fun t => sv b t zs), ← sum8 zs hl]
  have a0 : sv b 0 zs = zs.getD 0 0 := sv_all h hb 0
  have a1 : sv b 1 zs = zs.getD 1 0 := sv_all h hb 1
  have a2 : sv b 2 zs = zs.getD 2 0 := sv_all h hb 2
  have a3 : sv b 3 zs = zs.getD 3 0 := sv_all h hb 3
  have a4 : sv b 4 zs = zs.getD 4 0 := sv_all h hb 4
  have a5 : sv b 5 zs = zs.getD 5 0 := sv_all h hb 5
  have a6 : sv b 6 zs = zs.getD 6 0 := sv_all h hb 6
  have a7 : sv b 7 zs = zs.getD 7 0 := sv_all h hb 7
  omega
theorem served_none (f b : Int) (zs : List Int) (hb : b ≤ 0) (k : Nat) : sumA (fun i => sv b (tn f i) zs) k = 0 := by
  induction k with
  | zero => rfl
  | succ k ih => rw [sumA, ih, sv_none hb]; rfl
theorem sumA_bd {h : Nat → Int} {B : Int} (hB : ∀ i, 0 ≤ h i ∧ h i ≤ B) (k : Nat) : 0 ≤ sumA h k ∧ sumA h k ≤ k * B := by
  induction k with
  | zero => simp [sumA]
  | succ k ih =>
    have := hB k
    rw [sumA]
    have e : ((k + 1 : Nat) : Int) * B = k * B + B := by rw [Int.natCast_succ, Int.add_mul, Int.one_mul]
    omega
theorem sv_bd {b t : Int} {zs : List Int} : 0 ≤ sv b t zs ∧ sv b t zs ≤ max 0 b := by unfold sv; split <;> omega
/-- The greatest. -/
def mx (l : List Int) : Int := l.foldl max 0
theorem mx_snoc (l : List Int) (x : Int) : mx (l ++ [x]) = max (mx l) x := by simp [mx]
theorem tk_mono {n b m : Int} (hb : 0 < b) (hm : 0 ≤ m) : tk n (b + m) ≤ tk n b := by
  by_cases h : n ≤ 0
  · rw [tk_none h, tk_none h]; omega
  · rw [tk_pos (by omega) (by omega), tk_pos (by omega) hb]
    have q0 : 0 ≤ (n - 1) / (b + m) := Int.ediv_nonneg (by omega) (by omega)
    have e1 := Int.mul_ediv_add_emod (n - 1) (b + m)
    have e2 := Int.emod_nonneg (n - 1) (show b + m ≠ 0 by omega)
    have e3 : (n - 1) / (b + m) * b ≤ n - 1 := by
      have h1 : (b + m) * ((n - 1) / (b + m)) = (n - 1) / (b + m) * b + (n - 1) / (b + m) * m := by rw [Int.mul_comm, Int.mul_add]
      have h2 : 0 ≤ (n - 1) / (b + m) * m := Int.mul_nonneg q0 hm
      omega
    have := Int.le_ediv_of_mul_le hb e3
    omega
theorem tk_enough {n b : Int} (hn : 0 ≤ n) (hb : 0 < b) : n ≤ tk n b * b := by
  by_cases h : n ≤ 0
  · rw [tk_none h]; omega
  · rw [tk_pos (by omega) hb]
    have e1 := Int.mul_ediv_add_emod (n - 1) b
    have e2 := Int.emod_lt_of_pos (n - 1) hb
    rw [Int.add_mul, Int.one_mul, Int.mul_comm]; omega
theorem tk_least {n b : Int} (hb : 0 < b) (h : 0 < n) : (tk n b - 1) * b < n := by
  rw [tk_pos h hb]
  have e1 := Int.mul_ediv_add_emod (n - 1) b
  have e2 := Int.emod_nonneg (n - 1) (show b ≠ 0 by omega)
  have e3 : (n - 1) / b + 1 - 1 = (n - 1) / b := by omega
  rw [e3, Int.mul_comm]; omega
theorem tk_bd {n b : Int} (hb : 0 < b) (hn : 0 ≤ n) : 0 ≤ tk n b ∧ tk n b ≤ n := by
  by_cases h : n ≤ 0
  · rw [tk_none h]; omega
  · rw [tk_pos (by omega) hb]
    have q0 : 0 ≤ (n - 1) / b := Int.ediv_nonneg (by omega) (by omega)
    have q1 : (n - 1) / b ≤ n - 1 := Int.ediv_le_self _ (by omega)
    omega
theorem tk_zero {n b : Int} (hb : 0 < b) : tk n b = 0 ↔ n ≤ 0 := by
  by_cases h : n ≤ 0
  · simp [tk_none h, h]
  · have q0 : 0 ≤ (n - 1) / b := Int.ediv_nonneg (by omega) (by omega)
    rw [tk_pos (by omega) hb]; omega
end Go.Proofs.Ytokcanmhhabecaa.M
