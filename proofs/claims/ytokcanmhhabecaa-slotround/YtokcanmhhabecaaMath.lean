/- What tenants are served at a tick: plain mathematics; nothing of the program. -/
import Derived.RowKit
namespace Go.Proofs.Ytokcanmhhabecaa.M
open Go.RowKit
set_option linter.unusedVariables false

/-- The tenant at place i of an order that begins with f. -/
def tn (f : Int) (i : Nat) : Int := (f + (i : Int)) % 8
/-- What tenant t is served, where zs wait. -/
def sv (b t : Int) (zs : List Int) : Int := if t < (zs.length : Int) then max 0 (min b (zs.getD t.toNat 0)) else 0
theorem tn_bd (f : Int) (i : Nat) : 0 ≤ tn f i ∧ tn f i < 8 := by unfold tn; omega
/-- How many ticks n take at b each. -/
def tk (n b : Int) : Int := if n ≤ 0 then 0 else if b ≤ 0 then -1 else (n - 1) / b + 1
theorem upto8 {P : Nat → Prop} (h0 : P 0) (h1 : P 1) (h2 : P 2) (h3 : P 3) (h4 : P 4) (h5 : P 5) (h6 : P 6) (h7 : P 7) : ∀ k, k < 8 → P k := by
  intro k hk
  match k, hk with
  | 0, _ => exact h0
  | 1, _ => exact h1
  | 2, _ => exact h2
  | 3, _ => exact h3
  | 4, _ => exact h4
  | 5, _ => exact h5
  | 6, _ => exact h6
  | 7, _ => exact h7
  | n + 8, h => omega
/-- The first k of a row's numbers, of those whose tenant is t. -/
def sumT (g h : Nat → Int) (t : Int) : Nat → Int
  | 0 => 0
  | k + 1 => sumT g h t k + if g k = t then h k else 0
theorem sumT_tn (f t : Int) (H : Int → Int) (hf : 0 ≤ f ∧ f < 8) (ht : 0 ≤ t ∧ t < 8) (k : Nat) (hk : k ≤ 8) :
    sumT (tn f) (fun i => H (tn f i)) t k = if (t - f) % 8 < (k : Int) then H t else 0 := by
  induction k with
  | zero => simp [sumT]; omega
  | succ k ih =>
    rw [sumT, ih (by omega)]
    by_cases e : tn f k = t
    · have e1 : (t - f) % 8 = (k : Int) := by unfold tn at e; omega
      rw [if_pos e, e, if_neg (by omega), if_pos (by omega)]; omega
    · have e1 : (t - f) % 8 ≠ (k : Int) := by unfold tn at e; omega
      rw [if_neg e]
      by_cases c : (t - f) % 8 < (k : Int)
      · rw [if_pos c, if_pos (by omega)]; omega
      · rw [if_neg c, if_neg (by omega)]; omega
theorem sumT_all (f t : Int) (H : Int → Int) (hf : 0 ≤ f ∧ f < 8) (ht : 0 ≤ t ∧ t < 8) : sumT (tn f) (fun i => H (tn f i)) t 8 = H t := by
  rw [sumT_tn f t H hf ht 8 (by omega), if_pos (by omega)]
/-- The first k of a row's numbers. -/
def sumA (h : Nat → Int) : Nat → Int
  | 0 => 0
  | k + 1 => sumA h k + h k
theorem tn_ways (f : Int) (hf : 0 ≤ f ∧ f < 8) (H : Int → Int) : sumA (fun i => H (tn f i)) 8 = H 0 + H 1 + H 2 + H 3 + H 4 + H 5 + H 6 + H 7 := by
  have : f = 0 ∨ f = 1 ∨ f = 2 ∨ f = 3 ∨ f = 4 ∨ f = 5 ∨ f = 6 ∨ f = 7 := by omega
  rcases this with rfl | rfl | rfl | rfl | rfl | rfl | rfl | rfl <;> simp [sumA, tn] <;> omega
theorem tk_pos {n b : Int} (h : 0 < n) (hb : 0 < b) : tk n b = (n - 1) / b + 1 := by unfold tk; rw [if_neg (by omega), if_neg (by omega)]
theorem tk_none {n b : Int} (h : n ≤ 0) : tk n b = 0 := by unfold tk; rw [if_pos h]
theorem tk_never {n b : Int} (h : 0 < n) (hb : b ≤ 0) : tk n b = -1 := by unfold tk; rw [if_neg (by omega), if_pos hb]
end Go.Proofs.Ytokcanmhhabecaa.M
