/- Things told in another order. -/
import Derived.Test.YtnamjnopicghhaaSep
namespace Go.Proofs.Ytnamjnopicghhaa
open Go.RowKit
set_option linter.unusedVariables false

def nilT : Th where
  P w F := ∀ k, ¬ F k
  lt h k hk := (h k hk).elim
  keep h _ _ := h
theorem map_getD_range {α : Type _} (d : α) : ∀ (ts : List α) (n : Nat), n ≤ ts.length → (List.range n).map (fun i => ts.getD i d) = ts.take n := by
  intro ts n hn
  apply List.ext_getElem?
  intro i
  rw [List.getElem?_map, List.getElem?_take]
  by_cases h : i < n
  · rw [List.getElem?_range h, if_pos h]
    simp [List.getD_eq_getElem?_getD, List.getElem?_eq_getElem (show i < ts.length by omega)]
  · rw [if_neg h, List.getElem?_eq_none (by simpa using Nat.le_of_not_lt h)]
    rfl
/-- The first n of them in the order σ. -/
theorem St.re {W0 w : World} {ts : List Th} (h : St W0 w ts) (σ : List Nat) (n : Nat) (hσ : σ.Perm (List.range n) := by decide) (hn : n ≤ ts.length := by simp) : St W0 w (σ.map (fun i => ts.getD i nilT) ++ ts.drop n) := by
  refine h.perm ?_
  have h1 := hσ.map (fun i => ts.getD i nilT)
  rw [map_getD_range nilT ts n hn] at h1
  have h2 := (h1.append_right (ts.drop n)).symm
  rwa [List.take_append_drop] at h2
/-- The head and the first ones. -/
example {W0 w : World} {a b c d : Th} {us : List Th} (h : St W0 w (a :: b :: c :: d :: us)) : St W0 w (c :: a :: b :: d :: us) := h.re [2, 0, 1] 3
/-- The n-th goes away. -/
theorem St.rm {W0 w : World} {ts : List Th} (h : St W0 w ts) (n : Nat) (hn : n < ts.length := by simp) : St W0 w (ts.take n ++ ts.drop (n + 1)) := by
  have h1 := h.up n
  have e : (ts.drop n).take 1 = [ts[n]] := by
    rw [List.take_one, List.head?_drop, List.getElem?_eq_getElem hn]; rfl
  rw [e] at h1
  exact h1.drop
end Go.Proofs.Ytnamjnopicghhaa
