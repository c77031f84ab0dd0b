/- What several ints together take of what is left: plain mathematics, nothing of the program. -/
namespace Go.Proofs.Ytldfdgbbfdedkaa.M
/-- May all of these, one by one, be taken of m? -/
def okl (m : Int) : List Int → Bool
  | [] => true
  | n :: r => decide (0 ≤ n ∧ n ≤ m) && okl (m - n) r
theorem okl_append (m : Int) (a b : List Int) : okl m (a ++ b) = (okl m a && okl (m - a.sum) b) := by
  induction a generalizing m with
  | nil => simp [okl]
  | cons x r ih =>
    show (decide (0 ≤ x ∧ x ≤ m) && okl (m - x) (r ++ b)) = _
    rw [ih, List.sum_cons, show m - (x + r.sum) = m - x - r.sum by omega, ← Bool.and_assoc]
    rfl
theorem okl_snoc (m : Int) (l : List Int) (n : Int) : okl m (l ++ [n]) = (okl m l && decide (0 ≤ n ∧ n ≤ m - l.sum)) := by
  rw [okl_append]; simp [okl]
theorem okl_bd (m : Int) (l : List Int) (h : okl m l = true) (hm : 0 ≤ m) : 0 ≤ l.sum ∧ l.sum ≤ m := by
  induction l generalizing m with
  | nil => simpa using hm
  | cons x r ih =>
    have h : (decide (0 ≤ x ∧ x ≤ m) && okl (m - x) r) = true := h
    simp only [Bool.and_eq_true, decide_eq_true_eq] at h
    have := ih (m - x) h.2 (by omega)
    rw [List.sum_cons]
    omega
theorem okl_no (m : Int) (l : List Int) (k : Nat) (h : okl m (l.take k) = false) : okl m l = false := by
  have e := okl_append m (l.take k) (l.drop k)
  rw [List.take_append_drop, h, Bool.false_and] at e
  exact e
end Go.Proofs.Ytldfdgbbfdedkaa.M
