/- Aggregates of lists of numbers: plain mathematics; nothing of the program. -/
import Derived.RowKit
namespace Go.Proofs.Ytnamjnopicghhaa.M
open Go.RowKit
set_option linter.unusedVariables false

/-- What comes of a Value behind x, where c were counted. -/
def jv (k c v x : Int) : Int :=
  if k = 1 ∨ k = 2 then wrap64 (v + x)
  else if k = 3 then (if c = 0 ∨ x < v then x else v)
  else if k = 4 then (if c = 0 ∨ v < x then x else v)
  else v
def inp (k x : Int) : Int := if k = 1 then 1 else x
def best (f : Int → Int → Int) : List Int → Int
  | [] => 0
  | a :: r => r.foldl f a
/-- What a list of values comes to. -/
def val (k : Int) (l : List Int) : Int :=
  if k = 1 then wrap64 l.length else if k = 2 then wrap64 l.sum else if k = 3 then best min l else if k = 4 then best max l else 0

theorem fold_f (f : Int → Int → Int) (ha : ∀ a b c, f (f a b) c = f a (f b c)) : ∀ (s : List Int) (x b : Int), s.foldl f (f x b) = f x (s.foldl f b)
  | [], x, b => rfl
  | c :: s, x, b => by
    rw [List.foldl_cons, List.foldl_cons, ha, fold_f f ha s]
theorem best_append (f : Int → Int → Int) (ha : ∀ a b c, f (f a b) c = f a (f b c)) (l m : List Int) (hl : l ≠ []) (hm : m ≠ []) : best f (l ++ m) = f (best f l) (best f m) := by
  cases l with
  | nil => exact absurd rfl hl
  | cons a r =>
    cases m with
    | nil => exact absurd rfl hm
    | cons b s =>
      show (r ++ b :: s).foldl f a = _
      rw [List.foldl_append, List.foldl_cons, fold_f f ha]
      rfl
theorem min_assoc' (a b c : Int) : min (min a b) c = min a (min b c) := by omega
theorem max_assoc' (a b c : Int) : max (max a b) c = max a (max b c) := by omega
theorem len_pos {l : List Int} (h : l ≠ []) : 0 < l.length := List.length_pos_iff.2 h
theorem jv3 (c v x : Int) (hc : 0 < c) : jv 3 c v x = min v x := by
  unfold jv
  rw [if_neg (by decide), if_pos rfl]
  split <;> omega
theorem jv4 (c v x : Int) (hc : 0 < c) : jv 4 c v x = max v x := by
  unfold jv
  rw [if_neg (by decide), if_neg (by decide), if_pos rfl]
  split <;> omega
theorem jv_first (c v x : Int) (hc : c = 0) (k : Int) (hk : k = 3 ∨ k = 4) : jv k c v x = x := by
  unfold jv
  rcases hk with rfl | rfl
  · rw [if_neg (by decide), if_pos rfl, if_pos (.inl hc)]
  · rw [if_neg (by decide), if_neg (by decide), if_pos rfl, if_pos (.inl hc)]
theorem jv_sum (k c v x : Int) (hk : k = 1 ∨ k = 2) : jv k c v x = wrap64 (v + x) := by unfold jv; rw [if_pos hk]
theorem jv_no (k c v x : Int) (h1 : k ≠ 1) (h2 : k ≠ 2) (h3 : k ≠ 3) (h4 : k ≠ 4) : jv k c v x = v := by
  unfold jv; rw [if_neg (by omega), if_neg h3, if_neg h4]
theorem val1 (l : List Int) : val 1 l = wrap64 l.length := by unfold val; rw [if_pos rfl]
theorem val2 (l : List Int) : val 2 l = wrap64 l.sum := by unfold val; rw [if_neg (by decide), if_pos rfl]
theorem val3 (l : List Int) : val 3 l = best min l := by unfold val; rw [if_neg (by decide), if_neg (by decide), if_pos rfl]
theorem val4 (l : List Int) : val 4 l = best max l := by unfold val; rw [if_neg (by decide), if_neg (by decide), if_neg (by decide), if_pos rfl]
theorem val_no (k : Int) (l : List Int) (h1 : k ≠ 1) (h2 : k ≠ 2) (h3 : k ≠ 3) (h4 : k ≠ 4) : val k l = 0 := by unfold val; rw [if_neg h1, if_neg h2, if_neg h3, if_neg h4]
theorem val_nil (k : Int) : val k [] = 0 := by
  unfold val
  split
  · rfl
  · split
    · rfl
    · split
      · rfl
      · split <;> rfl
theorem kinds (k : Int) : k = 1 ∨ k = 2 ∨ k = 3 ∨ k = 4 ∨ (k ≠ 1 ∧ k ≠ 2 ∧ k ≠ 3 ∧ k ≠ 4) := by omega
/-- A list behind a list that is not empty: as an aggregate merged. -/
theorem val_merge (k : Int) (l m : List Int) (hm : m ≠ []) : val k (l ++ m) = jv k l.length (val k l) (val k m) := by
  rcases kinds k with rfl | rfl | rfl | rfl | ⟨h1, h2, h3, h4⟩
  · rw [jv_sum _ _ _ _ (.inl rfl), val1, val1, val1, List.length_append]; unfold wrap64; omega
  · rw [jv_sum _ _ _ _ (.inr rfl), val2, val2, val2, List.sum_append]; unfold wrap64; omega
  · by_cases hl : l = []
    · subst hl; rw [jv_first _ _ _ (by simp) _ (.inl rfl)]; simp
    · rw [jv3 _ _ _ (by have := len_pos hl; omega), val3, val3, val3, best_append min min_assoc' l m hl hm]
  · by_cases hl : l = []
    · subst hl; rw [jv_first _ _ _ (by simp) _ (.inr rfl)]; simp
    · rw [jv4 _ _ _ (by have := len_pos hl; omega), val4, val4, val4, best_append max max_assoc' l m hl hm]
  · rw [jv_no _ _ _ _ h1 h2 h3 h4, val_no _ _ h1 h2 h3 h4, val_no _ _ h1 h2 h3 h4]
theorem wrap_in (n : Int) (h : -9223372036854775808 ≤ n ∧ n ≤ 9223372036854775807) : wrap64 n = n := by unfold wrap64; omega
theorem val_snoc (k : Int) (l : List Int) (x : Int) : val k (l ++ [x]) = jv k l.length (val k l) (inp k x) := by
  rcases kinds k with rfl | rfl | rfl | rfl | ⟨h1, h2, h3, h4⟩
  · have e : val 1 [x] = inp 1 x := by rw [val1]; unfold inp; rw [if_pos rfl, List.length_singleton]; unfold wrap64; omega
    rw [val_merge 1 l [x] (by simp), e]
  · have e : inp 2 x = x := by unfold inp; rw [if_neg (by decide)]
    rw [val2, val2, jv_sum _ _ _ _ (.inr rfl), List.sum_append, e]
    have e2 : [x].sum = x := by simp
    rw [e2]
    unfold wrap64; omega
  · have e : val 3 [x] = inp 3 x := by rw [val3]; unfold inp; rw [if_neg (by decide)]; rfl
    rw [val_merge 3 l [x] (by simp), e]
  · have e : val 4 [x] = inp 4 x := by rw [val4]; unfold inp; rw [if_neg (by decide)]; rfl
    rw [val_merge 4 l [x] (by simp), e]
  · rw [jv_no _ _ _ _ h1 h2 h3 h4, val_no _ _ h1 h2 h3 h4, val_no _ _ h1 h2 h3 h4]
theorem val_comm (k : Int) (l m : List Int) : val k (l ++ m) = val k (m ++ l) := by
  rcases kinds k with rfl | rfl | rfl | rfl | ⟨h1, h2, h3, h4⟩
  · rw [val1, val1, List.length_append, List.length_append, Nat.add_comm]
  · rw [val2, val2, List.sum_append, List.sum_append, Int.add_comm]
  all_goals
    by_cases hl : l = []
    · subst hl; simp
    · by_cases hm : m = []
      · subst hm; simp
      · first
          | (rw [val3, val3, best_append min min_assoc' _ _ hl hm, best_append min min_assoc' _ _ hm hl, Int.min_comm])
          | (rw [val4, val4, best_append max max_assoc' _ _ hl hm, best_append max max_assoc' _ _ hm hl, Int.max_comm])
          | (rw [val_no _ _ h1 h2 h3 h4, val_no _ _ h1 h2 h3 h4])
theorem val_turn (k : Int) (l : List Int) (t : Nat) : val k (l.drop t ++ l.take t) = val k l := by
  rw [val_comm, List.take_append_drop]
/- The ends. -/
theorem fold_min : ∀ (r : List Int) (a : Int), (r.foldl min a = a ∨ r.foldl min a ∈ r) ∧ r.foldl min a ≤ a ∧ ∀ x ∈ r, r.foldl min a ≤ x
  | [], a => ⟨.inl rfl, Int.le_refl _, by simp⟩
  | b :: r, a => by
    rw [List.foldl_cons]
    obtain ⟨h1, h2, h3⟩ := fold_min r (min a b)
    refine ⟨?_, by omega, fun x hx => ?_⟩
    · rcases h1 with h | h
      · by_cases hab : a ≤ b
        · exact .inl (by omega)
        · refine .inr ?_
          rw [h, show min a b = b by omega]
          exact List.mem_cons_self
      · exact .inr (List.mem_cons_of_mem _ h)
    · rcases List.mem_cons.1 hx with rfl | hx
      · omega
      · exact h3 x hx
theorem fold_max : ∀ (r : List Int) (a : Int), (r.foldl max a = a ∨ r.foldl max a ∈ r) ∧ a ≤ r.foldl max a ∧ ∀ x ∈ r, x ≤ r.foldl max a
  | [], a => ⟨.inl rfl, Int.le_refl _, by simp⟩
  | b :: r, a => by
    rw [List.foldl_cons]
    obtain ⟨h1, h2, h3⟩ := fold_max r (max a b)
    refine ⟨?_, by omega, fun x hx => ?_⟩
    · rcases h1 with h | h
      · by_cases hab : b ≤ a
        · exact .inl (by omega)
        · refine .inr ?_
          rw [h, show max a b = b by omega]
          exact List.mem_cons_self
      · exact .inr (List.mem_cons_of_mem _ h)
    · rcases List.mem_cons.1 hx with rfl | hx
      · omega
      · exact h3 x hx
theorem least_mem (l : List Int) (h : l ≠ []) : val 3 l ∈ l := by
  cases l with
  | nil => exact absurd rfl h
  | cons a r =>
    rcases (fold_min r a).1 with h | h
    · rw [val3]; show r.foldl min a ∈ _; rw [h]; exact List.mem_cons_self
    · rw [val3]; exact List.mem_cons_of_mem _ h
theorem least_le (l : List Int) (x : Int) (hx : x ∈ l) : val 3 l ≤ x := by
  rw [val3]
  cases l with
  | nil => cases hx
  | cons a r =>
    rcases List.mem_cons.1 hx with rfl | hx
    · exact (fold_min r x).2.1
    · exact (fold_min r a).2.2 x hx
theorem great_mem (l : List Int) (h : l ≠ []) : val 4 l ∈ l := by
  cases l with
  | nil => exact absurd rfl h
  | cons a r =>
    rcases (fold_max r a).1 with h | h
    · rw [val4]; show r.foldl max a ∈ _; rw [h]; exact List.mem_cons_self
    · rw [val4]; exact List.mem_cons_of_mem _ h
theorem le_great (l : List Int) (x : Int) (hx : x ∈ l) : x ≤ val 4 l := by
  rw [val4]
  cases l with
  | nil => cases hx
  | cons a r =>
    rcases List.mem_cons.1 hx with rfl | hx
    · exact (fold_max r x).2.1
    · exact (fold_max r a).2.2 x hx
end Go.Proofs.Ytnamjnopicghhaa.M
