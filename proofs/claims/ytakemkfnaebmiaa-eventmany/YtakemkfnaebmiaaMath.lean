/- Plain mathematics of events: how two compare, the latest of several, all labels of several. Nothing of the program is in this text. -/
namespace Go.Proofs.Ytakemkfnaebmiaa.M

structure Ev where
  t : Int
  k : Int
  v : Int
  l : Nat
deriving DecidableEq

def cmpI (a b : Int) : Int := if a < b then -1 else if b < a then 1 else 0
def orL : List Int → Int
  | [] => 0
  | x :: r => if x ≠ 0 then x else orL r
def cmpE (a b : Ev) : Int := orL [cmpI a.t b.t, cmpI a.k b.k, cmpI a.v b.v, cmpI a.l b.l]

theorem cmpI_cases (a b : Int) : (a < b ∧ cmpI a b = -1) ∨ (b < a ∧ cmpI a b = 1) ∨ (a = b ∧ cmpI a b = 0) := by
  unfold cmpI
  by_cases h : a < b
  · rw [if_pos h]; exact .inl ⟨h, rfl⟩
  · by_cases h2 : b < a
    · rw [if_neg h, if_pos h2]; exact .inr (.inl ⟨h2, rfl⟩)
    · rw [if_neg h, if_neg h2]; exact .inr (.inr ⟨by omega, rfl⟩)
theorem or4 (a b c d : Int) : (a ≠ 0 ∧ orL [a, b, c, d] = a) ∨ (a = 0 ∧ b ≠ 0 ∧ orL [a, b, c, d] = b) ∨ (a = 0 ∧ b = 0 ∧ c ≠ 0 ∧ orL [a, b, c, d] = c) ∨ (a = 0 ∧ b = 0 ∧ c = 0 ∧ orL [a, b, c, d] = d) := by
  simp only [orL]
  by_cases ha : a = 0
  · by_cases hb : b = 0
    · by_cases hc : c = 0
      · right; right; right; simp [ha, hb, hc]; intro h; exact h.symm
      · right; right; left; simp [ha, hb, hc]
    · right; left; simp [ha, hb]
  · left; simp [ha]
/-- How two events compare, by their four fields. -/
theorem cmpE_cases (a b : Ev) :
    (cmpE a b = -1 ∧ (a.t < b.t ∨ a.t = b.t ∧ (a.k < b.k ∨ a.k = b.k ∧ (a.v < b.v ∨ a.v = b.v ∧ a.l < b.l)))) ∨
    (cmpE a b = 1 ∧ (b.t < a.t ∨ b.t = a.t ∧ (b.k < a.k ∨ b.k = a.k ∧ (b.v < a.v ∨ b.v = a.v ∧ b.l < a.l)))) ∨
    (cmpE a b = 0 ∧ a.t = b.t ∧ a.k = b.k ∧ a.v = b.v ∧ a.l = b.l) := by
  unfold cmpE
  have h0 := or4 (cmpI a.t b.t) (cmpI a.k b.k) (cmpI a.v b.v) (cmpI a.l b.l)
  have h1 := cmpI_cases a.t b.t
  have h2 := cmpI_cases a.k b.k
  have h3 := cmpI_cases a.v b.v
  have h4 := cmpI_cases a.l b.l
  generalize cmpI a.t b.t = p at *
  generalize cmpI a.k b.k = q at *
  generalize cmpI a.v b.v = r at *
  generalize cmpI a.l b.l = s at *
  generalize orL [p, q, r, s] = z at *
  rcases h0 with ⟨n1, rfl⟩ | ⟨n1, n2, rfl⟩ | ⟨n1, n2, n3, rfl⟩ | ⟨n1, n2, n3, rfl⟩
  · rcases h1 with h | h | h
    · exact .inl ⟨h.2, .inl h.1⟩
    · exact .inr (.inl ⟨h.2, .inl h.1⟩)
    · exact absurd h.2 n1
  · have ht : a.t = b.t := by rcases h1 with h | h | h <;> omega
    rcases h2 with h | h | h
    · exact .inl ⟨h.2, .inr ⟨ht, .inl h.1⟩⟩
    · exact .inr (.inl ⟨h.2, .inr ⟨ht.symm, .inl h.1⟩⟩)
    · exact absurd h.2 n2
  · have ht : a.t = b.t := by rcases h1 with h | h | h <;> omega
    have hk : a.k = b.k := by rcases h2 with h | h | h <;> omega
    rcases h3 with h | h | h
    · exact .inl ⟨h.2, .inr ⟨ht, .inr ⟨hk, .inl h.1⟩⟩⟩
    · exact .inr (.inl ⟨h.2, .inr ⟨ht.symm, .inr ⟨hk.symm, .inl h.1⟩⟩⟩)
    · exact absurd h.2 n3
  · have ht : a.t = b.t := by rcases h1 with h | h | h <;> omega
    have hk : a.k = b.k := by rcases h2 with h | h | h <;> omega
    have hv : a.v = b.v := by rcases h3 with h | h | h <;> omega
    rcases h4 with h | h | h
    · exact .inl ⟨h.2, .inr ⟨ht, .inr ⟨hk, .inr ⟨hv, by omega⟩⟩⟩⟩
    · exact .inr (.inl ⟨h.2, .inr ⟨ht.symm, .inr ⟨hk.symm, .inr ⟨hv.symm, by omega⟩⟩⟩⟩)
    · exact .inr (.inr ⟨h.2, ht, hk, hv, by omega⟩)
theorem cmpE_swap (a b : Ev) : cmpE b a = - cmpE a b := by
  rcases cmpE_cases a b with ⟨e, h⟩ | ⟨e, h⟩ | ⟨e, h⟩ <;> rcases cmpE_cases b a with ⟨e2, h2⟩ | ⟨e2, h2⟩ | ⟨e2, h2⟩ <;> omega
theorem cmpE_zero (a b : Ev) : cmpE a b = 0 ↔ a = b := by
  constructor
  · intro h
    rcases cmpE_cases a b with ⟨e, _⟩ | ⟨e, _⟩ | ⟨_, h1, h2, h3, h4⟩
    · omega
    · omega
    · cases a; cases b; simp_all
  · intro h
    subst h
    rcases cmpE_cases a a with ⟨_, h⟩ | ⟨_, h⟩ | ⟨e, _⟩
    · omega
    · omega
    · exact e
theorem cmpE_trans (a b c : Ev) (h1 : cmpE a b ≤ 0) (h2 : cmpE b c ≤ 0) : cmpE a c ≤ 0 := by
  rcases cmpE_cases a c with ⟨e, h⟩ | ⟨e, h⟩ | ⟨e, h⟩
  · omega
  · rcases cmpE_cases a b with ⟨e1, g1⟩ | ⟨e1, g1⟩ | ⟨e1, g1⟩
    · rcases cmpE_cases b c with ⟨e2, g2⟩ | ⟨e2, g2⟩ | ⟨e2, g2⟩ <;> omega
    · omega
    · rcases cmpE_cases b c with ⟨e2, g2⟩ | ⟨e2, g2⟩ | ⟨e2, g2⟩ <;> omega
  · omega
theorem cmpE_time (a b : Ev) (h : a.t < b.t) : cmpE a b = -1 := by
  rcases cmpE_cases a b with ⟨e, g⟩ | ⟨e, g⟩ | ⟨e, g⟩ <;> omega
theorem cmpE_key (a b : Ev) (h : a.t = b.t) (h2 : a.k < b.k) : cmpE a b = -1 := by
  rcases cmpE_cases a b with ⟨e, g⟩ | ⟨e, g⟩ | ⟨e, g⟩ <;> omega
theorem cmpE_three (a b : Ev) : cmpE a b = -1 ∨ cmpE a b = 0 ∨ cmpE a b = 1 := by
  rcases cmpE_cases a b with ⟨e, _⟩ | ⟨e, _⟩ | ⟨e, _⟩ <;> omega

/-! The latest, the labels. -/
def maxL : Int → List Ev → Int
  | m, [] => m
  | m, e :: r => maxL (max m e.t) r
def latest : List Ev → Int
  | [] => -1
  | e :: r => maxL e.t r
def labels (es : List Ev) : Nat := es.foldl (fun a e => a ||| e.l) 0

theorem maxL_snoc (m : Int) (es : List Ev) (e : Ev) : maxL m (es ++ [e]) = max (maxL m es) e.t := by
  induction es generalizing m with
  | nil => rfl
  | cons x r ih => simp only [List.cons_append, maxL]; exact ih _
theorem maxL_max (m n : Int) (es : List Ev) : maxL (max m n) es = max m (maxL n es) := by
  induction es generalizing n with
  | nil => rfl
  | cons x r ih => simp only [maxL]; rw [Int.max_assoc]; exact ih _
theorem latest_snoc (es : List Ev) (e : Ev) : latest (es ++ [e]) = if es = [] then e.t else max (latest es) e.t := by
  cases es with
  | nil => simp [latest, maxL]
  | cons x r => simp only [List.cons_append, latest, maxL_snoc]; simp
theorem labels_snoc (es : List Ev) (e : Ev) : labels (es ++ [e]) = labels es ||| e.l := by simp [labels]
theorem labels_from (a : Nat) (es : List Ev) : es.foldl (fun a e => a ||| e.l) a = a ||| labels es := by
  induction es generalizing a with
  | nil => simp [labels]
  | cons x r ih =>
    simp only [labels, List.foldl_cons]
    rw [ih, ih (0 ||| x.l)]
    simp [Nat.or_assoc]
theorem labels_append (a b : List Ev) : labels (a ++ b) = labels a ||| labels b := by
  show (a ++ b).foldl _ 0 = _
  rw [List.foldl_append, labels_from]
  rfl
theorem labels_lt (es : List Ev) (h : ∀ e ∈ es, e.l < 18446744073709551616) : labels es < 18446744073709551616 := by
  induction es with
  | nil => decide
  | cons x r ih =>
    have e1 : labels (x :: r) = x.l ||| labels r := by
      have := labels_append [x] r
      rw [List.singleton_append] at this
      rw [this]; simp [labels]
    rw [e1]
    exact Nat.or_lt_two_pow (n := 64) (h x (List.mem_cons_self ..)) (ih fun e he => h e (List.mem_cons_of_mem _ he))
theorem maxL_append (m : Int) (a b : List Ev) : maxL m (a ++ b) = maxL (maxL m a) b := by
  induction a generalizing m with
  | nil => rfl
  | cons x r ih => simp only [List.cons_append, maxL]; exact ih _
theorem maxL_comm (m : Int) (a b : List Ev) : maxL (maxL m a) b = maxL (maxL m b) a := by
  induction a generalizing m with
  | nil => rfl
  | cons x r ih =>
    simp only [maxL]
    rw [ih]
    congr 1
    rw [Int.max_comm m x.t, maxL_max, Int.max_comm]
theorem latest_turn (a b : List Ev) : latest (b ++ a) = latest (a ++ b) := by
  cases a with
  | nil => simp
  | cons x r =>
    cases b with
    | nil => simp
    | cons y s =>
      simp only [List.cons_append, latest, maxL_append]
      have h1 : maxL (maxL y.t s) (x :: r) = maxL (maxL x.t r) (y :: s) := by
        show maxL (max (maxL y.t s) x.t) r = maxL (max (maxL x.t r) y.t) s
        rw [Int.max_comm (maxL x.t r), ← maxL_max, maxL_comm, Int.max_comm (maxL y.t s), ← maxL_max, Int.max_comm]
      exact h1
theorem labels_turn (a b : List Ev) : labels (b ++ a) = labels a ||| labels b := by rw [labels_append, Nat.or_comm]

def evAt (es : List Ev) (j : Nat) : Ev := es.getD j ⟨0, 0, 0, 0⟩
theorem take_snoc (es : List Ev) (k : Nat) (h : k < es.length) : es.take (k + 1) = es.take k ++ [evAt es k] := by
  rw [List.take_succ_eq_append_getElem h]
  simp [evAt, List.getD_eq_getElem?_getD, h]
theorem evAt_lt (es : List Ev) (h : ∀ e ∈ es, e.l < 18446744073709551616) (k : Nat) : (evAt es k).l < 18446744073709551616 := by
  unfold evAt
  rw [List.getD_eq_getElem?_getD]
  cases e : es[k]? with
  | none => simp
  | some x => simpa using h x (List.mem_of_getElem? e)
end Go.Proofs.Ytakemkfnaebmiaa.M
