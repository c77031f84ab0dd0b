/- Plain mathematics of a runner: what an input turns, which rows it tells. Nothing of the program is in this text. -/
import Derived.Test.YtnamjnopicghhaaMathC
import Derived.Test.YtnamjnopicghhaaOMath
namespace Go.Proofs.Ytnamjnopicghhaa.M
open Go.RowKit
open Go.Proofs.Ytnamjnopicghhaa.O.MO (Oq Pq app zeroE)

structure Inp where
  mrk : Bool
  e : Ev
deriving DecidableEq
structure Rs where
  m : Int
  l : Int
  s : Int
  L : List Pn
/-- An operation leaves the time and the label, or makes nothing. -/
theorem app_keeps (o : Oq) (e : O.MO.Ev) : ((app o e).2 = true ∧ (app o e).1.t = e.t ∧ (app o e).1.l = e.l) ∨ app o e = (zeroE, false) := by
  unfold app
  repeat' split
  all_goals first | exact .inl ⟨rfl, rfl, rfl⟩ | exact .inr rfl
theorem run_keeps : ∀ (os : List Oq) (e : O.MO.Ev), ((O.MO.run os e).2 = true ∧ (O.MO.run os e).1.t = e.t ∧ (O.MO.run os e).1.l = e.l) ∨ O.MO.run os e = (zeroE, false)
  | [], e => .inl ⟨rfl, rfl, rfl⟩
  | o :: r, e => by
    rcases app_keeps o e with ⟨h1, h2, h3⟩ | h
    · have e1 : O.MO.run (o :: r) e = O.MO.run r (app o e).1 := by
        show (match app o e with | (e', true) => O.MO.run r e' | (_, false) => (zeroE, false)) = _
        cases hx : app o e with
        | mk x b =>
          rw [hx] at h1
          simp only at h1
          subst h1
          rfl
      rw [e1]
      rcases run_keeps r (app o e).1 with ⟨k1, k2, k3⟩ | k
      · exact .inl ⟨k1, k2.trans h2, k3.trans h3⟩
      · exact .inr k
    · right
      show (match app o e with | (e', true) => O.MO.run r e' | (_, false) => (zeroE, false)) = _
      rw [h]
/-- What operations make of an event; its label is a plain number. -/
def runE (os : List Oq) (e : Ev) : Option Ev :=
  if (O.MO.run os ⟨e.t, e.k, e.v, e.l⟩).2 = true then some ⟨e.t, (O.MO.run os ⟨e.t, e.k, e.v, e.l⟩).1.k, (O.MO.run os ⟨e.t, e.k, e.v, e.l⟩).1.v, e.l⟩ else none
theorem runE_some {os : List Oq} {e x : Ev} (h : runE os e = some x) : O.MO.run os ⟨e.t, e.k, e.v, e.l⟩ = (⟨x.t, x.k, x.v, x.l⟩, true) ∧ x.t = e.t ∧ x.l = e.l := by
  unfold runE at h
  split at h
  · rename_i hb
    injection h with h
    subst h
    rcases run_keeps os ⟨e.t, e.k, e.v, e.l⟩ with ⟨h1, h2, h3⟩ | h
    · refine ⟨?_, rfl, rfl⟩
      generalize O.MO.run os ⟨e.t, e.k, e.v, e.l⟩ = y at *
      obtain ⟨⟨a, b, c, d⟩, q⟩ := y
      simp only at h1 h2 h3
      subst h1 h2 h3
      rfl
    · rw [h] at hb; cases hb
  · cases h
theorem runE_none {os : List Oq} {e : Ev} (h : runE os e = none) : O.MO.run os ⟨e.t, e.k, e.v, e.l⟩ = (zeroE, false) := by
  unfold runE at h
  split at h
  · cases h
  · rename_i hb
    rcases run_keeps os ⟨e.t, e.k, e.v, e.l⟩ with ⟨h1, _⟩ | h
    · exact absurd h1 hb
    · exact h
theorem runE_nil (e : Ev) : runE [] e = some e := by simp [runE, O.MO.run]

/-- Does the clock go on? -/
def goes (m t : Int) : Bool := decide (m < t ∧ t ≤ 1099512676352)
/-- What an input turns. -/
def stepR (p : Pq) (r : Rs) (i : Inp) : Rs :=
  if i.mrk = true then (if goes r.m i.e.t = true then ⟨i.e.t, r.l, r.s, r.L.drop (endN p.n i.e.t r.L)⟩ else r)
  else if okT i.e.t = true then
    (if i.e.t < r.m then ⟨r.m, r.l + 1, r.s + 1, r.L⟩
     else match runE p.os i.e with
      | some x => ⟨r.m, r.l, r.s + 1, putE p.n p.s p.a r.L x⟩
      | none => ⟨r.m, r.l, r.s + 1, r.L⟩)
  else r
/-- The rows that an input tells. -/
def rowR (p : Pq) (r : Rs) (i : Inp) : List Pn :=
  if (i.mrk && goes r.m i.e.t) = true then r.L.take (endN p.n i.e.t r.L) else []
def stR (p : Pq) (r : Rs) (is : List Inp) : Rs := is.foldl (stepR p) r
def rowsR (p : Pq) : Rs → List Inp → List Pn
  | _, [] => []
  | r, i :: is => rowR p r i ++ rowsR p (stepR p r i) is
theorem stR_nil (p : Pq) (r : Rs) : stR p r [] = r := rfl
theorem stR_snoc (p : Pq) (r : Rs) (is : List Inp) (i : Inp) : stR p r (is ++ [i]) = stepR p (stR p r is) i := by simp [stR]
theorem stR_append (p : Pq) (r : Rs) (a b : List Inp) : stR p r (a ++ b) = stR p (stR p r a) b := by simp [stR]
theorem rowsR_append (p : Pq) : ∀ (a : List Inp) (r : Rs) (b : List Inp), rowsR p r (a ++ b) = rowsR p r a ++ rowsR p (stR p r a) b
  | [], r, b => rfl
  | i :: a, r, b => by
    show rowR p r i ++ rowsR p (stepR p r i) (a ++ b) = _
    rw [rowsR_append p a, ← List.append_assoc]
    rfl
theorem rowsR_snoc (p : Pq) (r : Rs) (is : List Inp) (i : Inp) : rowsR p r (is ++ [i]) = rowsR p r is ++ rowR p (stR p r is) i := by
  rw [rowsR_append]; simp [rowsR]
def iAt (is : List Inp) (j : Nat) : Inp := is.getD j ⟨false, ⟨0, 0, 0, 0⟩⟩
theorem take_in (is : List Inp) (j : Nat) (h : j < is.length) : is.take (j + 1) = is.take j ++ [iAt is j] := by
  rw [List.take_succ_eq_append_getElem h]
  simp [iAt, List.getD_eq_getElem?_getD, h]
theorem iAt_mem (is : List Inp) (j : Nat) (h : j < is.length) : iAt is j ∈ is := by
  simp [iAt, List.getD_eq_getElem?_getD, h]

/- The four ways of an input. -/
theorem step_mark {p : Pq} {r : Rs} {i : Inp} (h : i.mrk = true) (hg : goes r.m i.e.t = true) : stepR p r i = ⟨i.e.t, r.l, r.s, r.L.drop (endN p.n i.e.t r.L)⟩ ∧ rowR p r i = r.L.take (endN p.n i.e.t r.L) := by
  unfold stepR rowR; rw [if_pos h, if_pos hg, h, hg]; exact ⟨rfl, rfl⟩
theorem step_still {p : Pq} {r : Rs} {i : Inp} (h : i.mrk = true) (hg : goes r.m i.e.t = false) : stepR p r i = r ∧ rowR p r i = [] := by
  unfold stepR rowR; rw [if_pos h, if_neg (by rw [hg]; decide), h, hg]; exact ⟨rfl, rfl⟩
theorem row_event {p : Pq} {r : Rs} {i : Inp} (h : i.mrk = false) : rowR p r i = [] := by
  unfold rowR; rw [h]; rfl
theorem step_none {p : Pq} {r : Rs} {i : Inp} (h : i.mrk = false) (ht : okT i.e.t = false) : stepR p r i = r := by
  unfold stepR; rw [if_neg (by rw [h]; decide), if_neg (by rw [ht]; decide)]
theorem step_late {p : Pq} {r : Rs} {i : Inp} (h : i.mrk = false) (ht : okT i.e.t = true) (hl : i.e.t < r.m) : stepR p r i = ⟨r.m, r.l + 1, r.s + 1, r.L⟩ := by
  unfold stepR; rw [if_neg (by rw [h]; decide), if_pos ht, if_pos hl]
theorem step_drop {p : Pq} {r : Rs} {i : Inp} (h : i.mrk = false) (ht : okT i.e.t = true) (hl : ¬ i.e.t < r.m) (hx : runE p.os i.e = none) : stepR p r i = ⟨r.m, r.l, r.s + 1, r.L⟩ := by
  unfold stepR; rw [if_neg (by rw [h]; decide), if_pos ht, if_neg hl, hx]
theorem step_put {p : Pq} {r : Rs} {i : Inp} {x : Ev} (h : i.mrk = false) (ht : okT i.e.t = true) (hl : ¬ i.e.t < r.m) (hx : runE p.os i.e = some x) : stepR p r i = ⟨r.m, r.l, r.s + 1, putE p.n p.s p.a r.L x⟩ := by
  unfold stepR; rw [if_neg (by rw [h]; decide), if_pos ht, if_neg hl, hx]
theorem step_len (p : Pq) (r : Rs) (i : Inp) : (stepR p r i).L.length ≤ r.L.length + 8 ∧ (rowR p r i).length ≤ r.L.length := by
  cases h : i.mrk with
  | true =>
    cases hg : goes r.m i.e.t with
    | true => rw [(step_mark h hg).1, (step_mark (p := p) h hg).2]; simp; omega
    | false => rw [(step_still h hg).1, (step_still (p := p) h hg).2]; simp
  | false =>
    rw [row_event h]
    refine ⟨?_, by simp⟩
    cases ht : okT i.e.t with
    | false => rw [step_none h ht]; omega
    | true =>
      by_cases hl : i.e.t < r.m
      · rw [step_late h ht hl]; show r.L.length ≤ _; omega
      · cases hx : runE p.os i.e with
        | none => rw [step_drop h ht hl hx]; show r.L.length ≤ _; omega
        | some x => rw [step_put h ht hl hx]; exact putE_len _ _ _ _ _
theorem step_total (p : Pq) (r : Rs) (i : Inp) : (stepR p r i).L.length + (rowR p r i).length ≤ r.L.length + 8 := by
  cases h : i.mrk with
  | true =>
    cases hg : goes r.m i.e.t with
    | true =>
      rw [(step_mark h hg).1, (step_mark (p := p) h hg).2]
      simp only [List.length_drop, List.length_take]
      omega
    | false => rw [(step_still h hg).1, (step_still (p := p) h hg).2]; simp
  | false =>
    rw [row_event h]
    have := (step_len p r i).1
    simp; omega
theorem all_total (p : Pq) : ∀ (is : List Inp) (r : Rs), (stR p r is).L.length + (rowsR p r is).length ≤ r.L.length + 8 * is.length
  | [], r => by simp [stR, rowsR]
  | i :: is, r => by
    have h1 := step_total p r i
    have h2 := all_total p is (stepR p r i)
    have e1 : stR p r (i :: is) = stR p (stepR p r i) is := rfl
    have e2 : rowsR p r (i :: is) = rowR p r i ++ rowsR p (stepR p r i) is := rfl
    rw [e1, e2, List.length_append, List.length_cons]
    omega
/-- How much is counted. -/
theorem step_counts (p : Pq) (r : Rs) (i : Inp) : r.l ≤ (stepR p r i).l ∧ (stepR p r i).l ≤ r.l + 1 ∧ r.s ≤ (stepR p r i).s ∧ (stepR p r i).s ≤ r.s + 1 := by
  unfold stepR
  repeat' split
  all_goals (refine ⟨?_, ?_, ?_, ?_⟩ <;> first | omega | (simp only []; omega))
theorem all_counts (p : Pq) : ∀ (is : List Inp) (r : Rs), r.l ≤ (stR p r is).l ∧ (stR p r is).l ≤ r.l + is.length ∧ r.s ≤ (stR p r is).s ∧ (stR p r is).s ≤ r.s + is.length
  | [], r => by simp [stR]
  | i :: is, r => by
    have h1 := step_counts p r i
    have h2 := all_counts p is (stepR p r i)
    have e1 : stR p r (i :: is) = stR p (stepR p r i) is := rfl
    rw [e1, List.length_cons]
    omega
end Go.Proofs.Ytnamjnopicghhaa.M
