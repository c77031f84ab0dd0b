/- Plain mathematics: a runner of one key's events, beside a runner of all. Nothing of the program is in this text. -/
import Derived.Test.YtnamjnopicghhaaMathR
import Derived.Test.YtnamjnopicghhaaMathK
namespace Go.Proofs.Ytnamjnopicghhaa.M
open Go.RowKit
open Go.Proofs.Ytnamjnopicghhaa.O.MO (Oq Pq app zeroE)

theorem rowsK_append (x : Int) (a b : List Pn) : rowsK x (a ++ b) = rowsK x a ++ rowsK x b := by simp [rowsK]
/-- A value put into a window of this key, or of another one. -/
theorem rowsK_upd (y K s k x : Int) (l : Nat) : ∀ L : List Pn, Srt L → rowsK y (upd K s k x l L) = if k = y then upd K s k x l (rowsK y L) else rowsK y L
  | [], _ => by
    by_cases h : k = y
    · rw [if_pos h]; simp [rowsK, upd, tk, fresh, h]
    · rw [if_neg h]; simp [rowsK, upd, tk, fresh, h]
  | p :: r, hs => by
    obtain ⟨h1, h2⟩ := List.pairwise_cons.1 hs
    have ih := rowsK_upd y K s k x l r h2
    by_cases hb : bef s k p = true
    · have e : upd K s k x l (p :: r) = p :: upd K s k x l r := by show (if _ then _ else _) = _; rw [if_pos hb]
      rw [e]
      by_cases hp : p.k = y
      · have e1 : ∀ M, rowsK y (p :: M) = p :: rowsK y M := fun M => by simp [rowsK, hp]
        rw [e1, e1, ih]
        by_cases h : k = y
        · rw [if_pos h, if_pos h]
          show _ = (if _ then _ else _)
          rw [if_pos hb]
        · rw [if_neg h, if_neg h]
      · have e1 : ∀ M, rowsK y (p :: M) = rowsK y M := fun M => by simp [rowsK, hp]
        rw [e1, e1, ih]
    · by_cases ha : isAt s k p = true
      · have e : upd K s k x l (p :: r) = tk K x l p :: r := by show (if _ then _ else (if _ then _ else _)) = _; rw [if_neg hb, if_pos ha]
        have hk := ((isAt_iff s k p).1 ha).2
        rw [e]
        by_cases h : k = y
        · have hp : p.k = y := hk.trans h
          have e1 : rowsK y (tk K x l p :: r) = tk K x l p :: rowsK y r := by simp [rowsK, tk, hp]
          have e2 : rowsK y (p :: r) = p :: rowsK y r := by simp [rowsK, hp]
          rw [if_pos h, e1, e2]
          show _ = (if _ then _ else (if _ then _ else _))
          rw [if_neg hb, if_pos ha]
        · have hp : ¬ p.k = y := by rw [hk]; exact h
          have e1 : rowsK y (tk K x l p :: r) = rowsK y r := by simp [rowsK, tk, hp]
          have e2 : rowsK y (p :: r) = rowsK y r := by simp [rowsK, hp]
          rw [if_neg h, e1, e2]
      · have e : upd K s k x l (p :: r) = tk K x l (fresh s k) :: p :: r := by show (if _ then _ else (if _ then _ else _)) = _; rw [if_neg hb, if_neg ha]
        rw [e]
        by_cases h : k = y
        · have e1 : rowsK y (tk K x l (fresh s k) :: p :: r) = tk K x l (fresh s k) :: rowsK y (p :: r) := by simp [rowsK, tk, fresh, h]
          rw [if_pos h, e1]
          have hall : ∀ q ∈ rowsK y (p :: r), bef s k q = false ∧ isAt s k q = false := by
            intro q hq
            have hq2 : q ∈ p :: r := (List.mem_filter.1 hq).1
            have hnb : bef s k p = false := by simpa using hb
            rcases List.mem_cons.1 hq2 with rfl | hq3
            · exact ⟨hnb, by simpa using ha⟩
            · have hlt := h1 q hq3
              have g1 : ¬ (p.s < s ∨ p.s = s ∧ p.k < k) := by rw [← bef_iff]; simp [hnb]
              have g2 : ¬ (p.s = s ∧ p.k = k) := by rw [← isAt_iff]; simpa using ha
              unfold lt at hlt
              refine ⟨?_, ?_⟩
              · rw [Bool.eq_false_iff]; intro hc; rw [bef_iff] at hc; omega
              · rw [Bool.eq_false_iff]; intro hc; rw [isAt_iff] at hc; omega
          cases hM : rowsK y (p :: r) with
          | nil => rfl
          | cons z M =>
            obtain ⟨g1, g2⟩ := hall z (by rw [hM]; simp)
            show _ = (if _ then _ else (if _ then _ else _))
            rw [if_neg (by rw [g1]; decide), if_neg (by rw [g2]; decide)]
        · have e1 : rowsK y (tk K x l (fresh s k) :: p :: r) = rowsK y (p :: r) := by simp [rowsK, tk, fresh, h]
          rw [if_neg h, e1]
theorem rowsK_putS (y K k x : Int) (l : Nat) : ∀ (ss : List Int) (L : List Pn), Srt L → rowsK y (putS K k x l L ss) = if k = y then putS K k x l (rowsK y L) ss else rowsK y L
  | [], L, _ => by simp [putS]
  | s :: r, L, h => by
    have e : ∀ M, putS K k x l M (s :: r) = putS K k x l (upd K s k x l M) r := fun _ => rfl
    rw [e, rowsK_putS y K k x l r _ (srt_upd K s k x l L h), rowsK_upd y K s k x l L h]
    by_cases hk : k = y
    · rw [if_pos hk, if_pos hk, if_pos hk, e]
    · rw [if_neg hk, if_neg hk, if_neg hk]
theorem rowsK_putE (y n sl K : Int) (L : List Pn) (e : Ev) (h : Srt L) : rowsK y (putE n sl K L e) = if e.k = y then putE n sl K (rowsK y L) e else rowsK y L := rowsK_putS y K e.k e.v e.l (starts e.t n sl) L h
/-- Closing, in a list in order, is a filter. -/
theorem take_filter (n m : Int) : ∀ L : List Pn, Srt L → L.take (endN n m L) = L.filter (fun p => decide (p.s + n ≤ m)) ∧ L.drop (endN n m L) = L.filter (fun p => !decide (p.s + n ≤ m))
  | [], _ => ⟨rfl, rfl⟩
  | q :: r, h => by
    obtain ⟨h1, h2⟩ := List.pairwise_cons.1 h
    obtain ⟨i1, i2⟩ := take_filter n m r h2
    by_cases hq : q.s + n ≤ m
    · have e : endN n m (q :: r) = endN n m r + 1 := by show (if _ then _ else _) = _; rw [if_pos hq]
      rw [e, List.take_succ_cons, List.drop_succ_cons, i1, i2]
      simp [hq]
    · have e : endN n m (q :: r) = 0 := by show (if _ then _ else _) = _; rw [if_neg hq]
      have hall : ∀ p ∈ r, ¬ p.s + n ≤ m := fun p hp => by have := h1 p hp; unfold lt at this; omega
      rw [e, List.take_zero, List.drop_zero]
      refine ⟨?_, ?_⟩
      · symm
        rw [List.filter_eq_nil_iff]
        intro p hp
        rcases List.mem_cons.1 hp with rfl | hp
        · simpa using hq
        · simpa using hall p hp
      · symm
        rw [List.filter_eq_self]
        intro p hp
        rcases List.mem_cons.1 hp with rfl | hp
        · simpa using hq
        · simpa using hall p hp
theorem srt_rowsK (y : Int) {L : List Pn} (h : Srt L) : Srt (rowsK y L) := List.Pairwise.sublist (List.filter_sublist) h
theorem close_K (y n m : Int) {L : List Pn} (h : Srt L) : rowsK y (L.take (endN n m L)) = (rowsK y L).take (endN n m (rowsK y L)) ∧ rowsK y (L.drop (endN n m L)) = (rowsK y L).drop (endN n m (rowsK y L)) := by
  obtain ⟨a1, a2⟩ := take_filter n m L h
  obtain ⟨b1, b2⟩ := take_filter n m (rowsK y L) (srt_rowsK y h)
  rw [a1, a2, b1, b2]
  unfold rowsK
  rw [List.filter_filter, List.filter_filter, List.filter_filter, List.filter_filter]
  refine ⟨?_, ?_⟩ <;> (congr 1; funext p; exact Bool.and_comm _ _)
/-- The inputs of one key, and all marks. -/
def forK (y : Int) (i : Inp) : Bool := i.mrk || decide (i.e.k = y)
/-- Two runners, one of all, one of one key's. -/
structure TwoK (y : Int) (a b : Rs) : Prop where
  m : a.m = b.m
  l : b.l ≤ a.l
  s : b.s ≤ a.s
  L : b.L = rowsK y a.L
theorem two_step {p : Pq} {y : Int} {a b : Rs} {i : Inp} (hos : p.os = []) (h : TwoK y a b) (hs : Srt a.L) :
    (forK y i = true → TwoK y (stepR p a i) (stepR p b i) ∧ rowsK y (rowR p a i) = rowR p b i) ∧ (forK y i = false → TwoK y (stepR p a i) b ∧ rowR p a i = []) := by
  obtain ⟨h1, h2, h3, h4⟩ := h
  cases hm : i.mrk with
  | true =>
    have hf : forK y i = true := by simp [forK, hm]
    refine ⟨fun _ => ?_, fun h => by rw [hf] at h; cases h⟩
    cases hg : goes a.m i.e.t with
    | true =>
      have hg2 : goes b.m i.e.t = true := by rw [← h1]; exact hg
      obtain ⟨c1, c2⟩ := close_K y p.n i.e.t hs
      rw [(step_mark (p := p) hm hg).1, (step_mark (p := p) hm hg).2, (step_mark (p := p) hm hg2).1, (step_mark (p := p) hm hg2).2]
      refine ⟨⟨rfl, h2, h3, ?_⟩, ?_⟩
      · show b.L.drop _ = _; rw [h4]; exact c2.symm
      · rw [h4]; exact c1
    | false =>
      have hg2 : goes b.m i.e.t = false := by rw [← h1]; exact hg
      rw [(step_still (p := p) hm hg).1, (step_still (p := p) hm hg).2, (step_still (p := p) hm hg2).1, (step_still (p := p) hm hg2).2]
      exact ⟨⟨h1, h2, h3, h4⟩, rfl⟩
  | false =>
    rw [row_event hm, row_event (r := b) hm]
    have hx : runE p.os i.e = some i.e := by rw [hos]; exact runE_nil _
    refine ⟨fun hf => ⟨?_, rfl⟩, fun hf => ⟨?_, rfl⟩⟩
    · have hk : i.e.k = y := by simpa [forK, hm] using hf
      cases ht : okT i.e.t with
      | false => rw [step_none hm ht, step_none hm ht]; exact ⟨h1, h2, h3, h4⟩
      | true =>
        by_cases hl : i.e.t < a.m
        · rw [step_late hm ht hl, step_late hm ht (by rw [← h1]; exact hl)]
          exact ⟨h1, by show b.l + 1 ≤ a.l + 1; omega, by show b.s + 1 ≤ a.s + 1; omega, h4⟩
        · rw [step_put hm ht hl hx, step_put hm ht (by rw [← h1]; exact hl) hx]
          refine ⟨h1, h2, by show b.s + 1 ≤ a.s + 1; omega, ?_⟩
          show putE p.n p.s p.a b.L i.e = rowsK y (putE p.n p.s p.a a.L i.e)
          rw [rowsK_putE y p.n p.s p.a a.L i.e hs, if_pos hk, h4]
    · have hk : ¬ i.e.k = y := by simpa [forK, hm] using hf
      cases ht : okT i.e.t with
      | false => rw [step_none hm ht]; exact ⟨h1, h2, h3, h4⟩
      | true =>
        by_cases hl : i.e.t < a.m
        · rw [step_late hm ht hl]
          exact ⟨h1, by show b.l ≤ a.l + 1; omega, by show b.s ≤ a.s + 1; omega, h4⟩
        · rw [step_put hm ht hl hx]
          refine ⟨h1, h2, by show b.s ≤ a.s + 1; omega, ?_⟩
          show b.L = rowsK y (putE p.n p.s p.a a.L i.e)
          rw [rowsK_putE y p.n p.s p.a a.L i.e hs, if_neg hk, h4]
end Go.Proofs.Ytnamjnopicghhaa.M
