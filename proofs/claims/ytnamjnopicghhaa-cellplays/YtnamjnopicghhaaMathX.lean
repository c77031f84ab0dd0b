/- Plain mathematics of whole lists of inputs: beginnings, ends, orders, marks between, keys by themselves, labels. Nothing of the program is in this text. -/
import Derived.Test.YtnamjnopicghhaaMathQ
import Derived.Test.YtnamjnopicghhaaMathL
namespace Go.Proofs.Ytnamjnopicghhaa.M
open Go.RowKit
open Go.Proofs.Ytnamjnopicghhaa.O.MO (Oq Pq app zeroE)
set_option linter.unusedVariables false

abbrev r0 : Rs := ⟨0, 0, 0, []⟩
/-- The mark at the end. -/
abbrev endI : Inp := ⟨true, ⟨1000, 0, 0, 0⟩⟩

/- Beginnings. -/
theorem rows_cut (p : Pq) (r : Rs) (is : List Inp) (c : Nat) : rowsR p r is = rowsR p r (is.take c) ++ rowsR p (stR p r (is.take c)) (is.drop c) := by
  rw [← rowsR_append, List.take_append_drop]
theorem rows_len (p : Pq) (is : List Inp) : (rowsR p r0 is).length ≤ 8 * is.length ∧ (stR p r0 is).L.length ≤ 8 * is.length := by
  have := all_total p is r0
  have e : r0.L.length = 0 := rfl
  omega

/- Ends: where all windows' ends lie. -/
def Lim (n m : Int) (L : List Pn) : Prop := ∀ q ∈ L, q.s + n ≤ m
theorem lim_nil (n m : Int) : Lim n m [] := fun q h => by cases h
theorem lim_upd {n m K s k x : Int} {l : Nat} {L : List Pn} (h : Lim n m L) (hs : s + n ≤ m) : Lim n m (upd K s k x l L) := by
  intro q hq
  rcases mem_upd K s k x l L q hq with rfl | hq | ⟨z, hz, rfl⟩
  · exact hs
  · exact h q hq
  · exact h z hz
theorem lim_putS {n m K k x : Int} {l : Nat} : ∀ (ss : List Int) (L : List Pn), Lim n m L → (∀ s ∈ ss, s + n ≤ m) → Lim n m (putS K k x l L ss)
  | [], L, h, _ => h
  | s :: r, L, h, hs => by
    have e : putS K k x l L (s :: r) = putS K k x l (upd K s k x l L) r := rfl
    rw [e]
    exact lim_putS r _ (lim_upd h (hs s (by simp))) (fun z hz => hs z (by simp [hz]))
theorem lim_putE {n sl K m : Int} {L : List Pn} {e : Ev} (h : Lim n m L) (ht : e.t + n ≤ m) : Lim n m (putE n sl K L e) :=
  lim_putS _ _ h (fun s hs => by have := mem_starts hs; omega)
theorem lim_drop {n m : Int} {L : List Pn} (h : Lim n m L) (i : Nat) : Lim n m (L.drop i) := fun q hq => h q (List.mem_of_mem_drop hq)
theorem endN_all (n m : Int) : ∀ L : List Pn, Lim n m L → endN n m L = L.length
  | [], _ => rfl
  | q :: r, h => by
    have ih := endN_all n m r (fun z hz => h z (by simp [hz]))
    unfold endN
    rw [if_pos (h q (by simp)), ih]; rfl
theorem lim_step {p : Pq} {r : Rs} {i : Inp} {m : Int} (h : Lim p.n m r.L) (ht : i.mrk = false → i.e.t + p.n ≤ m) : Lim p.n m (stepR p r i).L := by
  cases hm : i.mrk with
  | true =>
    cases hg : goes r.m i.e.t with
    | true => rw [(step_mark hm hg).1]; exact lim_drop h _
    | false => rw [(step_still hm hg).1]; exact h
  | false =>
    cases hk : okT i.e.t with
    | false => rw [step_none hm hk]; exact h
    | true =>
      by_cases hl : i.e.t < r.m
      · rw [step_late hm hk hl]; exact h
      · cases hx : runE p.os i.e with
        | none => rw [step_drop hm hk hl hx]; exact h
        | some x =>
          rw [step_put hm hk hl hx]
          exact lim_putE h (by rw [(runE_some hx).2.1]; exact ht hm)
theorem lim_all {p : Pq} {m : Int} : ∀ (is : List Inp) (r : Rs), Lim p.n m r.L → (∀ i ∈ is, i.mrk = false → i.e.t + p.n ≤ m) → Lim p.n m (stR p r is).L
  | [], r, h, _ => h
  | i :: is, r, h, ht => lim_all is _ (lim_step h (ht i (by simp))) (fun z hz => ht z (by simp [hz]))
/-- A mark past all. -/
theorem end_all {p : Pq} {is : List Inp} (hn : p.n ≤ 48) (ht : ∀ i ∈ is, i.e.t ≤ 160) :
    (stR p r0 (is ++ [endI])).L = [] ∧ rowsR p r0 (is ++ [endI]) = rowsR p r0 is ++ (stR p r0 is).L := by
  have hl : Lim p.n 1000 (stR p r0 is).L := lim_all is r0 (lim_nil _ _) (fun i hi _ => by have := ht i hi; omega)
  have hm := all_mark p is r0 (fun i hi _ => ht i hi) (Int.le_refl _) (by decide)
  have hg : goes (stR p r0 is).m endI.e.t = true := by unfold goes; simp; omega
  obtain ⟨e1, e2⟩ := step_mark (p := p) (i := endI) rfl hg
  rw [stR_snoc, rowsR_snoc, e1, e2, endN_all p.n _ _ hl]
  simp

/- Labels. -/
def labI (i : Inp) : Nat := if i.mrk = true then 0 else i.e.l
def labs (is : List Inp) : Nat := is.foldl (fun a i => a ||| labI i) 0
theorem labs_snoc (is : List Inp) (i : Inp) : labs (is ++ [i]) = labs is ||| labI i := by simp [labs]
theorem labs_from (a : Nat) : ∀ is : List Inp, is.foldl (fun a i => a ||| labI i) a = a ||| labs is
  | [] => by simp [labs]
  | i :: r => by
    have h1 := labs_from (a ||| labI i) r
    have h2 := labs_from (0 ||| labI i) r
    show r.foldl (fun a i => a ||| labI i) (a ||| labI i) = a ||| r.foldl (fun a i => a ||| labI i) (0 ||| labI i)
    rw [h1, h2, Nat.zero_or, Nat.or_assoc]
theorem labs_cons (i : Inp) (r : List Inp) : labs (i :: r) = labI i ||| labs r := by
  have := labs_from (0 ||| labI i) r
  show r.foldl (fun a i => a ||| labI i) (0 ||| labI i) = _
  rw [this, Nat.zero_or]
theorem labs_append (a b : List Inp) : labs (a ++ b) = labs a ||| labs b := by
  unfold labs; rw [List.foldl_append, labs_from]; rfl
theorem labs_lt : ∀ is : List Inp, (∀ i ∈ is, i.e.l < 18446744073709551616) → labs is < 18446744073709551616
  | [], _ => by decide
  | i :: r, h => by
    rw [labs_cons]
    refine or_lt ?_ (labs_lt r (fun z hz => h z (by simp [hz])))
    unfold labI; split
    · decide
    · exact h i (by simp)
/-- Is a within b? -/
def Sub (a b : Nat) : Prop := a ||| b = b
theorem sub_or {a b c : Nat} (h1 : Sub a c) (h2 : Sub b c) : Sub (a ||| b) c := by unfold Sub at *; rw [Nat.or_assoc, h2, h1]
theorem sub_zero (a : Nat) : Sub 0 a := Nat.zero_or a
theorem sub_lab {i : Inp} {is : List Inp} (h : i ∈ is) : Sub (labI i) (labs is) := by
  obtain ⟨a, b, rfl⟩ := List.append_of_mem h
  rw [labs_append, labs_cons]
  unfold Sub
  rw [← Nat.or_assoc, ← Nat.or_assoc, Nat.or_comm (labI i) (labs a), Nat.or_assoc (labs a), Nat.or_self, Nat.or_assoc]
def LabL (M : Nat) (L : List Pn) : Prop := ∀ q ∈ L, Sub q.l M
theorem labL_nil (M : Nat) : LabL M [] := fun q h => by cases h
theorem labL_upd {M l : Nat} {K s k x : Int} {L : List Pn} (h : LabL M L) (hl : Sub l M) : LabL M (upd K s k x l L) := by
  intro q hq
  rcases mem_upd K s k x l L q hq with rfl | hq | ⟨z, hz, rfl⟩
  · exact sub_or (sub_zero _) hl
  · exact h q hq
  · exact sub_or (h z hz) hl
theorem labL_putS {M l : Nat} {K k x : Int} (hl : Sub l M) : ∀ (ss : List Int) (L : List Pn), LabL M L → LabL M (putS K k x l L ss)
  | [], L, h => h
  | s :: r, L, h => labL_putS hl r _ (labL_upd h hl)
theorem labL_step {p : Pq} {r : Rs} {i : Inp} {M : Nat} (h : LabL M r.L) (hl : Sub (labI i) M) : LabL M (stepR p r i).L ∧ LabL M (rowR p r i) := by
  cases hm : i.mrk with
  | true =>
    cases hg : goes r.m i.e.t with
    | true => rw [(step_mark hm hg).1, (step_mark (p := p) hm hg).2]; exact ⟨fun q hq => h q (List.mem_of_mem_drop hq), fun q hq => h q (List.mem_of_mem_take hq)⟩
    | false => rw [(step_still hm hg).1, (step_still (p := p) hm hg).2]; exact ⟨h, labL_nil _⟩
  | false =>
    rw [row_event hm]
    refine ⟨?_, labL_nil _⟩
    cases hk : okT i.e.t with
    | false => rw [step_none hm hk]; exact h
    | true =>
      by_cases hl : i.e.t < r.m
      · rw [step_late hm hk hl]; exact h
      · cases hx : runE p.os i.e with
        | none => rw [step_drop hm hk hl hx]; exact h
        | some x =>
          rw [step_put hm hk hl hx]
          refine labL_putS ?_ _ _ h
          rw [(runE_some hx).2.2]
          have e : labI i = i.e.l := by unfold labI; rw [hm]; rfl
          rw [← e]; assumption
theorem labL_all {p : Pq} {M : Nat} : ∀ (is : List Inp) (r : Rs), LabL M r.L → (∀ i ∈ is, Sub (labI i) M) → LabL M (stR p r is).L ∧ LabL M (rowsR p r is)
  | [], r, h, _ => ⟨h, labL_nil _⟩
  | i :: is, r, h, hl => by
    obtain ⟨h1, h2⟩ := labL_step (p := p) h (hl i (by simp))
    obtain ⟨h3, h4⟩ := labL_all (p := p) is _ h1 (fun z hz => hl z (by simp [hz]))
    refine ⟨h3, ?_⟩
    intro q hq
    have e : rowsR p r (i :: is) = rowR p r i ++ rowsR p (stepR p r i) is := rfl
    rw [e] at hq
    rcases List.mem_append.1 hq with hq | hq
    · exact h2 q hq
    · exact h4 q hq
theorem rows_labs (p : Pq) (is : List Inp) : LabL (labs is) (rowsR p r0 (is ++ [endI])) := by
  refine (labL_all (p := p) (is ++ [endI]) r0 (labL_nil _) (fun i hi => ?_)).2
  rcases List.mem_append.1 hi with hi | hi
  · exact sub_lab hi
  · rw [List.mem_singleton.1 hi]; exact sub_zero _

/- Keys by themselves, of any kind of keys. -/
def rowsP (P : Int → Bool) (L : List Pn) : List Pn := L.filter fun p => P p.k
theorem rowsP_append (P : Int → Bool) (a b : List Pn) : rowsP P (a ++ b) = rowsP P a ++ rowsP P b := by simp [rowsP]
theorem srt_rowsP (P : Int → Bool) {L : List Pn} (h : Srt L) : Srt (rowsP P L) := List.Pairwise.sublist (List.filter_sublist) h
theorem rowsP_upd (P : Int → Bool) (K s k x : Int) (l : Nat) : ∀ L : List Pn, Srt L → rowsP P (upd K s k x l L) = if P k = true then upd K s k x l (rowsP P L) else rowsP P L
  | [], _ => by
    by_cases h : P k = true
    · rw [if_pos h]; simp [rowsP, upd, tk, fresh, h]
    · rw [if_neg h]; simp [rowsP, upd, tk, fresh, h]
  | p :: r, hs => by
    obtain ⟨h1, h2⟩ := List.pairwise_cons.1 hs
    have ih := rowsP_upd P K s k x l r h2
    by_cases hb : bef s k p = true
    · have e : upd K s k x l (p :: r) = p :: upd K s k x l r := by show (if _ then _ else _) = _; rw [if_pos hb]
      rw [e]
      by_cases hp : P p.k = true
      · have e1 : ∀ M, rowsP P (p :: M) = p :: rowsP P M := fun M => by simp [rowsP, hp]
        rw [e1, e1, ih]
        by_cases h : P k = true
        · rw [if_pos h, if_pos h]
          show _ = (if _ then _ else _)
          rw [if_pos hb]
        · rw [if_neg h, if_neg h]
      · have e1 : ∀ M, rowsP P (p :: M) = rowsP P M := fun M => by simp [rowsP, hp]
        rw [e1, e1, ih]
    · by_cases ha : isAt s k p = true
      · have e : upd K s k x l (p :: r) = tk K x l p :: r := by show (if _ then _ else (if _ then _ else _)) = _; rw [if_neg hb, if_pos ha]
        have hk := ((isAt_iff s k p).1 ha).2
        rw [e]
        by_cases h : P k = true
        · have hp : P p.k = true := by rw [hk]; exact h
          have e1 : rowsP P (tk K x l p :: r) = tk K x l p :: rowsP P r := by simp [rowsP, tk, hp]
          have e2 : rowsP P (p :: r) = p :: rowsP P r := by simp [rowsP, hp]
          rw [if_pos h, e1, e2]
          show _ = (if _ then _ else (if _ then _ else _))
          rw [if_neg hb, if_pos ha]
        · have hp : ¬ P p.k = true := by rw [hk]; exact h
          have e1 : rowsP P (tk K x l p :: r) = rowsP P r := by simp [rowsP, tk, hp]
          have e2 : rowsP P (p :: r) = rowsP P r := by simp [rowsP, hp]
          rw [if_neg h, e1, e2]
      · have e : upd K s k x l (p :: r) = tk K x l (fresh s k) :: p :: r := by show (if _ then _ else (if _ then _ else _)) = _; rw [if_neg hb, if_neg ha]
        rw [e]
        by_cases h : P k = true
        · have e1 : rowsP P (tk K x l (fresh s k) :: p :: r) = tk K x l (fresh s k) :: rowsP P (p :: r) := by simp [rowsP, tk, fresh, h]
          rw [if_pos h, e1]
          have hall : ∀ q ∈ rowsP P (p :: r), bef s k q = false ∧ isAt s k q = false := by
            intro q hq
            have hq2 : q ∈ p :: r := (List.mem_filter.1 hq).1
            have hnb : bef s k p = false := by simpa using hb
            rcases List.mem_cons.1 hq2 with rfl | hq3
            · exact ⟨hnb, by simpa using ha⟩
            · have hlt := h1 q hq3
              have g1 : ¬ (p.s < s ∨ p.s = s ∧ p.k < k) := by rw [← bef_iff]; simp [hnb]
              have g2 : ¬ (p.s = s ∧ p.k = k) := by rw [← isAt_iff]; simpa using ha
              unfold lt at hlt
              refine ⟨?_, ?_⟩
              · rw [Bool.eq_false_iff]; intro hc; rw [bef_iff] at hc; omega
              · rw [Bool.eq_false_iff]; intro hc; rw [isAt_iff] at hc; omega
          cases hM : rowsP P (p :: r) with
          | nil => rfl
          | cons z M =>
            obtain ⟨g1, g2⟩ := hall z (by rw [hM]; simp)
            show _ = (if _ then _ else (if _ then _ else _))
            rw [if_neg (by rw [g1]; decide), if_neg (by rw [g2]; decide)]
        · have e1 : rowsP P (tk K x l (fresh s k) :: p :: r) = rowsP P (p :: r) := by simp [rowsP, tk, fresh, h]
          rw [if_neg h, e1]
theorem rowsP_putS (P : Int → Bool) (K k x : Int) (l : Nat) : ∀ (ss : List Int) (L : List Pn), Srt L → rowsP P (putS K k x l L ss) = if P k = true then putS K k x l (rowsP P L) ss else rowsP P L
  | [], L, _ => by simp [putS]
  | s :: r, L, h => by
    have e : ∀ M, putS K k x l M (s :: r) = putS K k x l (upd K s k x l M) r := fun _ => rfl
    rw [e, rowsP_putS P K k x l r _ (srt_upd K s k x l L h), rowsP_upd P K s k x l L h]
    by_cases hk : P k = true
    · rw [if_pos hk, if_pos hk, if_pos hk, e]
    · rw [if_neg hk, if_neg hk, if_neg hk]
theorem rowsP_putE (P : Int → Bool) (n sl K : Int) (L : List Pn) (e : Ev) (h : Srt L) : rowsP P (putE n sl K L e) = if P e.k = true then putE n sl K (rowsP P L) e else rowsP P L := rowsP_putS P K e.k e.v e.l (starts e.t n sl) L h
theorem close_P (P : Int → Bool) (n m : Int) {L : List Pn} (h : Srt L) : rowsP P (L.take (endN n m L)) = (rowsP P L).take (endN n m (rowsP P L)) ∧ rowsP P (L.drop (endN n m L)) = (rowsP P L).drop (endN n m (rowsP P L)) := by
  obtain ⟨a1, a2⟩ := take_filter n m L h
  obtain ⟨b1, b2⟩ := take_filter n m (rowsP P L) (srt_rowsP P h)
  rw [a1, a2, b1, b2]
  unfold rowsP
  rw [List.filter_filter, List.filter_filter, List.filter_filter, List.filter_filter]
  refine ⟨?_, ?_⟩ <;> (congr 1; funext p; exact Bool.and_comm _ _)
theorem srt_drop {L : List Pn} (h : Srt L) (i : Nat) : Srt (L.drop i) := List.Pairwise.sublist (List.drop_sublist _ _) h
theorem srt_putS (K k x : Int) (l : Nat) : ∀ (ss : List Int) (L : List Pn), Srt L → Srt (putS K k x l L ss)
  | [], L, h => h
  | s :: r, L, h => srt_putS K k x l r _ (srt_upd K s k x l L h)
theorem srt_step {p : Pq} {r : Rs} {i : Inp} (h : Srt r.L) : Srt (stepR p r i).L := by
  cases hm : i.mrk with
  | true =>
    cases hg : goes r.m i.e.t with
    | true => rw [(step_mark hm hg).1]; exact srt_drop h _
    | false => rw [(step_still hm hg).1]; exact h
  | false =>
    cases hk : okT i.e.t with
    | false => rw [step_none hm hk]; exact h
    | true =>
      by_cases hl : i.e.t < r.m
      · rw [step_late hm hk hl]; exact h
      · cases hx : runE p.os i.e with
        | none => rw [step_drop hm hk hl hx]; exact h
        | some x => rw [step_put hm hk hl hx]; exact srt_putS _ _ _ _ _ _ h
theorem srt_all {p : Pq} : ∀ (is : List Inp) (r : Rs), Srt r.L → Srt (stR p r is).L
  | [], r, h => h
  | i :: is, r, h => srt_all is _ (srt_step h)
/-- The inputs of these keys, and all marks. -/
def forP (P : Int → Bool) (i : Inp) : Bool := i.mrk || P i.e.k
structure TwoP (P : Int → Bool) (a b : Rs) : Prop where
  m : a.m = b.m
  L : b.L = rowsP P a.L
theorem twoP_step {p : Pq} {P : Int → Bool} {a b : Rs} {i : Inp} (hos : p.os = []) (h : TwoP P a b) (hs : Srt a.L) :
    (forP P i = true → TwoP P (stepR p a i) (stepR p b i) ∧ rowsP P (rowR p a i) = rowR p b i) ∧ (forP P i = false → TwoP P (stepR p a i) b ∧ rowR p a i = []) := by
  obtain ⟨h1, h4⟩ := h
  cases hm : i.mrk with
  | true =>
    have hf : forP P i = true := by simp [forP, hm]
    refine ⟨fun _ => ?_, fun h => by rw [hf] at h; cases h⟩
    cases hg : goes a.m i.e.t with
    | true =>
      have hg2 : goes b.m i.e.t = true := by rw [← h1]; exact hg
      obtain ⟨c1, c2⟩ := close_P P p.n i.e.t hs
      rw [(step_mark (p := p) hm hg).1, (step_mark (p := p) hm hg).2, (step_mark (p := p) hm hg2).1, (step_mark (p := p) hm hg2).2]
      refine ⟨⟨rfl, ?_⟩, ?_⟩
      · show b.L.drop _ = _; rw [h4]; exact c2.symm
      · rw [h4]; exact c1
    | false =>
      have hg2 : goes b.m i.e.t = false := by rw [← h1]; exact hg
      rw [(step_still (p := p) hm hg).1, (step_still (p := p) hm hg).2, (step_still (p := p) hm hg2).1, (step_still (p := p) hm hg2).2]
      exact ⟨⟨h1, h4⟩, rfl⟩
  | false =>
    rw [row_event hm, row_event (r := b) hm]
    have hx : runE p.os i.e = some i.e := by rw [hos]; exact runE_nil _
    refine ⟨fun hf => ⟨?_, rfl⟩, fun hf => ⟨?_, rfl⟩⟩
    · have hk : P i.e.k = true := by simpa [forP, hm] using hf
      cases ht : okT i.e.t with
      | false => rw [step_none hm ht, step_none hm ht]; exact ⟨h1, h4⟩
      | true =>
        by_cases hl : i.e.t < a.m
        · rw [step_late hm ht hl, step_late hm ht (by rw [← h1]; exact hl)]
          exact ⟨h1, h4⟩
        · rw [step_put hm ht hl hx, step_put hm ht (by rw [← h1]; exact hl) hx]
          refine ⟨h1, ?_⟩
          show putE p.n p.s p.a b.L i.e = rowsP P (putE p.n p.s p.a a.L i.e)
          rw [rowsP_putE P p.n p.s p.a a.L i.e hs, if_pos hk, h4]
    · have hk : ¬ P i.e.k = true := by
        have : P i.e.k = false := by simpa [forP, hm] using hf
        rw [this]; decide
      cases ht : okT i.e.t with
      | false => rw [step_none hm ht]; exact ⟨h1, h4⟩
      | true =>
        by_cases hl : i.e.t < a.m
        · rw [step_late hm ht hl]
          exact ⟨h1, h4⟩
        · rw [step_put hm ht hl hx]
          refine ⟨h1, ?_⟩
          show b.L = rowsP P (putE p.n p.s p.a a.L i.e)
          rw [rowsP_putE P p.n p.s p.a a.L i.e hs, if_neg hk, h4]
theorem twoP_all {p : Pq} {P : Int → Bool} (hos : p.os = []) : ∀ (is : List Inp) (a b : Rs), TwoP P a b → Srt a.L →
    rowsP P (rowsR p a is) = rowsR p b (is.filter (forP P))
  | [], a, b, _, _ => rfl
  | i :: is, a, b, h, hs => by
    obtain ⟨h1, h2⟩ := twoP_step (p := p) (i := i) hos h hs
    have e : rowsR p a (i :: is) = rowR p a i ++ rowsR p (stepR p a i) is := rfl
    rw [e, rowsP_append]
    cases hf : forP P i with
    | true =>
      obtain ⟨g1, g2⟩ := h1 hf
      rw [List.filter_cons_of_pos hf, twoP_all hos is _ _ g1 (srt_step hs), g2]; rfl
    | false =>
      obtain ⟨g1, g2⟩ := h2 hf
      rw [List.filter_cons_of_neg (by rw [hf]; decide), twoP_all hos is _ _ g1 (srt_step hs), g2]; rfl
theorem parts_rows {p : Pq} (hos : p.os = []) (P : Int → Bool) (is : List Inp) : rowsP P (rowsR p r0 is) = rowsR p r0 (is.filter (forP P)) :=
  twoP_all hos is r0 r0 ⟨rfl, rfl⟩ List.Pairwise.nil
theorem parts_labs (P : Int → Bool) : ∀ is : List Inp, labs is = labs (is.filter (forP P)) ||| labs (is.filter (forP fun k => !P k))
  | [] => by simp [labs]
  | i :: r => by
    have ih := parts_labs P r
    rw [labs_cons, ih]
    cases hm : i.mrk with
    | true =>
      have e1 : forP P i = true := by simp [forP, hm]
      have e2 : forP (fun k => !P k) i = true := by simp [forP, hm]
      have e3 : labI i = 0 := by unfold labI; rw [hm]; rfl
      rw [List.filter_cons_of_pos e1, List.filter_cons_of_pos e2, labs_cons, labs_cons, e3, Nat.zero_or, Nat.zero_or, Nat.zero_or]
    | false =>
      cases hk : P i.e.k with
      | true =>
        have e1 : forP P i = true := by simp [forP, hk]
        have e2 : ¬ forP (fun k => !P k) i = true := by simp [forP, hm, hk]
        rw [List.filter_cons_of_pos e1, List.filter_cons_of_neg e2, labs_cons, Nat.or_assoc]
      | false =>
        have e1 : ¬ forP P i = true := by simp [forP, hm, hk]
        have e2 : forP (fun k => !P k) i = true := by simp [forP, hk]
        rw [List.filter_cons_of_neg e1, List.filter_cons_of_pos e2, labs_cons, ← Nat.or_assoc, Nat.or_comm (labI i), Nat.or_assoc]

/- Events alone, then the mark at the end. -/
def evI (e : Ev) : Inp := ⟨false, e⟩
theorem events_all {p : Pq} (hos : p.os = []) : ∀ (es : List Ev) (r : Rs), r.m = 0 → (∀ e ∈ es, okT e.t = true) →
    rowsR p r (es.map evI) = [] ∧ (stR p r (es.map evI)).L = putL p.n p.s p.a r.L es ∧ (stR p r (es.map evI)).m = 0
  | [], r, h, _ => ⟨rfl, rfl, h⟩
  | e :: es, r, h, ht => by
    have hx : runE p.os (evI e).e = some e := by rw [hos]; exact runE_nil _
    have hk : okT (evI e).e.t = true := ht e (by simp)
    have h0 : 0 ≤ e.t := by have := of_decide_eq_true (p := 0 ≤ e.t ∧ e.t ≤ 1099511627776) hk; exact this.1
    have hl : ¬ (evI e).e.t < r.m := by show ¬ e.t < r.m; omega
    obtain ⟨g1, g2, g3⟩ := events_all hos es (stepR p r (evI e)) (by rw [step_put rfl hk hl hx]; exact h) (fun z hz => ht z (by simp [hz]))
    have e1 : rowsR p r ((e :: es).map evI) = rowR p r (evI e) ++ rowsR p (stepR p r (evI e)) (es.map evI) := rfl
    have e2 : stR p r ((e :: es).map evI) = stR p (stepR p r (evI e)) (es.map evI) := rfl
    rw [e1, e2, g1, row_event rfl]
    refine ⟨rfl, ?_, g3⟩
    rw [g2, step_put rfl hk hl hx]; rfl
theorem end_events {p : Pq} (hos : p.os = []) (hn : p.n ≤ 48) (es : List Ev) (ht : ∀ e ∈ es, 0 ≤ e.t ∧ e.t ≤ 120) :
    rowsR p r0 (es.map evI ++ [endI]) = putL p.n p.s p.a [] es := by
  obtain ⟨g1, g2, g3⟩ := events_all hos es r0 rfl (fun e he => by have := ht e he; unfold okT; simp; omega)
  rw [(end_all hn (fun i hi => by obtain ⟨e, he, rfl⟩ := List.mem_map.1 hi; have := ht e he; show e.t ≤ 160; omega)).2, g1, g2]
  rfl
theorem order_rows {p : Pq} (hos : p.os = []) (hn : p.n ≤ 48) (es : List Ev) (ht : ∀ e ∈ es, 0 ≤ e.t ∧ e.t ≤ 120) (hl : es.length ≤ 1000) (c : Nat) :
    rowsR p r0 ((es.drop c).map evI ++ (es.take c).map evI ++ [endI]) = rowsR p r0 (es.map evI ++ [endI]) := by
  rw [← List.map_append, end_events hos hn _ (fun e he => ht e (by rcases List.mem_append.1 he with h | h; exact List.mem_of_mem_drop h; exact List.mem_of_mem_take h)), end_events hos hn es ht, putL_turn _ _ _ _ _ hl]
theorem keys_upd {P : Int → Prop} {K s k x : Int} {l : Nat} {L : List Pn} (h : ∀ q ∈ L, P q.k) (hk : P k) : ∀ q ∈ upd K s k x l L, P q.k := by
  intro q hq
  rcases mem_upd K s k x l L q hq with rfl | hq | ⟨z, hz, rfl⟩
  · exact hk
  · exact h q hq
  · exact h z hz
theorem keys_putS {P : Int → Prop} {K k x : Int} {l : Nat} (hk : P k) : ∀ (ss : List Int) (L : List Pn), (∀ q ∈ L, P q.k) → ∀ q ∈ putS K k x l L ss, P q.k
  | [], L, h => h
  | s :: r, L, h => keys_putS hk r _ (keys_upd h hk)
theorem keys_putL {P : Int → Prop} {n sl K : Int} : ∀ (es : List Ev) (L : List Pn), (∀ q ∈ L, P q.k) → (∀ e ∈ es, P e.k) → ∀ q ∈ putL n sl K L es, P q.k
  | [], L, h, _ => h
  | e :: es, L, h, he => keys_putL es _ (keys_putS (he e (by simp)) _ _ h) (fun z hz => he z (by simp [hz]))
theorem putL_snoc (n sl K : Int) (L : List Pn) (es : List Ev) (e : Ev) : putL n sl K L (es ++ [e]) = putE n sl K (putL n sl K L es) e := by simp [putL]
theorem srt_putL (n sl K : Int) : ∀ (es : List Ev) (L : List Pn), Srt L → Srt (putL n sl K L es)
  | [], L, h => h
  | e :: es, L, h => srt_putL n sl K es _ (srt_putS _ _ _ _ _ _ h)
/-- An event more, of another key. -/
theorem more_rows {p : Pq} (hos : p.os = []) (hn : p.n ≤ 48) (es : List Ev) (ht : ∀ e ∈ es, 0 ≤ e.t ∧ e.t ≤ 120 ∧ e.k ≤ 3) (y : Int) (hy : 4 ≤ y) (x : Ev) (hx : x.k = y) (hxt : 0 ≤ x.t ∧ x.t ≤ 120) :
    rowsP (fun k => !decide (k = y)) (rowsR p r0 (es.map evI ++ [evI x] ++ [endI])) = rowsR p r0 (es.map evI ++ [endI]) := by
  have e1 : es.map evI ++ [evI x] = (es ++ [x]).map evI := by simp
  rw [e1, end_events hos hn (es ++ [x]) (fun e he => by rcases List.mem_append.1 he with h | h; (have := ht e h; omega); rw [List.mem_singleton.1 h]; exact hxt), end_events hos hn es (fun e he => by have := ht e he; omega), putL_snoc, rowsP_putE _ _ _ _ _ _ (srt_putL _ _ _ _ _ List.Pairwise.nil), if_neg (by simp [hx])]
  unfold rowsP
  rw [List.filter_eq_self]
  intro q hq
  have := keys_putL (P := fun k => k ≤ 3) (n := p.n) (sl := p.s) (K := p.a) es [] (fun q h => by cases h) (fun e he => (ht e he).2.2) q hq
  simp; omega

/- Marks between. -/
theorem upd_app (K s k x : Int) (l : Nat) (M : List Pn) : ∀ R : List Pn, (∀ q ∈ R, q.s < s) → upd K s k x l (R ++ M) = R ++ upd K s k x l M
  | [], _ => rfl
  | q :: r, h => by
    have hb : bef s k q = true := (bef_iff s k q).2 (.inl (h q (by simp)))
    show (if _ then q :: upd K s k x l (r ++ M) else _) = _
    rw [if_pos hb, upd_app K s k x l M r (fun z hz => h z (by simp [hz]))]; rfl
theorem putS_app (K k x : Int) (l : Nat) (R : List Pn) : ∀ (ss : List Int) (M : List Pn), (∀ s ∈ ss, ∀ q ∈ R, q.s < s) → putS K k x l (R ++ M) ss = R ++ putS K k x l M ss
  | [], M, _ => rfl
  | s :: r, M, h => by
    have e : ∀ N, putS K k x l N (s :: r) = putS K k x l (upd K s k x l N) r := fun _ => rfl
    rw [e, e, upd_app K s k x l M R (h s (by simp)), putS_app K k x l R r _ (fun z hz => h z (by simp [hz]))]
theorem starts_past {t n s x : Int} (h : x ∈ starts t n s) : t < x + n := by
  unfold starts at h
  split at h
  · rename_i hc
    rw [Bool.and_eq_true] at hc
    have hr := right_of hc.1
    have ht : 0 ≤ t ∧ t ≤ 1099511627776 := by have := hc.2; unfold okT at this; exact of_decide_eq_true this
    obtain ⟨i, hi, rfl⟩ := seg_mem h
    exact (at_bounds hr.1 hr.2.1 ht.1 hi).2.2
  · simp at h
theorem putE_app {n sl K : Int} {R M : List Pn} {e : Ev} (h : ∀ q ∈ R, q.s + n ≤ e.t) : putE n sl K (R ++ M) e = R ++ putE n sl K M e :=
  putS_app _ _ _ _ R _ M (fun s hs q hq => by have := starts_past hs; have := h q hq; omega)
/-- What the marked inputs have told and hold is what the plain ones hold. -/
structure Mk (p : Pq) (last : Int) (R : List Pn) (a b : Rs) : Prop where
  m0 : 0 ≤ a.m
  ml : a.m ≤ last
  l1 : last ≤ 120
  b0 : b.m = 0
  all : b.L = R ++ a.L
  old : ∀ q ∈ R, q.s + p.n ≤ a.m
theorem mk_start (p : Pq) : Mk p 0 [] r0 r0 := ⟨Int.le_refl _, Int.le_refl _, by decide, rfl, rfl, fun q h => by cases h⟩
theorem mk_mark {p : Pq} {last : Int} {R : List Pn} {a b : Rs} (h : Mk p last R a b) : Mk p last (R ++ rowR p a ⟨true, ⟨last, 0, 0, 0⟩⟩) (stepR p a ⟨true, ⟨last, 0, 0, 0⟩⟩) b := by
  obtain ⟨h1, h2, h3, h4, h5, h6⟩ := h
  cases hg : goes a.m last with
  | true =>
    have hlt : a.m < last := (of_decide_eq_true hg).1
    obtain ⟨e1, e2⟩ := step_mark (p := p) (r := a) (i := ⟨true, ⟨last, 0, 0, 0⟩⟩) rfl hg
    rw [e1, e2]
    refine ⟨by show 0 ≤ last; omega, Int.le_refl _, h3, h4, ?_, ?_⟩
    · show b.L = _ ++ _ ++ a.L.drop _
      rw [List.append_assoc, List.take_append_drop]; exact h5
    · intro q hq
      rcases List.mem_append.1 hq with hq | hq
      · have := h6 q hq; show q.s + p.n ≤ last; omega
      · exact endN_take p.n last a.L q hq
  | false =>
    obtain ⟨e1, e2⟩ := step_still (p := p) (r := a) (i := ⟨true, ⟨last, 0, 0, 0⟩⟩) rfl hg
    rw [e1, e2, List.append_nil]
    exact ⟨h1, h2, h3, h4, h5, h6⟩
theorem mk_event {p : Pq} {last : Int} {R : List Pn} {a b : Rs} {e : Ev} (h : Mk p last R a b) (h1 : last ≤ e.t) (h2 : e.t ≤ 120) : Mk p e.t R (stepR p a ⟨false, e⟩) (stepR p b ⟨false, e⟩) ∧ rowR p a ⟨false, e⟩ = [] ∧ rowR p b ⟨false, e⟩ = [] := by
  obtain ⟨g1, g2, g3, g4, g5, g6⟩ := h
  refine ⟨?_, row_event rfl, row_event rfl⟩
  have hk : okT e.t = true := by unfold okT; simp; omega
  have la : ¬ e.t < a.m := by omega
  have lb : ¬ e.t < b.m := by omega
  cases hx : runE p.os e with
  | none =>
    rw [step_drop (i := ⟨false, e⟩) rfl hk la hx, step_drop (i := ⟨false, e⟩) rfl hk lb hx]
    exact ⟨g1, by show a.m ≤ e.t; omega, h2, g4, g5, g6⟩
  | some x =>
    rw [step_put (i := ⟨false, e⟩) rfl hk la hx, step_put (i := ⟨false, e⟩) rfl hk lb hx]
    refine ⟨g1, by show a.m ≤ e.t; omega, h2, g4, ?_, g6⟩
    show putE p.n p.s p.a b.L x = R ++ putE p.n p.s p.a a.L x
    rw [g5, putE_app (fun q hq => by rw [(runE_some hx).2.1]; have := g6 q hq; omega)]
theorem rowsR_last (p : Pq) (r : Rs) (is : List Inp) (i : Inp) : rowsR p r (is ++ [i]) = rowsR p r is ++ rowR p (stR p r is) i := rowsR_snoc p r is i
/-- The lists so far: those with marks, those without. -/
structure Mks (p : Pq) (last : Int) (ms ps : List Inp) : Prop where
  sim : Mk p last (rowsR p r0 ms) (stR p r0 ms) (stR p r0 ps)
  no : rowsR p r0 ps = []
  tm : ∀ i ∈ ms, i.e.t ≤ 160
  tp : ∀ i ∈ ps, i.e.t ≤ 160
  l0 : 0 ≤ last
theorem mks_start (p : Pq) : Mks p 0 [] [] := ⟨mk_start p, rfl, (fun i h => by cases h), (fun i h => by cases h), Int.le_refl _⟩
theorem mks_mark {p : Pq} {last : Int} {ms ps : List Inp} (h : Mks p last ms ps) : Mks p last (ms ++ [⟨true, ⟨last, 0, 0, 0⟩⟩]) ps := by
  obtain ⟨h1, h2, h3, h4, h5⟩ := h
  refine ⟨?_, h2, fun i hi => ?_, h4, h5⟩
  · rw [rowsR_snoc, stR_snoc]; exact mk_mark h1
  · rcases List.mem_append.1 hi with hi | hi
    · exact h3 i hi
    · rw [List.mem_singleton.1 hi]; have := h1.l1; show last ≤ 160; omega
theorem mks_event {p : Pq} {last : Int} {ms ps : List Inp} {e : Ev} (h : Mks p last ms ps) (e1 : last ≤ e.t) (e2 : e.t ≤ 120) : Mks p e.t (ms ++ [⟨false, e⟩]) (ps ++ [⟨false, e⟩]) := by
  obtain ⟨h1, h2, h3, h4, h5⟩ := h
  obtain ⟨g1, g2, g3⟩ := mk_event h1 e1 e2
  refine ⟨?_, ?_, fun i hi => ?_, fun i hi => ?_, by omega⟩
  · rw [rowsR_snoc, stR_snoc, stR_snoc, g2, List.append_nil]; exact g1
  · rw [rowsR_snoc, h2, g3]; rfl
  · rcases List.mem_append.1 hi with hi | hi
    · exact h3 i hi
    · rw [List.mem_singleton.1 hi]; show e.t ≤ 160; omega
  · rcases List.mem_append.1 hi with hi | hi
    · exact h4 i hi
    · rw [List.mem_singleton.1 hi]; show e.t ≤ 160; omega
theorem mks_end {p : Pq} {last : Int} {ms ps : List Inp} (h : Mks p last ms ps) (hn : p.n ≤ 48) : rowsR p r0 (ms ++ [endI]) = rowsR p r0 (ps ++ [endI]) := by
  rw [(end_all hn h.tm).2, (end_all hn h.tp).2, h.no, h.sim.all]; rfl
end Go.Proofs.Ytnamjnopicghhaa.M
