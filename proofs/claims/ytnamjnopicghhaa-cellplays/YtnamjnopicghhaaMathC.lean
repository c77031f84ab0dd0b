/- Plain mathematics: closing at marks; what all that was put in comes to. Nothing of the program is in this text. -/
import Derived.Test.YtnamjnopicghhaaMathP
namespace Go.Proofs.Ytnamjnopicghhaa.M
open Go.RowKit

/- Closing. -/
theorem endN_take (n m : Int) : ∀ (L : List Pn), ∀ p ∈ L.take (endN n m L), p.s + n ≤ m
  | [], p, h => by simp [endN] at h
  | q :: r, p, h => by
    unfold endN at h
    split at h
    · rename_i hq
      rw [List.take_succ_cons] at h
      rcases List.mem_cons.1 h with rfl | h
      · exact hq
      · exact endN_take n m r p h
    · simp at h
theorem endN_drop (n m : Int) : ∀ (L : List Pn), Srt L → ∀ p ∈ L.drop (endN n m L), m < p.s + n
  | [], _, p, h => by simp [endN] at h
  | q :: r, hs, p, h => by
    obtain ⟨h1, h2⟩ := List.pairwise_cons.1 hs
    unfold endN at h
    split at h
    · rw [List.drop_succ_cons] at h
      exact endN_drop n m r h2 p h
    · rename_i hq
      rw [List.drop_zero] at h
      rcases List.mem_cons.1 h with rfl | h
      · omega
      · have := h1 p h
        unfold lt at this
        omega
theorem endN_zero (n m : Int) (L : List Pn) (h : ∀ p ∈ L, m < p.s + n) : endN n m L = 0 := by
  cases L with
  | nil => rfl
  | cons q r =>
    have := h q (by simp)
    unfold endN
    rw [if_neg (by omega)]
theorem endN_two (n x y : Int) (hxy : x ≤ y) : ∀ (L : List Pn), endN n y L = endN n x L + endN n y (L.drop (endN n x L))
  | [] => rfl
  | q :: r => by
    by_cases hx : q.s + n ≤ x
    · have e1 : endN n x (q :: r) = endN n x r + 1 := by show (if _ then _ else _) = _; rw [if_pos hx]
      have e2 : endN n y (q :: r) = endN n y r + 1 := by show (if _ then _ else _) = _; rw [if_pos (by omega)]
      rw [e1, e2, List.drop_succ_cons, endN_two n x y hxy r]
      omega
    · have e1 : endN n x (q :: r) = 0 := by unfold endN; rw [if_neg hx]
      rw [e1, List.drop_zero, Nat.zero_add]
theorem close_two (n x y : Int) (hxy : x ≤ y) (L : List Pn) : L.take (endN n x L) ++ (L.drop (endN n x L)).take (endN n y (L.drop (endN n x L))) = L.take (endN n y L) := by
  rw [endN_two n x y hxy L, ← List.take_add]
theorem drop_two (n x y : Int) (hxy : x ≤ y) (L : List Pn) : (L.drop (endN n x L)).drop (endN n y (L.drop (endN n x L))) = L.drop (endN n y L) := by
  rw [endN_two n x y hxy L, List.drop_drop]

/- What is put in, one place after the other. -/
structure Up where
  s : Int
  k : Int
  v : Int
  l : Nat
def lab (us : List Up) : Nat := us.foldl (fun a u => a ||| u.l) 0
def run (K : Int) (L : List Pn) (us : List Up) : List Pn := us.foldl (fun L u => upd K u.s u.k u.v u.l L) L
def ups (n sl : Int) (e : Ev) : List Up := (starts e.t n sl).map fun s => ⟨s, e.k, e.v, e.l⟩
def upl (n sl : Int) (es : List Ev) : List Up := es.flatMap (ups n sl)
theorem putE_run (n sl K : Int) (L : List Pn) (e : Ev) : putE n sl K L e = run K L (ups n sl e) := by
  unfold putE putS run ups
  rw [List.foldl_map]
theorem putL_run (n sl K : Int) : ∀ (es : List Ev) (L : List Pn), putL n sl K L es = run K L (upl n sl es)
  | [], L => rfl
  | e :: r, L => by
    show putL n sl K (putE n sl K L e) r = _
    rw [putL_run n sl K r, putE_run]
    simp only [run, upl, List.flatMap_cons, List.foldl_append]
theorem upl_append (n sl : Int) (a b : List Ev) : upl n sl (a ++ b) = upl n sl a ++ upl n sl b := by simp [upl]
def sel (s k : Int) (us : List Up) : List Up := us.filter fun u => decide (u.s = s ∧ u.k = k)
theorem sel_append (s k : Int) (a b : List Up) : sel s k (a ++ b) = sel s k a ++ sel s k b := by simp [sel]
def mk (K s k : Int) (us : List Up) : Pn := ⟨s, k, (sel s k us).length, val K ((sel s k us).map (·.v)), lab (sel s k us)⟩
theorem lab_snoc (us : List Up) (u : Up) : lab (us ++ [u]) = lab us ||| u.l := by simp [lab]
theorem lab_from (a : Nat) (us : List Up) : us.foldl (fun a u => a ||| u.l) a = a ||| lab us := by
  induction us generalizing a with
  | nil => simp [lab]
  | cons u r ih =>
    have e : lab (u :: r) = u.l ||| lab r := by
      show r.foldl _ (0 ||| u.l) = _
      rw [ih]; simp
    rw [List.foldl_cons, ih, e, Nat.or_assoc]
theorem lab_append (a b : List Up) : lab (a ++ b) = lab a ||| lab b := by
  unfold lab
  rw [List.foldl_append, lab_from]
  rfl
theorem lab_comm (a b : List Up) : lab (a ++ b) = lab (b ++ a) := by rw [lab_append, lab_append, Nat.or_comm]

/-- The panes are what was put in comes to. -/
structure Inv (K : Int) (L : List Pn) (us : List Up) : Prop where
  srt : Srt L
  is : ∀ p ∈ L, p = mk K p.s p.k us ∧ sel p.s p.k us ≠ []
  all : ∀ u ∈ us, ∃ p ∈ L, p.s = u.s ∧ p.k = u.k
theorem inv_nil (K : Int) : Inv K [] [] := ⟨List.Pairwise.nil, by simp, by simp⟩
theorem sel_self (s k x : Int) (l : Nat) : sel s k [⟨s, k, x, l⟩] = [⟨s, k, x, l⟩] := by simp [sel]
theorem sel_other {s k s' k' x : Int} {l : Nat} (h : ¬ (s = s' ∧ k = k')) : sel s' k' [⟨s, k, x, l⟩] = [] := by simp [sel]; omega
theorem mk_other (K : Int) {s k s' k' x : Int} {l : Nat} (us : List Up) (h : ¬ (s = s' ∧ k = k')) : mk K s' k' (us ++ [⟨s, k, x, l⟩]) = mk K s' k' us ∧ sel s' k' (us ++ [⟨s, k, x, l⟩]) = sel s' k' us := by
  have : sel s' k' (us ++ [⟨s, k, x, l⟩]) = sel s' k' us := by rw [sel_append, sel_other h, List.append_nil]
  exact ⟨by unfold mk; rw [this], this⟩
theorem mk_tk (K s k x : Int) (l : Nat) (us : List Up) (hl : us.length < 4611686018427387904) : tk K x l (mk K s k us) = mk K s k (us ++ [⟨s, k, x, l⟩]) := by
  have h1 : (sel s k us).length ≤ us.length := List.length_filter_le _ _
  unfold mk tk
  rw [sel_append, sel_self, List.map_append, List.length_append, lab_snoc]
  simp only [List.map_cons, List.map_nil, List.length_cons, List.length_nil]
  rw [val_snoc, List.length_map, wrap_in _ (by omega)]
  congr 1
theorem mk_none (K s k : Int) (us : List Up) (h : sel s k us = []) : mk K s k us = fresh s k := by
  unfold mk fresh
  rw [h]
  simp [val_nil, lab]
/-- Who is in the list behind one more: the same ones as before but at that place. -/
theorem upd_mem (K s k x : Int) (l : Nat) : ∀ (L : List Pn), Srt L → ∀ p, p ∈ upd K s k x l L ↔ (p ∈ L ∧ ¬ (s = p.s ∧ k = p.k)) ∨ (p = tk K x l (fresh s k) ∧ ∀ q ∈ L, ¬ (s = q.s ∧ k = q.k)) ∨ ∃ q ∈ L, s = q.s ∧ k = q.k ∧ p = tk K x l q
  | [], _, p => by simp [upd]
  | q :: r, hs, p => by
    obtain ⟨h1, h2⟩ := List.pairwise_cons.1 hs
    have ih := upd_mem K s k x l r h2 p
    unfold upd
    by_cases hb : bef s k q = true
    · have hb' := (bef_iff s k q).1 hb
      have hq : ¬ (s = q.s ∧ k = q.k) := by omega
      rw [if_pos hb, List.mem_cons, ih]
      constructor
      · rintro (rfl | ⟨a, b⟩ | ⟨a, b⟩ | ⟨y, hy, a⟩)
        · exact .inl ⟨by simp, hq⟩
        · exact .inl ⟨by simp [a], b⟩
        · exact .inr (.inl ⟨a, by
            intro z hz
            rcases List.mem_cons.1 hz with rfl | hz
            · exact hq
            · exact b z hz⟩)
        · exact .inr (.inr ⟨y, by simp [hy], a⟩)
      · rintro (⟨a, b⟩ | ⟨a, b⟩ | ⟨y, hy, a1, a2, a3⟩)
        · rcases List.mem_cons.1 a with rfl | a
          · exact .inl rfl
          · exact .inr (.inl ⟨a, b⟩)
        · exact .inr (.inr (.inl ⟨a, fun z hz => b z (by simp [hz])⟩))
        · rcases List.mem_cons.1 hy with rfl | hy
          · exact absurd ⟨a1, a2⟩ hq
          · exact .inr (.inr (.inr ⟨y, hy, a1, a2, a3⟩))
    · have hb' : ¬ (q.s < s ∨ (q.s = s ∧ q.k < k)) := fun h => hb ((bef_iff s k q).2 h)
      have hr : ∀ z ∈ r, ¬ (s = z.s ∧ k = z.k) := by
        intro z hz
        have := h1 z hz
        unfold lt at this
        omega
      rw [if_neg hb]
      by_cases ha : isAt s k q = true
      · have ha' := (isAt_iff s k q).1 ha
        rw [if_pos ha, List.mem_cons]
        constructor
        · rintro (rfl | a)
          · exact .inr (.inr ⟨q, by simp, by omega, by omega, rfl⟩)
          · exact .inl ⟨by simp [a], hr p a⟩
        · rintro (⟨a, b⟩ | ⟨a, b⟩ | ⟨y, hy, a1, a2, a3⟩)
          · rcases List.mem_cons.1 a with rfl | a
            · omega
            · exact .inr a
          · have := b q (by simp); omega
          · rcases List.mem_cons.1 hy with rfl | hy
            · exact .inl a3
            · exact absurd ⟨a1, a2⟩ (hr y hy)
      · have ha' : ¬ (q.s = s ∧ q.k = k) := fun h => ha ((isAt_iff s k q).2 h)
        rw [if_neg ha, List.mem_cons]
        have hall : ∀ z ∈ q :: r, ¬ (s = z.s ∧ k = z.k) := by
          intro z hz
          rcases List.mem_cons.1 hz with rfl | hz
          · omega
          · exact hr z hz
        constructor
        · rintro (rfl | a)
          · exact .inr (.inl ⟨rfl, hall⟩)
          · exact .inl ⟨a, hall p a⟩
        · rintro (⟨a, b⟩ | ⟨a, b⟩ | ⟨y, hy, a1, a2, a3⟩)
          · exact .inr a
          · exact .inl a
          · exact absurd ⟨a1, a2⟩ (hall y hy)
theorem inv_upd {K : Int} {L : List Pn} {us : List Up} (h : Inv K L us) (s k x : Int) (l : Nat) (hl : us.length < 4611686018427387904) : Inv K (upd K s k x l L) (us ++ [⟨s, k, x, l⟩]) := by
  have hsne : sel s k (us ++ [⟨s, k, x, l⟩]) ≠ [] := by rw [sel_append, sel_self]; simp
  refine ⟨srt_upd K s k x l L h.srt, fun p hp => ?_, fun u hu => ?_⟩
  · rcases (upd_mem K s k x l L h.srt p).1 hp with ⟨a, b⟩ | ⟨rfl, b⟩ | ⟨q, hq, rfl, rfl, rfl⟩
    · obtain ⟨e1, e2⟩ := mk_other (x := x) (l := l) K us b
      rw [e1, e2]
      exact h.is p a
    · have h0 : sel s k us = [] := by
        cases hc : sel s k us with
        | nil => rfl
        | cons u r =>
          have hu : u ∈ sel s k us := by rw [hc]; simp
          simp only [sel, List.mem_filter, decide_eq_true_iff] at hu
          obtain ⟨q, hq, e1, e2⟩ := h.all u hu.1
          exact absurd ⟨by omega, by omega⟩ (b q hq)
      refine ⟨?_, hsne⟩
      show tk K x l (fresh s k) = mk K s k _
      rw [← mk_none K s k us h0, mk_tk K s k x l us hl]
    · refine ⟨?_, hsne⟩
      show tk K x l q = mk K q.s q.k _
      rw [← mk_tk K q.s q.k x l us hl, ← (h.is q hq).1]
  · rcases List.mem_append.1 hu with hu | hu
    · obtain ⟨q, hq, e1, e2⟩ := h.all u hu
      by_cases hc : s = q.s ∧ k = q.k
      · exact ⟨tk K x l q, (upd_mem K s k x l L h.srt _).2 (.inr (.inr ⟨q, hq, hc.1, hc.2, rfl⟩)), e1, e2⟩
      · exact ⟨q, (upd_mem K s k x l L h.srt _).2 (.inl ⟨hq, hc⟩), e1, e2⟩
    · rw [List.mem_singleton] at hu
      subst hu
      by_cases hc : ∃ q ∈ L, s = q.s ∧ k = q.k
      · obtain ⟨q, hq, e1, e2⟩ := hc
        exact ⟨tk K x l q, (upd_mem K s k x l L h.srt _).2 (.inr (.inr ⟨q, hq, e1, e2, rfl⟩)), e1.symm, e2.symm⟩
      · exact ⟨tk K x l (fresh s k), (upd_mem K s k x l L h.srt _).2 (.inr (.inl ⟨rfl, fun q hq hh => hc ⟨q, hq, hh⟩⟩)), rfl, rfl⟩
theorem inv_run {K : Int} : ∀ (vs : List Up) (L : List Pn) (us : List Up), Inv K L us → us.length + vs.length < 4611686018427387904 → Inv K (run K L vs) (us ++ vs)
  | [], L, us, h, _ => by simpa [run] using h
  | ⟨s, k, x, l⟩ :: r, L, us, h, hl => by
    have h1 := inv_upd h s k x l (by simp at hl; omega)
    have h2 := inv_run r (upd K s k x l L) (us ++ [⟨s, k, x, l⟩]) h1 (by simp at hl ⊢; omega)
    rw [List.append_assoc] at h2
    exact h2
theorem ups_len (n sl : Int) (e : Ev) : (ups n sl e).length ≤ 8 := by unfold ups; rw [List.length_map]; exact starts_len _ _ _
theorem upl_len (n sl : Int) : ∀ es : List Ev, (upl n sl es).length ≤ 8 * es.length
  | [] => by simp [upl]
  | e :: r => by
    have h1 := ups_len n sl e
    have h2 := upl_len n sl r
    have : upl n sl (e :: r) = ups n sl e ++ upl n sl r := by simp [upl]
    rw [this, List.length_append]; simp; omega
theorem inv_putL (n sl K : Int) (es : List Ev) (h : es.length ≤ 1000) : Inv K (putL n sl K [] es) (upl n sl es) := by
  rw [putL_run]
  have h1 := upl_len n sl es
  have := inv_run (upl n sl es) [] [] (inv_nil K) (by simp; omega)
  simpa using this
/-- Two lists in order with the same members are the same. -/
theorem srt_ext : ∀ (L M : List Pn), Srt L → Srt M → (∀ p, p ∈ L ↔ p ∈ M) → L = M
  | [], [], _, _, _ => rfl
  | [], q :: r, _, _, h => absurd ((h q).2 (by simp)) (by simp)
  | q :: r, [], _, _, h => absurd ((h q).1 (by simp)) (by simp)
  | p :: r, q :: t, hL, hM, h => by
    obtain ⟨l1, l2⟩ := List.pairwise_cons.1 hL
    obtain ⟨m1, m2⟩ := List.pairwise_cons.1 hM
    have irr : ∀ x : Pn, ¬ lt x x := fun x hx => by unfold lt at hx; omega
    have e : p = q := by
      rcases List.mem_cons.1 ((h p).1 (by simp)) with e | e
      · exact e
      · rcases List.mem_cons.1 ((h q).2 (by simp)) with e' | e'
        · exact e'.symm
        · exact absurd (lt_trans (l1 q e') (m1 p e)) (irr p)
    subst e
    congr 1
    refine srt_ext r t l2 m2 fun x => ⟨fun hx => ?_, fun hx => ?_⟩
    · rcases List.mem_cons.1 ((h x).1 (by simp [hx])) with e | e
      · subst e; exact absurd (l1 x hx) (irr x)
      · exact e
    · rcases List.mem_cons.1 ((h x).2 (by simp [hx])) with e | e
      · subst e; exact absurd (m1 x hx) (irr x)
      · exact e
theorem inv_mem {K : Int} {L : List Pn} {us : List Up} (h : Inv K L us) (p : Pn) : p ∈ L ↔ p = mk K p.s p.k us ∧ sel p.s p.k us ≠ [] := by
  refine ⟨h.is p, fun ⟨e, hne⟩ => ?_⟩
  obtain ⟨u, hu⟩ := List.exists_mem_of_ne_nil _ hne
  simp only [sel, List.mem_filter, decide_eq_true_iff] at hu
  obtain ⟨q, hq, e1, e2⟩ := h.all u hu.1
  have hq2 := (h.is q hq).1
  rw [e1, e2, hu.2.1, hu.2.2, ← e] at hq2
  rw [← hq2]; exact hq
/-- What comes of two parts in the other order. -/
theorem turn_mk (K s k : Int) (a b : List Up) : mk K s k (b ++ a) = mk K s k (a ++ b) := by
  unfold mk
  rw [sel_append, sel_append, List.map_append, List.map_append, val_comm, lab_comm, List.length_append, List.length_append, Nat.add_comm]
theorem inv_turn {K : Int} {L M : List Pn} {a b : List Up} (h1 : Inv K L (a ++ b)) (h2 : Inv K M (b ++ a)) : M = L := by
  refine srt_ext M L h2.srt h1.srt fun p => ?_
  rw [inv_mem h1, inv_mem h2, turn_mk, sel_append, sel_append]
  simp [and_comm]
theorem putL_turn (n sl K : Int) (es : List Ev) (c : Nat) (h : es.length ≤ 1000) : putL n sl K [] (es.drop c ++ es.take c) = putL n sl K [] es := by
  have h1 := inv_putL n sl K es h
  have h2 := inv_putL n sl K (es.drop c ++ es.take c) (by simp; omega)
  rw [upl_append] at h2
  have e : upl n sl es = upl n sl (es.take c) ++ upl n sl (es.drop c) := by rw [← upl_append, List.take_append_drop]
  rw [e] at h1
  exact inv_turn h1 h2
end Go.Proofs.Ytnamjnopicghhaa.M
