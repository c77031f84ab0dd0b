/- Plain mathematics of open windows: a list of panes by start, then key; a value put into one of them. Nothing of the program is in this text. -/
import Derived.Test.YtnamjnopicghhaaMathW
import Derived.Test.YtnamjnopicghhaaMathA
namespace Go.Proofs.Ytnamjnopicghhaa.M
open Go.RowKit

structure Pn where
  s : Int
  k : Int
  c : Int
  v : Int
  l : Nat
deriving DecidableEq
structure Ev where
  t : Int
  k : Int
  v : Int
  l : Nat
deriving DecidableEq

def pAt (L : List Pn) (j : Nat) : Pn := L.getD j ⟨0, 0, 0, 0, 0⟩
def eAt (L : List Ev) (j : Nat) : Ev := L.getD j ⟨0, 0, 0, 0⟩
/-- Does the pane stand ahead of this place? -/
def bef (s k : Int) (p : Pn) : Bool := decide (p.s < s ∨ (p.s = s ∧ p.k < k))
def isAt (s k : Int) (p : Pn) : Bool := decide (p.s = s ∧ p.k = k)
def lt (p q : Pn) : Prop := p.s < q.s ∨ (p.s = q.s ∧ p.k < q.k)
def Srt (L : List Pn) : Prop := L.Pairwise lt
def fresh (s k : Int) : Pn := ⟨s, k, 0, 0, 0⟩
def tk (K x : Int) (l : Nat) (p : Pn) : Pn := ⟨p.s, p.k, wrap64 (p.c + 1), jv K p.c p.v (inp K x), p.l ||| l⟩
def pos (s k : Int) : List Pn → Nat
  | [] => 0
  | p :: r => if bef s k p = true then pos s k r + 1 else 0
def fnd (s k : Int) : List Pn → Bool
  | [] => false
  | p :: r => if bef s k p = true then fnd s k r else isAt s k p
/-- The list with that place in it. -/
def ens (s k : Int) : List Pn → List Pn
  | [] => [fresh s k]
  | p :: r => if bef s k p = true then p :: ens s k r else if isAt s k p = true then p :: r else fresh s k :: p :: r
/-- A value and a label taken into that place. -/
def upd (K s k x : Int) (l : Nat) : List Pn → List Pn
  | [] => [tk K x l (fresh s k)]
  | p :: r => if bef s k p = true then p :: upd K s k x l r else if isAt s k p = true then tk K x l p :: r else tk K x l (fresh s k) :: p :: r

theorem pAt_cons (p : Pn) (r : List Pn) (j : Nat) : pAt (p :: r) (j + 1) = pAt r j := by simp [pAt]
theorem pAt_zero (p : Pn) (r : List Pn) : pAt (p :: r) 0 = p := rfl
theorem pAt_get (L : List Pn) (j : Nat) (h : j < L.length) : L[j]? = some (pAt L j) := by
  simp [pAt, List.getD_eq_getElem?_getD, h]
theorem pAt_mem (L : List Pn) (j : Nat) (h : j < L.length) : pAt L j ∈ L := List.mem_of_getElem? (pAt_get L j h)

theorem pos_le (s k : Int) : ∀ L : List Pn, pos s k L ≤ L.length
  | [] => Nat.le_refl _
  | p :: r => by
    unfold pos
    have := pos_le s k r
    split <;> simp <;> omega
theorem pos_of (s k : Int) : ∀ (L : List Pn) (i : Nat), i ≤ L.length → (∀ j, j < i → bef s k (pAt L j) = true) → (i < L.length → bef s k (pAt L i) = false) → pos s k L = i
  | [], i, hi, _, _ => by simp at hi; subst hi; rfl
  | p :: r, 0, _, _, h2 => by
    have := h2 (by simp)
    rw [pAt_zero] at this
    simp [pos, this]
  | p :: r, i + 1, hi, h1, h2 => by
    have h0 := h1 0 (by omega)
    rw [pAt_zero] at h0
    have := pos_of s k r i (by simpa using hi) (fun j hj => by have := h1 (j + 1) (by omega); rwa [pAt_cons] at this) (fun h => by have := h2 (by simpa using h); rwa [pAt_cons] at this)
    simp [pos, h0, this]
theorem fnd_out (s k : Int) : ∀ (L : List Pn), pos s k L = L.length → fnd s k L = false
  | [], _ => rfl
  | p :: r, h => by
    unfold pos at h
    unfold fnd
    split at h
    · rename_i hb
      rw [if_pos hb]
      exact fnd_out s k r (by simpa using h)
    · simp at h
theorem fnd_at (s k : Int) : ∀ (L : List Pn), pos s k L < L.length → fnd s k L = isAt s k (pAt L (pos s k L))
  | [], h => absurd h (by simp)
  | p :: r, h => by
    unfold pos at h ⊢
    unfold fnd
    split at h
    · rename_i hb
      rw [if_pos hb, if_pos hb, pAt_cons]
      exact fnd_at s k r (by simpa using h)
    · rename_i hb
      rw [if_neg hb, if_neg hb, pAt_zero]
theorem fnd_lt (s k : Int) (L : List Pn) (h : fnd s k L = true) : pos s k L < L.length := by
  have h1 := pos_le s k L
  by_cases h2 : pos s k L = L.length
  · rw [fnd_out s k L h2] at h; cases h
  · omega
theorem ens_yes (s k : Int) : ∀ (L : List Pn), fnd s k L = true → ens s k L = L
  | [], h => by cases h
  | p :: r, h => by
    unfold fnd at h
    unfold ens
    split at h
    · rename_i hb; rw [if_pos hb, ens_yes s k r h]
    · rename_i hb; rw [if_neg hb, if_pos h]
theorem ens_no (s k : Int) : ∀ (L : List Pn), fnd s k L = false → ens s k L = L.take (pos s k L) ++ fresh s k :: L.drop (pos s k L)
  | [], _ => rfl
  | p :: r, h => by
    unfold fnd at h
    unfold ens pos
    split at h
    · rename_i hb; rw [if_pos hb, if_pos hb, ens_no s k r h]; simp
    · rename_i hb; rw [if_neg hb, if_neg hb, if_neg (by rw [h]; decide)]; simp
theorem ens_len (s k : Int) (L : List Pn) : (ens s k L).length ≤ L.length + 1 ∧ pos s k L < (ens s k L).length := by
  have h1 := pos_le s k L
  cases h : fnd s k L with
  | true => rw [ens_yes s k L h]; exact ⟨by omega, fnd_lt s k L h⟩
  | false => rw [ens_no s k L h]; simp; omega
theorem upd_eq (K s k x : Int) (l : Nat) : ∀ (L : List Pn), upd K s k x l L = (ens s k L).set (pos s k L) (tk K x l (pAt (ens s k L) (pos s k L)))
  | [] => rfl
  | p :: r => by
    unfold upd ens pos
    by_cases hb : bef s k p = true
    · rw [if_pos hb, if_pos hb, if_pos hb, List.set_cons_succ, pAt_cons, upd_eq K s k x l r]
    · rw [if_neg hb, if_neg hb, if_neg hb]
      by_cases ha : isAt s k p = true
      · rw [if_pos ha, if_pos ha]; rfl
      · rw [if_neg ha, if_neg ha]; rfl
theorem upd_len (K s k x : Int) (l : Nat) (L : List Pn) : (upd K s k x l L).length ≤ L.length + 1 := by
  rw [upd_eq, List.length_set]; exact (ens_len s k L).1

theorem bef_iff (s k : Int) (p : Pn) : bef s k p = true ↔ p.s < s ∨ (p.s = s ∧ p.k < k) := by simp [bef]
theorem isAt_iff (s k : Int) (p : Pn) : isAt s k p = true ↔ p.s = s ∧ p.k = k := by simp [isAt]
theorem lt_trans {p q r : Pn} (h1 : lt p q) (h2 : lt q r) : lt p r := by unfold lt at *; omega
theorem srt_at {L : List Pn} (h : Srt L) {i j : Nat} (hij : i < j) (hj : j < L.length) : lt (pAt L i) (pAt L j) := by
  have := List.pairwise_iff_getElem.1 h i j (by omega) hj hij
  simpa [pAt, List.getD_eq_getElem?_getD, hj, show i < L.length by omega] using this
theorem bef_down {L : List Pn} (h : Srt L) {s k : Int} {i j : Nat} (hij : i ≤ j) (hj : j < L.length) (hb : bef s k (pAt L j) = true) : bef s k (pAt L i) = true := by
  by_cases e : i = j
  · rw [e]; exact hb
  · have := srt_at h (show i < j by omega) hj
    rw [bef_iff] at *
    unfold lt at this
    omega
theorem bef_up {L : List Pn} (h : Srt L) {s k : Int} {i j : Nat} (hij : i ≤ j) (hj : j < L.length) (hb : bef s k (pAt L i) = false) : bef s k (pAt L j) = false := by
  cases e : bef s k (pAt L j) with
  | false => rfl
  | true => rw [bef_down h hij hj e] at hb; cases hb

theorem mem_ens (s k : Int) : ∀ (L : List Pn) (p : Pn), p ∈ ens s k L → p = fresh s k ∨ p ∈ L
  | [], p, h => by simp [ens] at h; exact .inl h
  | q :: r, p, h => by
    unfold ens at h
    split at h
    · rcases List.mem_cons.1 h with h | h
      · exact .inr (by simp [h])
      · rcases mem_ens s k r p h with h | h
        · exact .inl h
        · exact .inr (by simp [h])
    · split at h
      · exact .inr h
      · rcases List.mem_cons.1 h with h | h
        · exact .inl h
        · exact .inr h
theorem mem_upd (K s k x : Int) (l : Nat) : ∀ (L : List Pn) (p : Pn), p ∈ upd K s k x l L → p = tk K x l (fresh s k) ∨ p ∈ L ∨ ∃ q ∈ L, p = tk K x l q
  | [], p, h => by simp [upd] at h; exact .inl h
  | q :: r, p, h => by
    unfold upd at h
    split at h
    · rcases List.mem_cons.1 h with h | h
      · exact .inr (.inl (by simp [h]))
      · rcases mem_upd K s k x l r p h with h | h | ⟨y, hy, h⟩
        · exact .inl h
        · exact .inr (.inl (by simp [h]))
        · exact .inr (.inr ⟨y, by simp [hy], h⟩)
    · split at h
      · rcases List.mem_cons.1 h with h | h
        · exact .inr (.inr ⟨q, by simp, h⟩)
        · exact .inr (.inl (by simp [h]))
      · rcases List.mem_cons.1 h with h | h
        · exact .inl h
        · exact .inr (.inl h)
theorem srt_ens (s k : Int) : ∀ (L : List Pn), Srt L → Srt (ens s k L)
  | [], _ => by simp [ens, Srt]
  | q :: r, h => by
    obtain ⟨h1, h2⟩ := List.pairwise_cons.1 h
    unfold ens
    split
    · rename_i hb
      refine List.pairwise_cons.2 ⟨fun p hp => ?_, srt_ens s k r h2⟩
      rcases mem_ens s k r p hp with rfl | hp
      · rw [bef_iff] at hb; exact hb
      · exact h1 p hp
    · rename_i hb
      split
      · exact h
      · rename_i ha
        refine List.pairwise_cons.2 ⟨fun p hp => ?_, h⟩
        rw [bef_iff] at hb
        rw [isAt_iff] at ha
        have hq : lt (fresh s k) q := by show s < q.s ∨ (s = q.s ∧ k < q.k); omega
        rcases List.mem_cons.1 hp with rfl | hp
        · exact hq
        · exact lt_trans hq (h1 p hp)
theorem srt_upd (K s k x : Int) (l : Nat) : ∀ (L : List Pn), Srt L → Srt (upd K s k x l L)
  | [], _ => by simp [upd, Srt]
  | q :: r, h => by
    obtain ⟨h1, h2⟩ := List.pairwise_cons.1 h
    unfold upd
    split
    · rename_i hb
      refine List.pairwise_cons.2 ⟨fun p hp => ?_, srt_upd K s k x l r h2⟩
      rw [bef_iff] at hb
      rcases mem_upd K s k x l r p hp with rfl | hp | ⟨y, hy, rfl⟩
      · exact hb
      · exact h1 p hp
      · exact h1 y hy
    · rename_i hb
      split
      · exact List.pairwise_cons.2 ⟨fun p hp => h1 p hp, h2⟩
      · rename_i ha
        refine List.pairwise_cons.2 ⟨fun p hp => ?_, h⟩
        rw [bef_iff] at hb
        rw [isAt_iff] at ha
        have hq : lt (tk K x l (fresh s k)) q := by show s < q.s ∨ (s = q.s ∧ k < q.k); omega
        rcases List.mem_cons.1 hp with rfl | hp
        · exact hq
        · exact lt_trans hq (h1 p hp)

/-- What is kept of the panes while they are open: their order, their bounds. -/
def Okl (n sl : Int) (L : List Pn) : Prop := Srt L ∧ ∀ p ∈ L, (0 ≤ p.s ∧ p.s ≤ 1099511627776 ∧ p.l < 18446744073709551616) ∧ rightB n sl = true
theorem okl_nil (n sl : Int) : Okl n sl [] := ⟨List.Pairwise.nil, by simp⟩
theorem okl_ens {n sl s k : Int} {L : List Pn} (h : Okl n sl L) (h0 : 0 ≤ s) (h1 : s ≤ 1099511627776) (hr : rightB n sl = true) : Okl n sl (ens s k L) :=
  ⟨srt_ens s k L h.1, fun p hp => by
    rcases mem_ens s k L p hp with rfl | hp
    · exact ⟨⟨h0, h1, by show (0 : Nat) < 18446744073709551616; omega⟩, hr⟩
    · exact h.2 p hp⟩
theorem or_lt {a b : Nat} (ha : a < 18446744073709551616) (hb : b < 18446744073709551616) : a ||| b < 18446744073709551616 := Nat.or_lt_two_pow (n := 64) ha hb
theorem okl_upd {n sl s K k x : Int} {l : Nat} {L : List Pn} (h : Okl n sl L) (h0 : 0 ≤ s) (h1 : s ≤ 1099511627776) (hr : rightB n sl = true) (hl : l < 18446744073709551616) : Okl n sl (upd K s k x l L) :=
  ⟨srt_upd K s k x l L h.1, fun p hp => by
    rcases mem_upd K s k x l L p hp with rfl | hp | ⟨q, hq, rfl⟩
    · exact ⟨⟨h0, h1, or_lt (by show (0 : Nat) < 18446744073709551616; omega) hl⟩, hr⟩
    · exact h.2 p hp
    · have := h.2 q hq
      exact ⟨⟨this.1.1, this.1.2.1, or_lt this.1.2.2 hl⟩, this.2⟩⟩
theorem mem_starts {t n s x : Int} (h : x ∈ starts t n s) : rightB n s = true ∧ 0 ≤ x ∧ x ≤ t ∧ 0 ≤ t ∧ t ≤ 1099511627776 := by
  unfold starts at h
  split at h
  · rename_i hc
    rw [Bool.and_eq_true] at hc
    have hr := right_of hc.1
    have ht : 0 ≤ t ∧ t ≤ 1099511627776 := by have := hc.2; unfold okT at this; exact of_decide_eq_true this
    obtain ⟨i, hi, rfl⟩ := seg_mem h
    have := at_bounds hr.1 hr.2.1 ht.1 hi
    exact ⟨hc.1, this.1, this.2.1, ht.1, ht.2⟩
  · simp at h
theorem starts_len (t n s : Int) : (starts t n s).length ≤ 8 := by
  unfold starts
  split
  · rename_i hc
    rw [Bool.and_eq_true] at hc
    have ht : 0 ≤ t ∧ t ≤ 1099511627776 := by have := hc.2; unfold okT at this; exact of_decide_eq_true this
    rw [sts, seg_len]
    exact cnt_le hc.1 ht.1
  · simp

/-- One event put into the windows that its time is in. -/
def putS (K k x : Int) (l : Nat) (L : List Pn) (ss : List Int) : List Pn := ss.foldl (fun L s => upd K s k x l L) L
def putE (n sl K : Int) (L : List Pn) (e : Ev) : List Pn := putS K e.k e.v e.l L (starts e.t n sl)
def putL (n sl K : Int) (L : List Pn) (es : List Ev) : List Pn := es.foldl (putE n sl K) L
theorem putS_len (K k x : Int) (l : Nat) : ∀ (ss : List Int) (L : List Pn), (putS K k x l L ss).length ≤ L.length + ss.length
  | [], L => by simp [putS]
  | s :: r, L => by
    show (putS K k x l (upd K s k x l L) r).length ≤ _
    have := putS_len K k x l r (upd K s k x l L)
    have := upd_len K s k x l L
    simp; omega
theorem putE_len (n sl K : Int) (L : List Pn) (e : Ev) : (putE n sl K L e).length ≤ L.length + 8 := by
  have := putS_len K e.k e.v e.l (starts e.t n sl) L
  have := starts_len e.t n sl
  unfold putE; omega
theorem putL_len (n sl K : Int) : ∀ (es : List Ev) (L : List Pn), (putL n sl K L es).length ≤ L.length + 8 * es.length
  | [], L => by simp [putL]
  | e :: r, L => by
    show (putL n sl K (putE n sl K L e) r).length ≤ _
    have := putL_len n sl K r (putE n sl K L e)
    have := putE_len n sl K L e
    simp; omega
theorem okl_putS {n sl K k x : Int} {l : Nat} (hr : rightB n sl = true) (hl : l < 18446744073709551616) : ∀ (ss : List Int) (L : List Pn), Okl n sl L → (∀ s ∈ ss, 0 ≤ s ∧ s ≤ 1099511627776) → Okl n sl (putS K k x l L ss)
  | [], L, h, _ => h
  | s :: r, L, h, hs => okl_putS (K := K) (k := k) (x := x) hr hl r (upd K s k x l L) (okl_upd h (hs s (by simp)).1 (hs s (by simp)).2 hr hl) (fun y hy => hs y (by simp [hy]))
theorem okl_putE {n sl K : Int} {L : List Pn} {e : Ev} (h : Okl n sl L) (hl : e.l < 18446744073709551616) : Okl n sl (putE n sl K L e) := by
  unfold putE
  by_cases h0 : starts e.t n sl = []
  · rw [h0]; exact h
  · obtain ⟨x, r, hx⟩ : ∃ x r, starts e.t n sl = x :: r := by
      cases hc : starts e.t n sl with
      | nil => exact absurd hc h0
      | cons x r => exact ⟨x, r, rfl⟩
    have hr : rightB n sl = true := (mem_starts (by rw [hx]; simp : x ∈ starts e.t n sl)).1
    exact okl_putS hr hl _ _ h fun s hs => by have := mem_starts hs; omega
theorem okl_putL {n sl K : Int} : ∀ (es : List Ev) (L : List Pn), Okl n sl L → (∀ e ∈ es, e.l < 18446744073709551616) → Okl n sl (putL n sl K L es)
  | [], L, h, _ => h
  | e :: r, L, h, hs => okl_putL r (putE n sl K L e) (okl_putE h (hs e (by simp))) (fun y hy => hs y (by simp [hy]))

/-- How many windows end at the mark or ahead: they stand first. -/
def endN (n m : Int) : List Pn → Nat
  | [] => 0
  | p :: r => if p.s + n ≤ m then endN n m r + 1 else 0
theorem endN_le (n m : Int) : ∀ L : List Pn, endN n m L ≤ L.length
  | [] => Nat.le_refl _
  | p :: r => by unfold endN; have := endN_le n m r; split <;> simp <;> omega
theorem endN_of (n m : Int) : ∀ (L : List Pn) (i : Nat), i ≤ L.length → (∀ j, j < i → (pAt L j).s + n ≤ m) → (i < L.length → m < (pAt L i).s + n) → endN n m L = i
  | [], i, hi, _, _ => by simp at hi; subst hi; rfl
  | p :: r, 0, _, _, h2 => by
    have := h2 (by simp)
    rw [pAt_zero] at this
    unfold endN
    rw [if_neg (by omega)]
  | p :: r, i + 1, hi, h1, h2 => by
    have h0 := h1 0 (by omega)
    rw [pAt_zero] at h0
    have := endN_of n m r i (by simpa using hi) (fun j hj => by have := h1 (j + 1) (by omega); rwa [pAt_cons] at this) (fun h => by have := h2 (by simpa using h); rwa [pAt_cons] at this)
    unfold endN
    rw [if_pos h0, this]
theorem okl_drop {n sl : Int} {L : List Pn} (h : Okl n sl L) (i : Nat) : Okl n sl (L.drop i) :=
  ⟨List.Pairwise.sublist (List.drop_sublist i L) h.1, fun p hp => h.2 p (List.mem_of_mem_drop hp)⟩
end Go.Proofs.Ytnamjnopicghhaa.M
