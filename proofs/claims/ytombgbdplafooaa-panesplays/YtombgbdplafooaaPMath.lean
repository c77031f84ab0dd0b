/- Panes by marks, both ways; how often a pane is met: plain mathematics; nothing of the program. -/
import Derived.Test.YtombgbdplafooaaMathC
import Derived.Test.YtombgbdplafooaaMathO
import Derived.Test.YtombgbdplafooaaRefClose
namespace Go.Proofs.Ytombgbdplafooaa
open Go.RowKit M
set_option linter.unusedVariables false
set_option linter.unusedSimpArgs false

theorem filter_split {α : Type} (p : α → Bool) (a b : List α) (ha : ∀ x ∈ a, p x = true) (hb : ∀ x ∈ b, p x = false) : (a ++ b).filter p = a ∧ (a ++ b).filter (fun x => !p x) = b := by
  rw [List.filter_append, List.filter_append]
  have h1 : a.filter p = a := List.filter_eq_self.2 ha
  have h2 : b.filter p = [] := List.filter_eq_nil_iff.2 fun x hx => by rw [hb x hx]; decide
  have h3 : a.filter (fun x => !p x) = [] := List.filter_eq_nil_iff.2 fun x hx => by simp [ha x hx]
  have h4 : b.filter (fun x => !p x) = b := List.filter_eq_self.2 fun x hx => by simp [hb x hx]
  rw [h1, h2, h3, h4]; simp
/-- Of a list in order those that end at the mark stand first. -/
theorem ends_first {n m : Int} {L : List Pn} (h : Srt L) : done n m L = L.take (endN n m L) ∧ stay n m L = L.drop (endN n m L) := by
  have h1 := endN_take n m L
  have h2 := endN_drop n m L h
  have h := filter_split (fun p : Pn => decide (p.s + n ≤ m)) (L.take (endN n m L)) (L.drop (endN n m L)) (fun x hx => by simpa using h1 x hx) (fun x hx => by have := h2 x hx; simp; omega)
  rw [List.take_append_drop] at h
  exact h
theorem all_end {n m : Int} {L : List Pn} (h : ∀ p ∈ L, p.s + n ≤ m) : done n m L = L := List.filter_eq_self.2 fun x hx => by simpa using h x hx

/-- Each pane was met at most N times. -/
def Cq (L : List Pn) (N : Int) : Prop := ∀ p ∈ L, 0 ≤ p.c ∧ p.c ≤ N
/-- .. those of the starts ss once more. -/
def Cs (L : List Pn) (N : Int) (ss : List Int) : Prop := ∀ p ∈ L, 0 ≤ p.c ∧ p.c ≤ N + if p.s ∈ ss then 1 else 0
theorem srt_upd' (K s k x : Int) (l : Nat) {L : List Pn} (h : Srt L) : Srt (upd K s k x l L) := srt_upd K s k x l L h
theorem cs_upd {K k x N : Int} {l : Nat} {L : List Pn} {ss : List Int} {s : Int} (hS : Srt L) (h : Cs L N ss) (hs : s ∉ ss) (h0 : 0 ≤ N) (hN : N ≤ 1000000) : Cs (upd K s k x l L) N (ss ++ [s]) := by
  intro p hp
  rcases (upd_mem K s k x l L hS p).1 hp with ⟨h1, _⟩ | ⟨rfl, _⟩ | ⟨q, hq, h1, _, rfl⟩
  · obtain ⟨a, b⟩ := h p h1
    refine ⟨a, ?_⟩
    by_cases e : p.s ∈ ss
    · rw [if_pos e] at b; rw [if_pos (List.mem_append_left _ e)]; exact b
    · rw [if_neg e] at b
      by_cases e2 : p.s ∈ ss ++ [s]
      · rw [if_pos e2]; omega
      · rw [if_neg e2]; omega
  · have e1 : (tk K x l (fresh s k)).s = s := rfl
    have e2 : (tk K x l (fresh s k)).c = 1 := by show wrap64 (0 + 1) = 1; unfold wrap64; omega
    rw [e1, e2, if_pos (by simp)]
    omega
  · obtain ⟨a, b⟩ := h q hq
    rw [if_neg (by rw [← h1]; exact hs)] at b
    have e1 : (tk K x l q).s = q.s := rfl
    have e2 : (tk K x l q).c = wrap64 (q.c + 1) := rfl
    have e3 : wrap64 (q.c + 1) = q.c + 1 := by unfold wrap64; omega
    rw [e1, e2, e3, if_pos (by rw [← h1]; simp)]
    omega
theorem cs_putS {K k x N : Int} {l : Nat} (h0 : 0 ≤ N) (hN : N ≤ 1000000) : ∀ (ss : List Int) (L : List Pn) (done : List Int), Srt L → Cs L N done → (done ++ ss).Nodup → Cs (putS K k x l L ss) N (done ++ ss) ∧ Srt (putS K k x l L ss)
  | [], L, d, hS, h, _ => by simpa [putS] using ⟨h, hS⟩
  | s :: r, L, d, hS, h, hn => by
    have hsd : s ∉ d := fun hm => by
      have := (List.nodup_append.1 hn).2.2 s hm s (by simp)
      exact this rfl
    have h1 := cs_upd (K := K) (k := k) (x := x) (l := l) hS h hsd h0 hN
    have h2 := cs_putS (K := K) (k := k) (x := x) (l := l) h0 hN r (upd K s k x l L) (d ++ [s]) (srt_upd' K s k x l hS) h1 (by simpa using hn)
    have e : putS K k x l L (s :: r) = putS K k x l (upd K s k x l L) r := rfl
    rw [e]
    simpa using h2
theorem cq_putE {n sl K N : Int} {L : List Pn} {e : Ev} (hS : Srt L) (h : Cq L N) (h0 : 0 ≤ N) (hN : N ≤ 1000000) : Cq (putE n sl K L e) (N + 1) := by
  have h1 : Cs L N [] := fun p hp => by
    have := h p hp
    rw [if_neg (by simp)]; omega
  have h2 := (cs_putS (K := K) (k := e.k) (x := e.v) (l := e.l) h0 hN (starts e.t n sl) L [] hS h1 (by simpa using starts_nodup e.t n sl)).1
  intro p hp
  obtain ⟨a, b⟩ := h2 p hp
  refine ⟨a, ?_⟩
  by_cases e2 : p.s ∈ [] ++ starts e.t n sl
  · rw [if_pos e2] at b; exact b
  · rw [if_neg e2] at b; omega
theorem srt_putS' (K k x : Int) (l : Nat) : ∀ (ss : List Int) (L : List Pn), Srt L → Srt (putS K k x l L ss)
  | [], L, h => h
  | s :: r, L, h => srt_putS' K k x l r (upd K s k x l L) (srt_upd K s k x l L h)
theorem cq_putL {n sl K : Int} : ∀ (es : List Ev) (L : List Pn) (N : Int), Srt L → Cq L N → 0 ≤ N → N + es.length ≤ 1000000 → Cq (putL n sl K L es) (N + es.length)
  | [], L, N, _, h, _, _ => by simpa [putL] using h
  | e :: r, L, N, hS, h, h0, hN => by
    have e1 : ((e :: r).length : Int) = r.length + 1 := by simp
    have h1 := cq_putE (n := n) (sl := sl) (K := K) (e := e) hS h h0 (by omega)
    have h2 := cq_putL (n := n) (sl := sl) (K := K) r (putE n sl K L e) (N + 1) (srt_putS' _ _ _ _ _ _ hS) h1 (by omega) (by omega)
    have e2 : putL n sl K L (e :: r) = putL n sl K (putE n sl K L e) r := rfl
    rw [e2, e1, show N + ((r.length : Int) + 1) = N + 1 + r.length by omega]
    exact h2
theorem Cq.mono {L : List Pn} {N M : Int} (h : Cq L N) (hM : N ≤ M) : Cq L M := fun p hp => by have := h p hp; omega
theorem cq_drop {L : List Pn} {N : Int} (h : Cq L N) (k : Nat) : Cq (L.drop k) N := fun p hp => h p (List.mem_of_mem_drop hp)
theorem cq_nil (N : Int) : Cq [] N := fun q hq => by cases hq
end Go.Proofs.Ytombgbdplafooaa
