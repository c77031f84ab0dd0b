/- The memory of a Panes: its block, the row of its open windows; what has turned and what hasn't. -/
import Derived.Test.YtnamjnopicghhaaMathP
import Derived.Test.YtnamjnopicghhaaStarts
import Derived.Test.YtnamjnopicghhaaLast
namespace Go.Proofs.Ytnamjnopicghhaa
open Go.RowKit M
set_option linter.unusedVariables false

/-- A pane as a value, as its six cells. -/
def pv (K : Int) (p : Pn) : Value := .agg #[.int .i64 p.s, .int .i64 p.k, .int .i64 p.c, .int .i64 K, .int .i64 p.v, .int .u64 p.l]
def pcell (K : Int) (p : Pn) : List Value := [.int .i64 p.s, .int .i64 p.k, .int .i64 p.c, .int .i64 K, .int .i64 p.v, .int .u64 p.l]
def pcs (K : Int) (L : List Pn) : List Value := L.flatMap (pcell K)
theorem pcs_cons (K : Int) (p : Pn) (r : List Pn) : pcs K (p :: r) = pcell K p ++ pcs K r := by simp [pcs]
theorem pcs_len (K : Int) : ∀ L : List Pn, (pcs K L).length = L.length * 6
  | [] => rfl
  | p :: r => by rw [pcs_cons, List.length_append, pcs_len K r]; simp [pcell]; omega
theorem pcs_one (K : Int) (L : List Pn) : ∀ u ∈ pcs K L, u.oneCell' = true := by
  intro u hu
  simp only [pcs, List.mem_flatMap] at hu
  obtain ⟨e, _, he⟩ := hu
  simp only [pcell, List.mem_cons, List.not_mem_nil, or_false] at he
  rcases he with rfl | rfl | rfl | rfl | rfl | rfl <;> rfl
theorem pcs_append (K : Int) (a b : List Pn) : pcs K (a ++ b) = pcs K a ++ pcs K b := by simp [pcs]
theorem pcs_single (K : Int) (p : Pn) : pcs K [p] = pcell K p := by simp [pcs]
theorem pcs_at (K : Int) : ∀ (L : List Pn) (i r : Nat), r < 6 → i < L.length → (pcs K L)[i * 6 + r]? = (pcell K (pAt L i))[r]?
  | [], i, r, _, hi => by simp at hi
  | x :: s, 0, r, hr, _ => by rw [pcs_cons, List.getElem?_append_left (by show 0 * 6 + r < 6; omega)]; simp [pAt_zero]
  | x :: s, i + 1, r, hr, hi => by
    have hc : (pcell K x).length = 6 := rfl
    rw [pcs_cons, List.getElem?_append_right (by omega), hc, show (i + 1) * 6 + r - 6 = i * 6 + r by omega, pcs_at K s i r hr (by simpa using hi), pAt_cons]
theorem pcs_take (K : Int) : ∀ (L : List Pn) (i : Nat), (pcs K L).take (i * 6) = pcs K (L.take i)
  | [], i => by simp [pcs]
  | x :: s, 0 => by simp [pcs]
  | x :: s, i + 1 => by
    have hc : (pcell K x).length = 6 := rfl
    rw [pcs_cons, List.take_succ_cons, pcs_cons, ← pcs_take K s i, List.take_append, hc, List.take_of_length_le (by omega), show (i + 1) * 6 - 6 = i * 6 by omega]
theorem pcs_drop (K : Int) : ∀ (L : List Pn) (i : Nat), (pcs K L).drop (i * 6) = pcs K (L.drop i)
  | [], i => by simp [pcs]
  | x :: s, 0 => by simp
  | x :: s, i + 1 => by
    have hc : (pcell K x).length = 6 := rfl
    rw [pcs_cons, List.drop_succ_cons, ← pcs_drop K s i, List.drop_append, hc, List.drop_of_length_le (by omega), show (i + 1) * 6 - 6 = i * 6 by omega, List.nil_append]
/-- A pane turned in its place. -/
theorem pcs_set (K : Int) : ∀ (L : List Pn) (i : Nat) (c v : Int) (l : Nat), i < L.length →
    (((pcs K L).set (i * 6 + 4) (.int .i64 v)).set (i * 6 + 2) (.int .i64 c)).set (i * 6 + 5) (.int .u64 l) = pcs K (L.set i ⟨(pAt L i).s, (pAt L i).k, c, v, l⟩)
  | [], i, _, _, _, hi => by simp at hi
  | x :: s, 0, c, v, l, _ => by
    rw [List.set_cons_zero, pcs_cons, pcs_cons, pAt_zero]
    simp [pcell]
  | x :: s, i + 1, c, v, l, hi => by
    have hc : (pcell K x).length = 6 := rfl
    rw [List.set_cons_succ, pcs_cons, pcs_cons, pAt_cons, ← pcs_set K s i c v l (by simpa using hi)]
    rw [List.set_append_right _ _ (by omega), List.set_append_right _ _ (by omega), List.set_append_right _ _ (by omega), hc,
      show (i + 1) * 6 + 4 - 6 = i * 6 + 4 by omega, show (i + 1) * 6 + 2 - 6 = i * 6 + 2 by omega, show (i + 1) * 6 + 5 - 6 = i * 6 + 5 by omega]

/-- The row of the open windows, in block g. -/
def PRow (w : World) (g cap : Nat) (K : Int) (L : List Pn) : Prop :=
  ∃ cur, w.heap[g]? = some (.cells cur 132 (0, 0)) ∧ L.length ≤ cap ∧ cap ≤ maxLen ∧ cur.size = cap * 6 ∧ cur.toList.take (L.length * 6) = pcs K L
/-- The slice of the open windows: nil, or the row in block o. -/
def Sl (w : World) (v : Value) (o : Nat) (K : Int) (L : List Pn) : Prop :=
  (v = .slice none 0 0 ∧ L = []) ∨ ∃ cap, v = .slice (some ⟨o, 0, none⟩) L.length cap ∧ PRow w o cap K L
def Panc (n sl K : Int) (v : Value) : Array Value := #[.int .i64 n, .int .i64 sl, .int .i64 K, v]
/-- A Panes, in block b, its row in block o. -/
def Pan (w : World) (b o : Nat) (n sl K : Int) (L : List Pn) : Prop :=
  ∃ v, w.heap[b]? = some (.cells (Panc n sl K v) 108 (0, 0)) ∧ Sl w v o K L ∧ Okl n sl L ∧ o < w.heap.size

/-- Of what was there nothing but blocks b and o has turned. -/
structure Ch (b o : Nat) (w w' : World) : Prop where
  os : w'.os = w.os
  tape : w'.tape = w.tape
  output : w'.output = w.output
  size : w.heap.size ≤ w'.heap.size
  other : ∀ g, g < w.heap.size → g ≠ b → g ≠ o → w'.heap[g]? = w.heap[g]?
theorem Ch.refl (b o : Nat) (w : World) : Ch b o w w := ⟨rfl, rfl, rfl, Nat.le_refl _, fun _ _ _ _ => rfl⟩
theorem Ch.trans {b o o' : Nat} {w w' w'' : World} (h : Ch b o w w') (h2 : Ch b o' w' w'') (ho : o' = o ∨ w.heap.size ≤ o') : Ch b o w w'' :=
  ⟨h2.os.trans h.os, h2.tape.trans h.tape, h2.output.trans h.output, Nat.le_trans h.size h2.size, fun g hl hb hg => (h2.other g (Nat.lt_of_lt_of_le hl h.size) hb (by omega)).trans (h.other g hl hb hg)⟩
theorem Ch.ofBelow {b o : Nat} {w w' : World} (h : Below w.heap.size w w') : Ch b o w w' := ⟨h.os, h.tape, h.output, h.size, fun g hl _ _ => h.block g hl⟩
theorem Ch.below {b o B : Nat} {w w' : World} (h : Ch b o w w') (hb : B ≤ b) (ho : B ≤ o) (hB : B ≤ w.heap.size) : Below B w w' :=
  ⟨h.os, h.tape, h.output, h.size, fun g hg => h.other g (by omega) (by omega) (by omega)⟩
theorem Ch.cell {b o : Nat} {w w' : World} (h : Ch b o w w') {p : Addr} (hl : p.block < w.heap.size) (hb : p.block ≠ b) (ho : p.block ≠ o) : w'.cell? p = w.cell? p := World.cell?_of_block (w := w) (h.other p.block hl hb ho)
theorem Ch.mono {b o : Nat} {w w' : World} (h : Ch o o w w') : Ch b o w w' := ⟨h.os, h.tape, h.output, h.size, fun g hl _ ho => h.other g hl ho ho⟩
theorem Ch.monob {b o : Nat} {w w' : World} (h : Ch b b w w') : Ch b o w w' := ⟨h.os, h.tape, h.output, h.size, fun g hl hb _ => h.other g hl hb hb⟩
theorem Ch.set {b o : Nat} {a w : World} (h : Ch b o a w) {p : Addr} (hp : p.block = b ∨ p.block = o) (u : Value) : Ch b o a (w.setCell p u) :=
  ⟨h.os, h.tape, h.output, by simpa [World.setCell] using h.size, fun g hl hb ho => (Below.heap_setCell _ _ _ _ (by omega)).trans (h.other g hl hb ho)⟩
theorem Ch.setRow {b o : Nat} {a w : World} (h : Ch b o a w) {g : Nat} (hp : g = b ∨ g = o) (cs : Array Value) : Ch b o a (w.setRow g cs) :=
  ⟨h.os, h.tape, h.output, by simpa [World.setRow] using h.size, fun k hl hb ho => (setRow_other w g k cs (by omega)).trans (h.other k hl hb ho)⟩
theorem Ch.drew {b o : Nat} {a w : World} (h : Ch b o a w) : Ch b o a w.drew := ⟨h.os, h.tape, h.output, h.size, h.other⟩
theorem Ch.alloc {b o : Nat} {a w : World} (h : Ch b o a w) (ob : Obj) : Ch b o a (w.alloc ob) :=
  ⟨h.os, h.tape, h.output, by have := h.size; simp; omega, fun g hl hb ho => (Below.heap_alloc _ _ _ (by have := h.size; omega)).trans (h.other g hl hb ho)⟩

theorem PRow.lt {w : World} {g cap : Nat} {K : Int} {L : List Pn} (h : PRow w g cap K L) : g < w.heap.size := by
  obtain ⟨cur, hh, _⟩ := h; exact (Array.getElem?_eq_some_iff.1 hh).1
theorem PRow.keep {w w' : World} {g cap : Nat} {K : Int} {L : List Pn} (h : PRow w g cap K L) (hb : w'.heap[g]? = w.heap[g]?) : PRow w' g cap K L := by
  obtain ⟨cur, hh, r⟩ := h; exact ⟨cur, hb.trans hh, r⟩
theorem PRow.cell {w : World} {g cap : Nat} {K : Int} {L : List Pn} (h : PRow w g cap K L) (i r : Nat) (hr : r < 6) (hi : i < L.length) : w.cell? ⟨g, i * 6 + r, none⟩ = (pcell K (pAt L i))[r]? := by
  obtain ⟨cur, hh, h1, h2, h3, h4⟩ := h
  have : (cur.toList.take (L.length * 6))[i * 6 + r]? = (pcell K (pAt L i))[r]? := by rw [h4, pcs_at K L i r hr hi]
  rw [List.getElem?_take, if_pos (by omega)] at this
  simp only [World.cell?, hh]
  simpa using this
/-- The six cells of the i-th pane. -/
theorem PRow.cells {w : World} {g cap : Nat} {K : Int} {L : List Pn} (h : PRow w g cap K L) (i : Nat) (hi : i < L.length) :
    w.cell? ⟨g, i * 6, none⟩ = some (.int .i64 (pAt L i).s) ∧ w.cell? ⟨g, i * 6 + 1, none⟩ = some (.int .i64 (pAt L i).k) ∧ w.cell? ⟨g, i * 6 + 2, none⟩ = some (.int .i64 (pAt L i).c) ∧
    w.cell? ⟨g, i * 6 + 3, none⟩ = some (.int .i64 K) ∧ w.cell? ⟨g, i * 6 + 4, none⟩ = some (.int .i64 (pAt L i).v) ∧ w.cell? ⟨g, i * 6 + 5, none⟩ = some (.int .u64 (pAt L i).l) :=
  ⟨h.cell i 0 (by decide) hi, h.cell i 1 (by decide) hi, h.cell i 2 (by decide) hi, h.cell i 3 (by decide) hi, h.cell i 4 (by decide) hi, h.cell i 5 (by decide) hi⟩
theorem PRow.free {w : World} {g cap : Nat} {K : Int} {L : List Pn} (h : PRow w g cap K L) (i : Nat) : w.frozen? ⟨g, i, none⟩ = false := by
  obtain ⟨cur, hh, _⟩ := h; simp [World.frozen?, hh]
theorem Sl.keep {w w' : World} {v : Value} {o : Nat} {K : Int} {L : List Pn} (h : Sl w v o K L) (hb : L ≠ [] ∨ o < w.heap.size → w'.heap[o]? = w.heap[o]?) : Sl w' v o K L := by
  rcases h with h | ⟨cap, rfl, hp⟩
  · exact .inl h
  · exact .inr ⟨cap, rfl, hp.keep (hb (.inr hp.lt))⟩
theorem Sl.own {w : World} {v : Value} {o : Nat} {K : Int} {L : List Pn} (h : Sl w v o K L) : w.ownsRow 0 132 6 v L.length (pcs K L) := by
  rcases h with ⟨rfl, rfl⟩ | ⟨cap, rfl, cur, hh, h1, h2, h3, h4⟩
  · exact World.ownsRow_nil _ _ _ _
  · exact ⟨pcs_len K L, .inr ⟨o, cap, cur, rfl, Nat.zero_le _, hh, h1, h2, h3, h4⟩⟩
theorem Pan.lt {w : World} {b o : Nat} {n sl K : Int} {L : List Pn} (h : Pan w b o n sl K L) : b < w.heap.size := by
  obtain ⟨v, hh, _⟩ := h; exact (Array.getElem?_eq_some_iff.1 hh).1
theorem Pan.olt {w : World} {b o : Nat} {n sl K : Int} {L : List Pn} (h : Pan w b o n sl K L) : o < w.heap.size := by
  obtain ⟨v, _, _, _, h⟩ := h; exact h
theorem Pan.okl {w : World} {b o : Nat} {n sl K : Int} {L : List Pn} (h : Pan w b o n sl K L) : Okl n sl L := by
  obtain ⟨v, _, _, h, _⟩ := h; exact h
theorem Pan.cells {w : World} {b : Nat} {n sl K : Int} {v : Value} (h : w.heap[b]? = some (.cells (Panc n sl K v) 108 (0, 0))) :
    w.cell? ⟨b, 0, none⟩ = some (.int .i64 n) ∧ w.cell? ⟨b, 1, none⟩ = some (.int .i64 sl) ∧ w.cell? ⟨b, 2, none⟩ = some (.int .i64 K) ∧ w.cell? ⟨b, 3, none⟩ = some v ∧ w.frozen? ⟨b, 3, none⟩ = false := by
  unfold Panc at h
  refine ⟨?_, ?_, ?_, ?_, ?_⟩ <;> simp [World.cell?, World.frozen?, h]
theorem Pan.set3 {w : World} {b : Nat} {n sl K : Int} {v : Value} (h : w.heap[b]? = some (.cells (Panc n sl K v) 108 (0, 0))) (u : Value) :
    (w.setCell ⟨b, 3, none⟩ u).heap[b]? = some (.cells (Panc n sl K u) 108 (0, 0)) := by
  simp [World.setCell, Array.getElem?_modify, h, Panc]
/-- Another Panes, apart, stays. -/
theorem Pan.keep {w w' : World} {b o b' o' : Nat} {n sl K : Int} {L : List Pn} (h : Pan w b o n sl K L) (hc : Ch b' o' w w') (h1 : b ≠ b') (h2 : b ≠ o') (h3 : o ≠ b') (h4 : o ≠ o') : Pan w' b o n sl K L := by
  have hb := h.lt
  obtain ⟨v, hh, hs, hk⟩ := h
  refine ⟨v, (hc.other b hb h1 h2).trans hh, ?_, hk.1, Nat.lt_of_lt_of_le hk.2 hc.size⟩
  rcases hs with hs | ⟨cap, rfl, hp⟩
  · exact .inl hs
  · exact .inr ⟨cap, rfl, hp.keep (hc.other o hp.lt h3 h4)⟩
theorem Pan.below {w w' : World} {b o : Nat} {n sl K : Int} {L : List Pn} (h : Pan w b o n sl K L) (hc : Below w.heap.size w w') : Pan w' b o n sl K L := by
  have hb := h.lt
  obtain ⟨v, hh, hs, hk⟩ := h
  refine ⟨v, (hc.block b hb).trans hh, ?_, hk.1, Nat.lt_of_lt_of_le hk.2 hc.size⟩
  rcases hs with hs | ⟨cap, rfl, hp⟩
  · exact .inl hs
  · exact .inr ⟨cap, rfl, hp.keep (hc.block o hp.lt)⟩
theorem row_ne {w : World} {b g : Nat} {n sl K : Int} {v : Value} {cur : Array Value} (h1 : w.heap[b]? = some (.cells (Panc n sl K v) 108 (0, 0))) (h2 : w.heap[g]? = some (.cells cur 132 (0, 0))) : g ≠ b := by
  intro e; subst e; rw [h1] at h2; simp at h2
end Go.Proofs.Ytnamjnopicghhaa
