/- A list of the call's own written over; a queue that another one is assigned to; what an ask's block holds. -/
import Derived.Test.YtmkdhgjnfnfliaaRooms
namespace Go.Proofs.Ytmkdhgjnfnfliaa
open Go.RowKit
set_option linter.unusedVariables false
set_option linter.unusedSimpArgs false

/-- The cells of a part of a row. -/
def Qc (w : World) (g off m : Nat) (cs : List Value) : Prop := ∃ cur, w.heap[g]? = some (.cells cur 37 (0, 0)) ∧ off + m ≤ cur.size ∧ (cur.toList.drop off).take m = cs
theorem Qc.stored {w : World} {g off m : Nat} {cs : List Value} (h : Qc w g off m cs) (p : Nat) (v : Value) : Qc (w.setCell ⟨g, off + p, none⟩ v) g off m (cs.set p v) := by
  obtain ⟨cur, h1, h2, h3⟩ := h
  refine ⟨cur.setIfInBounds (off + p) v, heap_setCell_same w g (off + p) cur 37 v h1, by simpa using h2, ?_⟩
  rw [Array.toList_setIfInBounds, ← List.set_drop, List.take_set, h3]
theorem ins_set : ∀ (L : List Inp) (j : Nat) (m : Inp), j < L.length →
    (((((ins L).set (j * 5) (.bool m.mrk)).set (j * 5 + 1) (.int .i64 m.e.t)).set (j * 5 + 2) (.int .i64 m.e.k)).set (j * 5 + 3) (.int .i64 m.e.v)).set (j * 5 + 4) (.int .u64 m.e.l) = ins (L.set j m)
  | [], j, m, h => by simp at h
  | x :: r, 0, m, _ => rfl
  | x :: r, j + 1, m, h => by
    have ih := ins_set r j m (by simpa using h)
    have e : ∀ (a b c d f : Value) (l : List Value) (q : Nat) (u : Value), (a :: b :: c :: d :: f :: l).set (q + 5) u = a :: b :: c :: d :: f :: l.set q u := fun a b c d f l q u => rfl
    have e0 : ins (x :: r) = .bool x.mrk :: .int .i64 x.e.t :: .int .i64 x.e.k :: .int .i64 x.e.v :: .int .u64 x.e.l :: ins r := rfl
    have e1 : ins ((x :: r).set (j + 1) m) = .bool x.mrk :: .int .i64 x.e.t :: .int .i64 x.e.k :: .int .i64 x.e.v :: .int .u64 x.e.l :: ins (r.set j m) := rfl
    rw [e0, e1, ← ih, show (j + 1) * 5 = j * 5 + 5 by omega, e, show j * 5 + 5 + 1 = (j * 5 + 1) + 5 by omega, e, show j * 5 + 5 + 2 = (j * 5 + 2) + 5 by omega, e, show j * 5 + 5 + 3 = (j * 5 + 3) + 5 by omega, e, show j * 5 + 5 + 4 = (j * 5 + 4) + 5 by omega, e]
theorem qv_of_qc {w : World} {g off n cap : Nat} {cs : List Value} {L : List Inp} (h : Qc w g off (cap * 5) cs) (hl : L.length = n) (hn : n ≤ cap) (hc : cap ≤ maxLen) (ht : cs.take (n * 5) = ins L) : Qv w (.slice (some ⟨g, off, none⟩) n cap) L := by
  subst hl
  obtain ⟨cur, k1, k2, k3⟩ := h
  refine .inr ⟨g, off, cap, cur, rfl, k1, hn, hc, k2, ?_⟩
  rw [← ht, ← k3, List.take_take, Nat.min_eq_left (by omega)]
theorem grown_set {w w' : World} {g : Nat} (h : w.grownBy w' (some g)) (i : Nat) (v : Value) : w.grownBy (w'.setCell ⟨g, i, none⟩ v) (some g) :=
  ⟨h.os, h.tape, h.output, by simpa [World.setCell] using h.size, fun k hk hne => (Below.heap_setCell _ _ _ _ (fun e => hne (by rw [e]))).trans (h.block k hk hne)⟩
theorem grown_refl (w : World) (row : Option Nat) : w.grownBy w row := ⟨rfl, rfl, rfl, Nat.le_refl _, fun _ _ _ => rfl⟩
/-- One input of a list is written over. -/
theorem Qv.over {w : World} {g off n cap : Nat} {L : List Inp} (h : Qv w (.slice (some ⟨g, off, none⟩) n cap) L) (j : Nat) (hj : j < L.length) (m : Inp) :
    Qv (((((w.setCell ⟨g, off + j * 5, none⟩ (.bool m.mrk)).setCell ⟨g, off + j * 5 + 1, none⟩ (.int .i64 m.e.t)).setCell ⟨g, off + j * 5 + 2, none⟩ (.int .i64 m.e.k)).setCell ⟨g, off + j * 5 + 3, none⟩ (.int .i64 m.e.v)).setCell ⟨g, off + j * 5 + 4, none⟩ (.int .u64 m.e.l)) (.slice (some ⟨g, off, none⟩) n cap) (L.set j m) ∧
      w.grownBy (((((w.setCell ⟨g, off + j * 5, none⟩ (.bool m.mrk)).setCell ⟨g, off + j * 5 + 1, none⟩ (.int .i64 m.e.t)).setCell ⟨g, off + j * 5 + 2, none⟩ (.int .i64 m.e.k)).setCell ⟨g, off + j * 5 + 3, none⟩ (.int .i64 m.e.v)).setCell ⟨g, off + j * 5 + 4, none⟩ (.int .u64 m.e.l)) (some g) ∧
      (∀ i, w.frozen? ⟨g, i, none⟩ = false) ∧ ∃ c0 c1 c2 c3 c4, w.cell? ⟨g, off + j * 5, none⟩ = some c0 ∧ w.cell? ⟨g, off + j * 5 + 1, none⟩ = some c1 ∧ w.cell? ⟨g, off + j * 5 + 2, none⟩ = some c2 ∧ w.cell? ⟨g, off + j * 5 + 3, none⟩ = some c3 ∧ w.cell? ⟨g, off + j * 5 + 4, none⟩ = some c4 := by
  have hin := h.inat j hj
  rcases h with ⟨h, _⟩ | ⟨g', off', cap', cur, e, hh, h1, h2, h3, h4⟩
  · cases h
  · cases e
    have q0 : Qc w g off (cap * 5) ((cur.toList.drop off).take (cap * 5)) := ⟨cur, hh, h3, rfl⟩
    have q5 := ((((q0.stored (j * 5) (.bool m.mrk)).stored (j * 5 + 1) (.int .i64 m.e.t)).stored (j * 5 + 2) (.int .i64 m.e.k)).stored (j * 5 + 3) (.int .i64 m.e.v)).stored (j * 5 + 4) (.int .u64 m.e.l)
    simp only [← Nat.add_assoc] at q5
    refine ⟨qv_of_qc q5 List.length_set h1 h2 ?_, grown_set (grown_set (grown_set (grown_set (grown_set (grown_refl w _) _ _) _ _) _ _) _ _) _ _, fun i => frozen_of_row w g i cur 37 hh, ?_⟩
    · rw [List.take_set, List.take_set, List.take_set, List.take_set, List.take_set, List.take_take, Nat.min_eq_left (by omega), h4]
      exact ins_set L j m hj
    · exact ⟨_, _, _, _, _, hin.1, hin.2.1, hin.2.2.1, hin.2.2.2.1, hin.2.2.2.2⟩
theorem Qv.addr {w : World} {ao : Option Addr} {n cap : Nat} {L : List Inp} (h : Qv w (.slice ao n cap) L) (hn : 0 < L.length) : ∃ g off, ao = some ⟨g, off, none⟩ := by
  rcases h with ⟨_, rfl⟩ | ⟨g', off', cap', cur, e, _⟩
  · exact absurd hn (Nat.lt_irrefl _)
  · cases e
    exact ⟨g', off', rfl⟩
/-- q = o. -/
theorem St.assign {W0 w : World} {qs : List Qt} {ls : List Lt} {b bo : Nat} {v uo : Value} {L Lo : List Inp} (h : St W0 w ((bo, uo, Lo) :: (b, v, L) :: qs) ls) : St W0 (w.setCell ⟨b, 0, none⟩ uo) ((b, uo, Lo) :: qs) ls := by
  obtain ⟨hb, h2, h3⟩ := h.q (b, v, L) (by simp)
  have hm : Mv b none w (w.setCell ⟨b, 0, none⟩ uo) := ⟨rfl, rfl, rfl, by simp [World.setCell], fun k _ hk _ => Below.heap_setCell _ _ _ _ hk⟩
  have hkeep : ∀ y is, Qv w y is → Qv (w.setCell ⟨b, 0, none⟩ uo) y is := fun y is hy => hy.keep fun k hk => Below.heap_setCell _ _ _ _ (h2.ne hy hk)
  have hs : List.Sublist (vals ((b, uo, Lo) :: qs) ls) (vals ((bo, uo, Lo) :: (b, v, L) :: qs) ls) := (List.sublist_cons_self v (vals qs ls)).cons_cons uo
  have hn := (List.pairwise_cons.1 (List.pairwise_cons.1 h.nd).2)
  refine ⟨h.b.trans (hm.below hb (fun k hk => by cases hk) h.b.size), fun x hx => ?_, fun z hz => hkeep _ _ (h.l z hz), fun y hy => h.lo y (hs.subset hy), h.ap.sublist hs, List.pairwise_cons.2 ⟨fun y hy => hn.1 y hy, hn.2⟩⟩
  rcases List.mem_cons.1 hx with rfl | hx
  · exact ⟨hb, h2.set uo, hkeep _ _ h.hd.2.2⟩
  · obtain ⟨k1, k2, k3⟩ := h.q x (List.mem_cons_of_mem _ (List.mem_cons_of_mem _ hx))
    exact ⟨k1, (Below.heap_setCell _ _ _ _ (Ne.symm (hn.1 x hx))).trans k2, hkeep _ _ k3⟩
/-- An ask's block whole. -/
def Akk (w : World) (g : Nat) (x y z : Int) : Prop := w.heap[g]? = some (.cells #[.int .i64 x, .int .i64 y, .int .i64 z] 31 (0, 0))
theorem Akk.c {w : World} {g : Nat} {x y z : Int} (h : Akk w g x y z) : w.cell? ⟨g, 0, none⟩ = some (.int .i64 x) ∧ w.cell? ⟨g, 1, none⟩ = some (.int .i64 y) ∧ w.cell? ⟨g, 2, none⟩ = some (.int .i64 z) := by
  unfold Akk at h; exact ⟨by simp [World.cell?, h], by simp [World.cell?, h], by simp [World.cell?, h]⟩
theorem Akk.lt {w : World} {g : Nat} {x y z : Int} (h : Akk w g x y z) : g < w.heap.size := (Array.getElem?_eq_some_iff.1 h).1
theorem Akk.call {w w' : World} {g : Nat} {x y z : Int} (h : Akk w g x y z) (hb : Below w.heap.size w w') : Akk w' g x y z := (hb.block g h.lt).trans h
theorem Akk.grown {w w' : World} {g : Nat} {x y z : Int} {u : Value} {M : List Inp} (h : Akk w g x y z) (hq : Qv w u M) (hg : w.grownBy w' u.ownBlock) : Akk w' g x y z := by
  refine (hg.block g h.lt (fun e => ?_)).trans h
  obtain ⟨cur, hc⟩ := hq.typ g e.symm
  unfold Akk at h
  rw [hc] at h
  simp at h
theorem akk_new (w : World) (x y z : Int) : Akk (w.alloc (.cells #[.int .i64 x, .int .i64 y, .int .i64 z] 31)) w.heap.size x y z := by
  show (w.heap.push _)[w.heap.size]? = _
  simp
/-- The inputs that are made: counted on. -/
def gen (nx : Nat) : Nat → List Inp
  | 0 => []
  | k + 1 => gen nx k ++ [⟨false, ⟨0, 0, ((nx + k : Nat) : Int) + 1, 0⟩⟩]
theorem gen_len (nx : Nat) : ∀ k, (gen nx k).length = k
  | 0 => rfl
  | k + 1 => by simp [gen, gen_len nx k]
end Go.Proofs.Ytmkdhgjnfnfliaa
