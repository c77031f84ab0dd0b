/- Parts of a list of events of the call's own; what stays of it. -/
import Derived.Test.YthnkhijabfnndaaOne
import Derived.Test.YthnkhijabfnndaaMathO
namespace Go.Proofs.Ythnkhijabfnndaa
open Go.RowKit M
set_option linter.unusedVariables false
set_option linter.unusedSimpArgs false
attribute [local go_sem ↓] Go.wp_at_zero Go.wp_at_succ

theorem evs_take : ∀ (L : List Ev) (i : Nat), (evs L).take (i * 4) = evs (L.take i)
  | [], i => by simp [evs]
  | x :: s, 0 => by simp [evs]
  | x :: s, i + 1 => by
    have hc : (evCells x).length = 4 := rfl
    rw [evs_cons, List.take_succ_cons, evs_cons, ← evs_take s i, List.take_append, hc, List.take_of_length_le (by omega), show (i + 1) * 4 - 4 = i * 4 by omega]
theorem evs_drop : ∀ (L : List Ev) (i : Nat), (evs L).drop (i * 4) = evs (L.drop i)
  | [], i => by simp [evs]
  | x :: s, 0 => by simp
  | x :: s, i + 1 => by
    have hc : (evCells x).length = 4 := rfl
    rw [evs_cons, List.drop_succ_cons, ← evs_drop s i, List.drop_append, hc, List.drop_of_length_le (by omega), show (i + 1) * 4 - 4 = i * 4 by omega, List.nil_append]
theorem src_take_ev {w : World} {base g m cp : Nat} {es : List Ev} (h : w.ownsRow base 27 4 (.slice (some ⟨g, 0, none⟩) m cp) m (evs es)) (c : Nat) (hc : c ≤ m) : SrcN 4 w (.slice (some ⟨g, 0, none⟩) c cp) c (evs (es.take c)) := by
  have hm : m = es.length := by have := h.1; rw [evs_len] at this; omega
  refine .inr ⟨⟨g, 0, none⟩, cp, rfl, by rw [evs_len, List.length_take]; omega, fun j u hj => ?_⟩
  rw [← evs_take, List.getElem?_take] at hj
  split at hj
  · have hjl := (List.getElem?_eq_some_iff.1 hj).1
    rw [evs_len] at hjl
    rw [Addr.add_lit, Nat.zero_add, h.cellAt j (by omega), hj]
  · cases hj
theorem src_drop_ev {w : World} {base g m cp : Nat} {es : List Ev} (h : w.ownsRow base 27 4 (.slice (some ⟨g, 0, none⟩) m cp) m (evs es)) (c : Nat) (hc : c ≤ m) (A : Addr) (hA : (cp = c ∧ A = ⟨g, 0, none⟩) ∨ (cp ≠ c ∧ A = ⟨g, c * 4, none⟩)) (hcp : m ≤ cp) : SrcN 4 w (.slice (some A) (m - c) (cp - c)) (m - c) (evs (es.drop c)) := by
  have hm : m = es.length := by have := h.1; rw [evs_len] at this; omega
  refine .inr ⟨A, cp - c, rfl, by rw [evs_len, List.length_drop]; omega, fun j u hj => ?_⟩
  have hjl := (List.getElem?_eq_some_iff.1 hj).1
  rw [evs_len, List.length_drop] at hjl
  rcases hA with ⟨e, rfl⟩ | ⟨_, rfl⟩
  · omega
  · rw [← evs_drop, List.getElem?_drop] at hj
    rw [Addr.add_lit, h.cellAt (c * 4 + j) (by omega), hj]
theorem own_keep {w w' : World} {base : Nat} {e : TypeId} {size : Nat} {v : Value} {n : Nat} {xs : List Value} (h : w.ownsRow base e size v n xs) (hk : ∀ k, v.ownBlock = some k → w'.heap[k]? = w.heap[k]?) : w'.ownsRow base e size v n xs := by
  obtain ⟨h1, h | ⟨g, cap, cur, rfl, h2, hh, r⟩⟩ := h
  · exact ⟨h1, .inl h⟩
  · exact ⟨h1, .inr ⟨g, cap, cur, rfl, h2, (hk g rfl).trans hh, r⟩⟩
theorem rde_own2 {w : World} {base b1 : Nat} {v : Value} {n : Nat} {es : List Ev} (h : w.ownsRow base 27 4 v n (evs es)) (hlt : ∀ x ∈ es, x.l < 18446744073709551616) (hk : ∀ k, v.ownBlock = some k → k < b1) : ∃ q, RdE w v q es ∧ (q < b1 ∨ q = w.heap.size) := by
  have hn : n = es.length := by have := h.1; rw [evs_len] at this; omega
  subst hn
  have h' := h
  obtain ⟨_, h | ⟨g, cap, cur, rfl, hb, hh, hn, hm, hs, ht⟩⟩ := h
  · obtain ⟨rfl, h0⟩ := h
    have : es = [] := List.eq_nil_of_length_eq_zero h0
    subst this
    exact ⟨w.heap.size, rde_nil _ _, .inr rfl⟩
  · unfold maxLen at hm
    exact ⟨g, ⟨by omega, hlt, _, cap, rfl, hn, hm, fun _ => ⟨0, rfl, (Array.getElem?_eq_some_iff.1 hh).1, fun j hj => by rw [Nat.zero_add]; exact own_evat h' j hj⟩⟩, .inl (hk g rfl)⟩
/-- A row in a box of its own. -/
def Rwk (w : World) (b : Nat) (p : Pn) : Prop := w.heap[b]? = some (.cells (rcell p).toArray 33 (0, 0))
theorem Rwk.c {w : World} {b : Nat} {p : Pn} (h : Rwk w b p) : w.cell? ⟨b, 0, none⟩ = some (.int .i64 p.s) ∧ w.cell? ⟨b, 1, none⟩ = some (.int .i64 p.k) ∧ w.cell? ⟨b, 2, none⟩ = some (.int .i64 p.v) ∧ w.cell? ⟨b, 3, none⟩ = some (.int .i64 p.c) ∧ w.cell? ⟨b, 4, none⟩ = some (.int .u64 p.l) := by
  unfold Rwk rcell at h; exact ⟨by simp [World.cell?, h], by simp [World.cell?, h], by simp [World.cell?, h], by simp [World.cell?, h], by simp [World.cell?, h]⟩
theorem Rwk.lt {w : World} {b : Nat} {p : Pn} (h : Rwk w b p) : b < w.heap.size := (Array.getElem?_eq_some_iff.1 h).1
theorem Rwk.below {w w' : World} {b : Nat} {p : Pn} (h : Rwk w b p) (hb : Below w.heap.size w w') : Rwk w' b p := (hb.block b h.lt).trans h
theorem rwk_new (w : World) (p : Pn) : Rwk (w.alloc (.cells #[.int .i64 p.s, .int .i64 p.k, .int .i64 p.v, .int .i64 p.c, .int .u64 p.l] 33)) w.heap.size p := by
  show (w.heap.push _)[w.heap.size]? = _
  simp [rcell]
end Go.Proofs.Ythnkhijabfnndaa
