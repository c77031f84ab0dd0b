/- Lists of events that the call itself lays: their cells, how they are read, and how the first ones of a list that came in are copied. -/
import Derived.Test.YtakemkfnaebmiaaFrame
import Derived.Laws.AppendOwnNone
namespace Go.Proofs.Ytakemkfnaebmiaa
open Go.RowKit M

def evCells (e : Ev) : List Value := [.int .i64 e.t, .int .i64 e.k, .int .i64 e.v, .int .u64 e.l]
def evs (es : List Ev) : List Value := es.flatMap evCells
theorem evs_len (es : List Ev) : (evs es).length = es.length * 4 := by
  induction es with
  | nil => rfl
  | cons x r ih => simp only [evs, List.flatMap_cons, List.length_append, List.length_cons] at *; rw [ih]; simp [evCells]; omega
theorem evs_one (es : List Ev) : ∀ u ∈ evs es, u.oneCell' = true := by
  intro u hu
  simp only [evs, List.mem_flatMap] at hu
  obtain ⟨e, _, he⟩ := hu
  simp only [evCells, List.mem_cons, List.not_mem_nil, or_false] at he
  rcases he with rfl | rfl | rfl | rfl <;> rfl
theorem evs_append (a b : List Ev) : evs (a ++ b) = evs a ++ evs b := by simp [evs]
theorem evs_at (es : List Ev) : ∀ (i r : Nat), r < 4 → i < es.length → (evs es)[i * 4 + r]? = (evCells (evAt es i))[r]? := by
  induction es with
  | nil => intro i r _ hi; simp at hi
  | cons x s ih =>
    intro i r hr hi
    have hc : (evCells x).length = 4 := rfl
    show (evCells x ++ evs s)[i * 4 + r]? = _
    cases i with
    | zero => rw [List.getElem?_append_left (by omega)]; simp [evAt]
    | succ i =>
      rw [List.getElem?_append_right (by omega), hc, show (i + 1) * 4 + r - 4 = i * 4 + r by omega, ih i r hr (by simpa using hi), evAt_cons]
theorem evs_some {es : List Ev} {j : Nat} {u : Value} (h : (evs es)[j]? = some u) : j / 4 < es.length ∧ (evCells (evAt es (j / 4)))[j % 4]? = some u := by
  have hl := (List.getElem?_eq_some_iff.1 h).1
  rw [evs_len] at hl
  have h1 : j / 4 < es.length := by omega
  refine ⟨h1, ?_⟩
  rw [← evs_at es (j / 4) (j % 4) (by omega) h1, show j / 4 * 4 + j % 4 = j by omega]
  exact h

theorem own_below {w w' : World} {base : Nat} {e : TypeId} {size : Nat} {v : Value} {n : Nat} {xs : List Value} (h : w.ownsRow base e size v n xs) (hb : Below w.heap.size w w') : w'.ownsRow base e size v n xs := by
  obtain ⟨h1, h | ⟨g, cap, cur, rfl, h2, hh, r⟩⟩ := h
  · exact ⟨h1, .inl h⟩
  · have hg : g < w.heap.size := (Array.getElem?_eq_some_iff.1 hh).1
    exact ⟨h1, .inr ⟨g, cap, cur, rfl, h2, (hb.block g hg).trans hh, r⟩⟩

/-- The cells of a list of the call's own. -/
theorem own_cells {w : World} {base : Nat} {g cap : Nat} {es : List Ev} {e : TypeId} (h : w.ownsRow base e 4 (.slice (some ⟨g, 0, none⟩) es.length cap) es.length (evs es)) (j : Nat) (hj : j < es.length) : EvAt w g (0 + j * 4) (evAt es j) := by
  have hc : ∀ r, r < 4 → w.cell? ⟨g, 0 + j * 4 + r, none⟩ = (evCells (evAt es j))[r]? := by
    intro r hr
    rw [Nat.zero_add, h.cellAt (j * 4 + r) (by omega), evs_at es j r hr hj]
  exact ⟨hc 0 (by decide), hc 1 (by decide), hc 2 (by decide), hc 3 (by decide)⟩
/-- A list of the call's own, as the program's functions read it. -/
theorem rd_own {w : World} {base : Nat} {v : Value} {es : List Ev} {e : TypeId} (h : w.ownsRow base e 4 v es.length (evs es)) (hlt : ∀ x ∈ es, x.l < 18446744073709551616) : RdE w v es := by
  have h' := h
  obtain ⟨_, h | ⟨g, cap, cur, rfl, hb, hh, hn, hm, hs, ht⟩⟩ := h
  · obtain ⟨rfl, h0⟩ := h
    have : es = [] := List.eq_nil_of_length_eq_zero h0
    subst this
    exact ⟨by simp, by simp, none, 0, rfl, by simp, by simp, by simp⟩
  · have hcap := hm
    unfold maxLen at hcap
    exact ⟨by omega, hlt, _, cap, rfl, hn, hcap, fun _ => ⟨g, 0, rfl, (Array.getElem?_eq_some_iff.1 hh).1, fun j hj => own_cells h' j hj⟩⟩

theorem Try.info24 : (Try.prog.info? 24).map (fun i => (i.zero, i.size, i.bytes)) = some (some (.agg #[.int .i64 0, .int .i64 0, .int .i64 0, .int .u64 0]), 4, 32) := by kernel_rfl

/-- The first K of a list that came in, as they are copied. -/
theorem src_evs (w : World) (o : Obj) (x : Addr) (es : List Ev) (K : Nat) (hK : K ≤ es.length) (hcell : ∀ i, i < es.length → EvA w x i (evAt es i)) (hlt : ∀ e ∈ es, e.l < 18446744073709551616) :
    ∃ ns : List Ev, ns.length = K ∧ (∀ y ∈ ns, y.l < 18446744073709551616) ∧ (evs ns).length = K * 4 ∧ ∀ j u, (evs ns)[j]? = some u → (w.alloc o).cell? (x.add j) = some u := by
  have hl : (es.take K).length = K := by simp; omega
  refine ⟨es.take K, hl, fun y hy => hlt y (List.mem_of_mem_take hy), by rw [evs_len, hl], ?_⟩
  intro j u hj
  obtain ⟨h1, h2⟩ := evs_some hj
  rw [hl] at h1
  have e1 : evAt (es.take K) (j / 4) = evAt es (j / 4) := by
    simp only [evAt, List.getD_eq_getElem?_getD, List.getElem?_take_of_lt h1]
  rw [e1] at h2
  obtain ⟨c0, c1, c2, c3⟩ := hcell (j / 4) (by omega)
  have hc : w.cell? (x.add j) = some u := by
    have hj : j = j / 4 * 4 + j % 4 := by omega
    have hr : j % 4 < 4 := by omega
    generalize j % 4 = r at h2 hj hr
    rw [hj]
    match r, hr with
    | 0, _ => simpa [evCells, ← h2] using c0
    | 1, _ => simpa [evCells, ← h2] using c1
    | 2, _ => simpa [evCells, ← h2] using c2
    | 3, _ => simpa [evCells, ← h2] using c3
  have hlt : (x.add j).block < w.heap.size := World.block_lt_of_cell? w _ hc
  rw [(below_alloc w o).cell hlt, hc]
end Go.Proofs.Ytakemkfnaebmiaa
