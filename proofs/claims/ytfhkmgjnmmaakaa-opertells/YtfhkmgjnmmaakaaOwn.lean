/- Lists of operations that the call itself lays: their cells, how they are read, parts of them, and how the first ones of a list that came in are copied. -/
import Derived.Test.YtfhkmgjnmmaakaaFilters
import Derived.Laws.AppendOwnNone
import Derived.Deep.RegionHeld3
import Derived.Deep.DrawnRows
import Derived.Deep.QuietTactic
import Derived.BigQuiet
namespace Go.Proofs.Ytfhkmgjnmmaakaa
open Go.RowKit M

def opCells (o : Oq) : List Value := [.int .i64 o.k, .int .i64 o.n]
def opl (os : List Oq) : List Value := os.flatMap opCells
theorem opl_len (os : List Oq) : (opl os).length = os.length * 2 := by
  induction os with
  | nil => rfl
  | cons x r ih => simp only [opl, List.flatMap_cons, List.length_append, List.length_cons] at *; rw [ih]; simp [opCells]; omega
theorem opl_one (os : List Oq) : ∀ u ∈ opl os, u.oneCell' = true := by
  intro u hu
  simp only [opl, List.mem_flatMap] at hu
  obtain ⟨e, _, he⟩ := hu
  simp only [opCells, List.mem_cons, List.not_mem_nil, or_false] at he
  rcases he with rfl | rfl <;> rfl
theorem opl_append (a b : List Oq) : opl (a ++ b) = opl a ++ opl b := by simp [opl]
theorem opl_at (os : List Oq) : ∀ (i r : Nat), r < 2 → i < os.length → (opl os)[i * 2 + r]? = (opCells (opAt os i))[r]? := by
  induction os with
  | nil => intro i r _ hi; simp at hi
  | cons x s ih =>
    intro i r hr hi
    have hc : (opCells x).length = 2 := rfl
    show (opCells x ++ opl s)[i * 2 + r]? = _
    cases i with
    | zero => rw [List.getElem?_append_left (by omega)]; simp
    | succ i =>
      rw [List.getElem?_append_right (by omega), hc, show (i + 1) * 2 + r - 2 = i * 2 + r by omega, ih i r hr (by simpa using hi)]
      simp
theorem opl_some {os : List Oq} {j : Nat} {u : Value} (h : (opl os)[j]? = some u) : j / 2 < os.length ∧ (opCells (opAt os (j / 2)))[j % 2]? = some u := by
  have hl := (List.getElem?_eq_some_iff.1 h).1
  rw [opl_len] at hl
  have h1 : j / 2 < os.length := by omega
  refine ⟨h1, ?_⟩
  rw [← opl_at os (j / 2) (j % 2) (by omega) h1, show j / 2 * 2 + j % 2 = j by omega]
  exact h
theorem own_below {w w' : World} {base : Nat} {e : TypeId} {size : Nat} {v : Value} {n : Nat} {xs : List Value} (h : w.ownsRow base e size v n xs) (hb : Below w.heap.size w w') : w'.ownsRow base e size v n xs := by
  obtain ⟨h1, h | ⟨g, cap, cur, rfl, h2, hh, r⟩⟩ := h
  · exact ⟨h1, .inl h⟩
  · have hg : g < w.heap.size := (Array.getElem?_eq_some_iff.1 hh).1
    exact ⟨h1, .inr ⟨g, cap, cur, rfl, h2, (hb.block g hg).trans hh, r⟩⟩
theorem own_form {w : World} {base : Nat} {e : TypeId} {v : Value} {n : Nat} {xs : List Value} (h : w.ownsRow base e 2 v n xs) (hne : ¬ v = .slice none 0 0) :
    ∃ g cp, v = .slice (some ⟨g, 0, none⟩) n cp ∧ n ≤ cp ∧ cp ≤ 9223372036854775807 ∧ base ≤ g := by
  obtain ⟨_, h | ⟨g, cap, cur, rfl, h2, hh, hn, hm, _⟩⟩ := h
  · exact absurd h.1 hne
  · exact ⟨g, cap, rfl, hn, by unfold maxLen at hm; omega, h2⟩
/-- The cells of a list of the call's own. -/
theorem own_cells {w : World} {base : Nat} {g cap : Nat} {os : List Oq} {e : TypeId} (h : w.ownsRow base e 2 (.slice (some ⟨g, 0, none⟩) os.length cap) os.length (opl os)) (j : Nat) (hj : j < os.length) : OpAt w g (0 + j * 2) (opAt os j) := by
  have hc : ∀ r, r < 2 → w.cell? ⟨g, 0 + j * 2 + r, none⟩ = (opCells (opAt os j))[r]? := by
    intro r hr
    rw [Nat.zero_add, h.cellAt (j * 2 + r) (by omega), opl_at os j r hr hj]
  exact ⟨hc 0 (by decide), hc 1 (by decide)⟩
theorem rd_part {w : World} {base g cp : Nat} {ns : List Oq} {e : TypeId} (hown : w.ownsRow base e 2 (.slice (some ⟨g, 0, none⟩) ns.length cp) ns.length (opl ns)) (hlt : ∀ x ∈ ns, x.n ≤ 9223372036854775807) (ps : List Oq) (i off m cq : Nat) (hi : i + ps.length ≤ ns.length)
    (hps : ∀ j, j < ps.length → opAt ps j = opAt ns (i + j)) (hoff : ps.length ≠ 0 → off = i * 2) (hm : ps.length = m) (hm2 : m ≤ cq) (hq : cq ≤ 9223372036854775807) (hmem : ∀ x ∈ ps, x ∈ ns) : RdO w (.slice (some ⟨g, off, none⟩) m cq) ps := by
  subst hm
  refine ⟨by omega, fun x hx => hlt x (hmem x hx), _, cq, rfl, hm2, hq, fun h0 => ⟨g, off, rfl, ?_, fun j hj => ?_⟩⟩
  · have := own_cells hown i (by omega)
    exact World.block_lt_of_cell? w _ this.1
  · have := own_cells hown (i + j) (by omega)
    rw [hps j hj, hoff h0, show i * 2 + j * 2 = 0 + (i + j) * 2 by omega]
    exact this
theorem drop_at (ns : List Oq) (C : Nat) : ∀ j, j < (ns.drop C).length → opAt (ns.drop C) j = opAt ns (C + j) := by
  intro j _
  simp [List.getD_eq_getElem?_getD, List.getElem?_drop]
theorem take_part (ns : List Oq) (C : Nat) : ∀ j, j < (ns.take C).length → opAt (ns.take C) j = opAt ns (0 + j) := by
  intro j hj
  have : j < C := by rw [List.length_take] at hj; omega
  simp [List.getD_eq_getElem?_getD, List.getElem?_take_of_lt this]
theorem Try.info28 : (Try.prog.info? 28).map (fun i => (i.zero, i.size, i.bytes)) = some (some (.agg #[.int .i64 0, .int .i64 0]), 2, 16) := by kernel_rfl
/-- The first K of a list that came in, as they are copied. -/
theorem src_ops (w : World) (o : Obj) (x : Addr) (es : List Oq) (K : Nat) (hK : K ≤ es.length) (hcell : ∀ i, i < es.length → OpA w x i (opAt es i)) (hlt : ∀ e ∈ es, e.n ≤ 9223372036854775807) :
    ∃ ns : List Oq, ns.length = K ∧ (∀ y ∈ ns, y.n ≤ 9223372036854775807) ∧ (opl ns).length = K * 2 ∧ ∀ j u, (opl ns)[j]? = some u → (w.alloc o).cell? (x.add j) = some u := by
  have hl : (es.take K).length = K := by simp; omega
  refine ⟨es.take K, hl, fun y hy => hlt y (List.mem_of_mem_take hy), by rw [opl_len, hl], ?_⟩
  intro j u hj
  obtain ⟨h1, h2⟩ := opl_some hj
  rw [hl] at h1
  have e1 : opAt (es.take K) (j / 2) = opAt es (j / 2) := by
    simp only [List.getD_eq_getElem?_getD, List.getElem?_take_of_lt h1]
  rw [e1] at h2
  obtain ⟨c0, c1⟩ := hcell (j / 2) (by omega)
  have hc : w.cell? (x.add j) = some u := by
    have hj : j = j / 2 * 2 + j % 2 := by omega
    have hr : j % 2 < 2 := by omega
    generalize j % 2 = r at h2 hj hr
    rw [hj]
    match r, hr with
    | 0, _ => simpa [opCells, ← h2] using c0
    | 1, _ => simpa [opCells, ← h2] using c1
  have hlt : (x.add j).block < w.heap.size := World.block_lt_of_cell? w _ hc
  rw [(below_alloc w o).cell hlt, hc]
/-- A slice that came in, at a world in which nothing of it has turned. -/
theorem IsOps.below {w w' : World} {a : Option Addr} {len cap B : Nat} {os : List Oq} (h : IsOps w a len cap os) (hb : Below B w w') (hB : w.heap.size ≤ B) : IsOps w' a len cap os := by
  rcases h with h | ⟨x, rfl, h1, h2, h3, h4, h5⟩
  · exact .inl h
  · refine .inr ⟨x, rfl, h1, h2, h3, fun i hi => ?_, h5⟩
    obtain ⟨c0, c1⟩ := h4 i hi
    have k0 : (x.add (i * 2)).block < w.heap.size := World.block_lt_of_cell? w _ c0
    have k1 : (x.add (i * 2 + 1)).block < w.heap.size := World.block_lt_of_cell? w _ c1
    exact ⟨(hb.cell (Nat.lt_of_lt_of_le k0 hB)).trans c0, (hb.cell (Nat.lt_of_lt_of_le k1 hB)).trans c1⟩
theorem own_empty (w : World) : (w.alloc (.cells #[] 28)).ownsRow w.heap.size 28 2 (.slice (some ⟨w.heap.size, 0, none⟩) 0 0) 0 [] :=
  World.ownsRow_lit w #[] 0 (Nat.le_refl _) (by unfold maxLen; omega) (by simp)
theorem below_drewN {B : Nat} {w w' : World} (h : Below B w w') (n : Nat) : Below B w (w'.drewN n) := by
  induction n with
  | zero => exact h
  | succ n ih => exact ih.drew
/-- What stays while a region runs: an event's cells; what was there. -/
theorem ev_mk {V w' : World} {g : Nat} {t k v l : Int} (hE : Evk V g ⟨t, k, v, l⟩) (hb : Below V.heap.size V w') :
    w'.cell? ⟨g, 0, none⟩ = some (.int .i64 t) ∧ w'.cell? ⟨g, 1, none⟩ = some (.int .i64 k) ∧ w'.cell? ⟨g, 2, none⟩ = some (.int .i64 v) ∧ w'.cell? ⟨g, 3, none⟩ = some (.int .u64 l) ∧ Below V.heap.size V w' := by
  have h := hE.below hb hE.lt
  exact ⟨h.c0, h.c1, h.c2, h.c3, hb⟩
theorem ev_call {V w1 w2 : World} {g : Nat} {t k v l : Int} (hE : Evk V g ⟨t, k, v, l⟩)
    (h : w1.cell? ⟨g, 0, none⟩ = some (.int .i64 t) ∧ w1.cell? ⟨g, 1, none⟩ = some (.int .i64 k) ∧ w1.cell? ⟨g, 2, none⟩ = some (.int .i64 v) ∧ w1.cell? ⟨g, 3, none⟩ = some (.int .u64 l) ∧ Below V.heap.size V w1) (b : Below w1.heap.size w1 w2) :
    w2.cell? ⟨g, 0, none⟩ = some (.int .i64 t) ∧ w2.cell? ⟨g, 1, none⟩ = some (.int .i64 k) ∧ w2.cell? ⟨g, 2, none⟩ = some (.int .i64 v) ∧ w2.cell? ⟨g, 3, none⟩ = some (.int .u64 l) ∧ Below V.heap.size V w2 := ev_mk hE (bcall h.2.2.2.2 b)
theorem ev_alloc {V w1 : World} {g : Nat} {t k v l : Int} (hE : Evk V g ⟨t, k, v, l⟩)
    (h : w1.cell? ⟨g, 0, none⟩ = some (.int .i64 t) ∧ w1.cell? ⟨g, 1, none⟩ = some (.int .i64 k) ∧ w1.cell? ⟨g, 2, none⟩ = some (.int .i64 v) ∧ w1.cell? ⟨g, 3, none⟩ = some (.int .u64 l) ∧ Below V.heap.size V w1) (o : Obj) :
    (w1.alloc o).cell? ⟨g, 0, none⟩ = some (.int .i64 t) ∧ (w1.alloc o).cell? ⟨g, 1, none⟩ = some (.int .i64 k) ∧ (w1.alloc o).cell? ⟨g, 2, none⟩ = some (.int .i64 v) ∧ (w1.alloc o).cell? ⟨g, 3, none⟩ = some (.int .u64 l) ∧ Below V.heap.size V (w1.alloc o) := ev_mk hE (bnew h.2.2.2.2 o)
theorem ev_set {V w1 : World} {g b : Nat} {t k v l : Int} (hE : Evk V g ⟨t, k, v, l⟩)
    (h : w1.cell? ⟨g, 0, none⟩ = some (.int .i64 t) ∧ w1.cell? ⟨g, 1, none⟩ = some (.int .i64 k) ∧ w1.cell? ⟨g, 2, none⟩ = some (.int .i64 v) ∧ w1.cell? ⟨g, 3, none⟩ = some (.int .u64 l) ∧ Below V.heap.size V w1) (hb : V.heap.size ≤ b) (x0 x1 x2 x3 : Value) :
    ((((w1.setCell ⟨b, 0, none⟩ x0).setCell ⟨b, 1, none⟩ x1).setCell ⟨b, 2, none⟩ x2).setCell ⟨b, 3, none⟩ x3).cell? ⟨g, 0, none⟩ = some (.int .i64 t) ∧ ((((w1.setCell ⟨b, 0, none⟩ x0).setCell ⟨b, 1, none⟩ x1).setCell ⟨b, 2, none⟩ x2).setCell ⟨b, 3, none⟩ x3).cell? ⟨g, 1, none⟩ = some (.int .i64 k) ∧ ((((w1.setCell ⟨b, 0, none⟩ x0).setCell ⟨b, 1, none⟩ x1).setCell ⟨b, 2, none⟩ x2).setCell ⟨b, 3, none⟩ x3).cell? ⟨g, 2, none⟩ = some (.int .i64 v) ∧ ((((w1.setCell ⟨b, 0, none⟩ x0).setCell ⟨b, 1, none⟩ x1).setCell ⟨b, 2, none⟩ x2).setCell ⟨b, 3, none⟩ x3).cell? ⟨g, 3, none⟩ = some (.int .u64 l) ∧ Below V.heap.size V ((((w1.setCell ⟨b, 0, none⟩ x0).setCell ⟨b, 1, none⟩ x1).setCell ⟨b, 2, none⟩ x2).setCell ⟨b, 3, none⟩ x3) := ev_mk hE (below_set4 h.2.2.2.2 hb _ _ _ _)
/-- An operation that yields is taken first: the slot by its number. -/
theorem take_at {P : Program} {ops : Array Oper} {Q : Exit → Act → World → Prop} {md : Region.Mode} {S : World → Prop} {i k : Nat} {oi : Oper} {v : Value} {fuel : Nat} {listed : Array Bool} {a : Act} {w : World} (hi : ops[i]? = some oi) (hd : oi.dst = some k)
    (hs : Region.noSelect ops = true) (hf : Region.free md ops listed i = true) (hr : (Region.ready md ops listed).contains i = true)
    (hQ : ∀ c a w, Q (.panic c) (a.put (some k) v) w → Q (.panic c) a w) (hy : YieldsIf P ops S oi v a) (hS : S w)
    (h : wpAnyH P md ops Q S fuel (listed.setIfInBounds i true) (a.put (some k) v) w) : wpAnyH P md ops Q S (fuel + 1) listed a w := by
  rw [← hd] at h hQ
  exact wpAnyH_take hi hs hf hr hQ hy hS h
end Go.Proofs.Ytfhkmgjnmmaakaa
