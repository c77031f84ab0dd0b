/- What PanesPlays wants of its row: events that came in, asks that came in. -/
import Derived.Test.YtombgbdplafooaaRows
import Derived.Test.YtombgbdplafooaaERoomy
import Derived.ProofKit
import Derived.OpenShut
import Derived.ChangeOld
import Derived.Below
import Derived.Lib.SmallJoins
import Derived.Deep.Slices
import Derived.Deep.Strs
namespace Go.Proofs.Ytombgbdplafooaa
open Go.ChangeShapes Go.WideShapes Go.ChangeAt Go.RowKit Go.Joins M
set_option linter.unusedVariables false

theorem pown : ownKnob Try.prog.godebug = none := by kernel_rfl
theorem plaidOut : laidOutB Try.prog = true := by kernel_rfl
theorem Try.pcells35 : Try.prog.cellsOf 35 = 4 := by kernel_rfl
theorem Try.pcells3 : Try.prog.cellsOf 3 = 1 := by kernel_rfl
theorem Try.pcells33 : Try.prog.cellsOf 33 = 1 := by kernel_rfl
theorem Try.pcells31 : Try.prog.cellsOf 31 = 3 := by kernel_rfl
theorem Try.pcells29 : Try.prog.cellsOf 29 = 1 := by kernel_rfl
theorem pwf_nat {x : Int} (h : (Lit.int .u64 x).wf = true) : ∃ n : Nat, x = (n : Int) ∧ n < 18446744073709551616 := by
  obtain ⟨h0, h1⟩ := bounds_u64 h
  exact ⟨x.toNat, by omega, by omega⟩
/-- The four cells of an event, at any address. -/
def EvA (w : World) (x : Addr) (i : Nat) (e : Ev) : Prop :=
  w.cell? (x.add (i * 4)) = some (.int .i64 e.t) ∧ w.cell? (x.add (i * 4 + 1)) = some (.int .i64 e.k) ∧ w.cell? (x.add (i * 4 + 2)) = some (.int .i64 e.v) ∧ w.cell? (x.add (i * 4 + 3)) = some (.int .u64 e.l)
/-- A slice of events that came in: nil, or a row of cells. -/
def IsRowE (w : World) (a : Option Addr) (len cap : Nat) (es : List Ev) : Prop :=
  (a = none ∧ len = 0 ∧ cap = 0 ∧ es = []) ∨
  ∃ x, a = some x ∧ len ≤ cap ∧ cap ≤ maxLen ∧ es.length = cap ∧ (∀ i, i < es.length → EvA w x i (eAt es i)) ∧ ∀ e ∈ es, e.l < 18446744073709551616
theorem IsRowE.below {w w' : World} {a : Option Addr} {len cap : Nat} {es : List Ev} (h : IsRowE w a len cap es) (hb : Below w.heap.size w w') : IsRowE w' a len cap es := by
  rcases h with h | ⟨x, rfl, h1, h2, h3, hc, hl⟩
  · exact .inl h
  · refine .inr ⟨x, rfl, h1, h2, h3, fun i hi => ?_, hl⟩
    obtain ⟨c0, c1, c2, c3⟩ := hc i hi
    exact ⟨(hb.cell (World.block_lt_of_cell? w _ c0)).trans c0, (hb.cell (World.block_lt_of_cell? w _ c1)).trans c1, (hb.cell (World.block_lt_of_cell? w _ c2)).trans c2, (hb.cell (World.block_lt_of_cell? w _ c3)).trans c3⟩
theorem plist_of {P : Nat → Ev → Prop} : ∀ (m : Nat), (∀ i, i < m → ∃ e, P i e ∧ e.l < 18446744073709551616) → ∃ es : List Ev, es.length = m ∧ (∀ i, i < m → P i (eAt es i)) ∧ ∀ e ∈ es, e.l < 18446744073709551616
  | 0, _ => ⟨[], rfl, fun i hi => absurd hi (Nat.not_lt_zero _), by simp⟩
  | m + 1, h => by
    obtain ⟨es, hl, hp, hb⟩ := plist_of m fun i hi => h i (by omega)
    obtain ⟨e, he, hel⟩ := h m (by omega)
    refine ⟨es ++ [e], by simp [hl], fun i hi => ?_, fun x hx => ?_⟩
    · by_cases hlt : i < m
      · have : eAt (es ++ [e]) i = eAt es i := by simp [eAt, List.getD_eq_getElem?_getD, List.getElem?_append_left (show i < es.length by omega)]
        rw [this]; exact hp i hlt
      · obtain rfl : i = m := by omega
        have : eAt (es ++ [e]) i = e := by simp [eAt, List.getD_eq_getElem?_getD, ← hl]
        rw [this]; exact he
    · rcases List.mem_append.1 hx with hx | hx
      · exact hb x hx
      · rw [List.mem_singleton.1 hx]; exact hel
/-- Asks that came in. -/
def IsAsk (w : World) (a : Option Addr) (len cap : Nat) : Prop :=
  len ≤ 9223372036854775807 ∧ cap ≤ 9223372036854775807 ∧ len ≤ cap ∧ ∀ k, k < len → ∃ b off x y a' l' c' es, a = some ⟨b, off, none⟩ ∧ b < w.heap.size ∧ w.cell? ⟨b, off + k * 3, none⟩ = some (.int .i64 x) ∧ w.cell? ⟨b, off + k * 3 + 1, none⟩ = some (.int .i64 y) ∧ w.cell? ⟨b, off + k * 3 + 2, none⟩ = some (.slice a' l' c') ∧ IsRowE w a' l' c' es
section
variable {H : Type} {enc : TypeId × Value → H}
set_option maxRecDepth 100000 in
theorem open_evc {W : World} {fuel : Nat} {c : Value} {x : DataW H × List MemPlace}
    (h : DataW.trod enc Try.prog W 0 (fun _ => true) true fuel 29 [c] = some x) : ∃ a len cap es, c = .slice a len cap ∧ IsRowE W a len cap es := by
  rcases Deep.open_slice Try.underlying29 h with ⟨hcs, _⟩ | ⟨ad, l, c, m, n, D, Pl, hcs, _, hl, hm, hmm, _, hcell⟩
  · simp at hcs
    subst hcs
    exact ⟨none, 0, 0, [], rfl, .inl ⟨rfl, rfl, rfl, rfl⟩⟩
  · simp at hcs
    subst hcs
    simp at hmm
    subst hmm
    obtain ⟨es, hes, hp, hb⟩ := plist_of (P := EvA W ad) m fun i hi => by
      obtain ⟨cs', hc, ht⟩ := hcell i hi
      rw [Try.pcells35] at hc
      obtain ⟨_, hlen, hce⟩ := World.cells?_some hc
      obtain ⟨y0, y1, y2, y3, n', _, _, h0, h1, h2, h3⟩ := trod_struct4 Try.underlying35 ht
      match cs', hlen with
      | [c0, c1, c2, c3], _ =>
        have e0 := hce 0 (by omega)
        have e1 := hce 1 (by omega)
        have e2 := hce 2 (by omega)
        have e3 := hce 3 (by omega)
        rw [Deep.add_add] at e0 e1 e2 e3
        simp [Try.pcells3, Try.pcells33] at h0 h1 h2 h3
        obtain ⟨a0, q0, -, w0⟩ := DataW.trod_int Try.underlying3 h0
        obtain ⟨a1, q1, -, w1⟩ := DataW.trod_int Try.underlying3 h1
        obtain ⟨a2, q2, -, w2⟩ := DataW.trod_int Try.underlying3 h2
        obtain ⟨a3, q3, -, w3⟩ := DataW.trod_int Try.underlying33 h3
        obtain ⟨l, rfl, hl⟩ := pwf_nat w3
        simp only [List.cons.injEq, and_true] at q0 q1 q2 q3
        subst q0 q1 q2 q3
        exact ⟨⟨a0, a1, a2, l⟩, ⟨by simpa using e0, by simpa using e1, by simpa using e2, by simpa using e3⟩, hl⟩
    exact ⟨_, _, _, es, rfl, .inr ⟨ad, rfl, hl, hm, hes, by rw [hes]; exact hp, hb⟩⟩
set_option maxRecDepth 100000 in
theorem open_pasks {W : World} {fuel : Nat} {a : Option Addr} {len cap : Nat} {x : DataW H × List MemPlace}
    (h : DataW.trod enc Try.prog W 0 (fun _ => true) true fuel 22 [.slice a len cap] = some x) : IsAsk W a len cap := by
  rcases Deep.open_slice Try.underlying22 h with ⟨hcs, _⟩ | ⟨ad, l, c, m, n, D, Pl, hcs, _, hl, hm, hmm, _, hcell⟩
  · simp at hcs
    obtain ⟨rfl, rfl, rfl⟩ := hcs
    exact ⟨by decide, by decide, by decide, fun k hk => absurd hk (Nat.not_lt_zero _)⟩
  · simp at hcs
    obtain ⟨rfl, rfl, rfl⟩ := hcs
    simp at hmm
    subst hmm
    unfold maxLen at hm
    have hx : ∀ i, i < m → ∃ x y a' l' c' es, W.cell? (ad.add (i * 3)) = some (.int .i64 x) ∧ W.cell? (ad.add (i * 3 + 1)) = some (.int .i64 y) ∧ W.cell? (ad.add (i * 3 + 2)) = some (.slice a' l' c') ∧ IsRowE W a' l' c' es := fun i hi => by
      obtain ⟨cs', hc, ht⟩ := hcell i hi
      rw [Try.pcells31] at hc
      obtain ⟨_, hlen, hce⟩ := World.cells?_some hc
      obtain ⟨y0, y1, y2, n', _, _, h0, h1, h2⟩ := Deep.trod_struct3 Try.underlying31 ht
      match cs', hlen with
      | [c0, c1, c2], _ =>
        have e0 := hce 0 (by omega)
        have e1 := hce 1 (by omega)
        have e2 := hce 2 (by omega)
        rw [Deep.add_add] at e0 e1 e2
        simp [Try.pcells3, Try.pcells29] at h0 h1 h2
        obtain ⟨a0, q0, -, w0⟩ := DataW.trod_int Try.underlying3 h0
        obtain ⟨a1, q1, -, w1⟩ := DataW.trod_int Try.underlying3 h1
        obtain ⟨a', l', c', es, rfl, hrow⟩ := open_evc h2
        simp only [List.cons.injEq, and_true] at q0 q1
        subst q0 q1
        exact ⟨a0, a1, a', l', c', es, by simpa using e0, by simpa using e1, by simpa using e2, hrow⟩
    refine ⟨by omega, by omega, hl, fun k hk => ?_⟩
    obtain ⟨_, _, _, _, _, _, h0, _⟩ := hx 0 (by omega)
    rw [Nat.zero_mul] at h0
    obtain ⟨b, off, rfl⟩ := addr_plain h0
    obtain ⟨x, y, a', l', c', es, e0, e1, e2, hrow⟩ := hx k (by omega)
    rw [Addr.add_lit] at e0 e1 e2
    exact ⟨b, off, x, y, a', l', c', es, rfl, World.block_lt_of_cell? W _ e0, e0, by rw [Nat.add_assoc]; exact e1, by rw [Nat.add_assoc]; exact e2, hrow⟩
end
theorem evs_take : ∀ (es : List Ev) (i : Nat), (evs es).take (i * 4) = evs (es.take i)
  | [], i => by simp [evs]
  | x :: s, 0 => by simp [evs]
  | x :: s, i + 1 => by
    have hc : (evCells x).length = 4 := rfl
    rw [evs_cons, List.take_succ_cons, evs_cons, ← evs_take s i, List.take_append, hc, List.take_of_length_le (by omega), show (i + 1) * 4 - 4 = i * 4 by omega]
/-- The first K of events that came in, as what is appended. -/
theorem src_rowE {w : World} {a : Option Addr} {len cap : Nat} {es : List Ev} (h : IsRowE w a len cap es) (K : Nat) (hK : K ≤ len) : SrcN 4 w (.slice a K cap) K (evs (es.take K)) := by
  rcases h with ⟨rfl, rfl, rfl, rfl⟩ | ⟨x, rfl, h1, h2, h3, hc, _⟩
  · have : K = 0 := by omega
    subst this
    exact .inl ⟨rfl, rfl, rfl⟩
  · have hl : (es.take K).length = K := by rw [List.length_take]; omega
    refine .inr ⟨x, cap, rfl, by rw [evs_len, hl], fun j u hj => ?_⟩
    have hjl := (List.getElem?_eq_some_iff.1 hj).1
    rw [evs_len, hl] at hjl
    have hq : j / 4 < K := by omega
    have h4 := evs_at (es.take K) (j / 4) (j % 4) (Nat.mod_lt _ (by decide)) (by omega)
    rw [show j / 4 * 4 + j % 4 = j by omega, hj] at h4
    have e1 : eAt (es.take K) (j / 4) = eAt es (j / 4) := by
      simp only [eAt, List.getD_eq_getElem?_getD, List.getElem?_take_of_lt hq]
    rw [e1] at h4
    obtain ⟨c0, c1, c2, c3⟩ := hc (j / 4) (by omega)
    have h5 : (j % 4 = 0 ∧ j = j / 4 * 4) ∨ (j % 4 = 1 ∧ j = j / 4 * 4 + 1) ∨ (j % 4 = 2 ∧ j = j / 4 * 4 + 2) ∨ (j % 4 = 3 ∧ j = j / 4 * 4 + 3) := by omega
    generalize j / 4 = q at *
    rcases h5 with ⟨h5, h6⟩ | ⟨h5, h6⟩ | ⟨h5, h6⟩ | ⟨h5, h6⟩ <;> rw [h5] at h4 <;> simp [evCells] at h4 <;> subst h4 <;> rw [h6]
    · exact c0
    · exact c1
    · exact c2
    · exact c3
end Go.Proofs.Ytombgbdplafooaa
