/- What every statement of this seat wants of its row: an event that came in, a slice of events that came in. -/
import Derived.Test.YthnkhijabfnndaaRows
import Derived.Test.YthnkhijabfnndaaPut
import Derived.ProofKit
import Derived.OpenShut
import Derived.ChangeOld
import Derived.Below
import Derived.Lib.SmallJoins
import Derived.Deep.Slices
namespace Go.Proofs.Ythnkhijabfnndaa
open Go.ChangeShapes Go.WideShapes Go.ChangeAt Go.RowKit Go.Joins M
set_option linter.unusedVariables false

theorem own : ownKnob Try.prog.godebug = none := by kernel_rfl
theorem laidOut : laidOutB Try.prog = true := by kernel_rfl
theorem Try.cells27 : Try.prog.cellsOf 27 = 4 := by kernel_rfl
theorem Try.cells3 : Try.prog.cellsOf 3 = 1 := by kernel_rfl
theorem Try.cells25 : Try.prog.cellsOf 25 = 1 := by kernel_rfl
theorem wf_nat {x : Int} (h : (Lit.int .u64 x).wf = true) : ∃ n : Nat, x = (n : Int) ∧ n < 18446744073709551616 := by
  obtain ⟨h0, h1⟩ := bounds_u64 h
  exact ⟨x.toNat, by omega, by omega⟩

section
variable {H : Type} {enc : TypeId × Value → H}
set_option maxRecDepth 100000 in
/-- An event that came in. -/
theorem open_event {W : World} {base : Nat} {sp : Nat → Bool} {b0 : Nat} {v : Value} {d : DataW H} {p : List MemPlace}
    (hv : Value.okWide Try.prog W .any b0 27 v) (h : DataW.Trod enc Try.prog W base sp true 27 v d p) : ∃ a : Ev, v = evv a ∧ a.l < 18446744073709551616 := by
  obtain ⟨c0, c1, c2, c3, y0, y1, y2, y3, n, rfl, rfl, rfl, h0, h1, h2, h3⟩ := open_agg4 Try.underlying27 (by kernel_rfl) Try.cells27 hv h
  obtain ⟨a0, e0, -, w0⟩ := DataW.trod_int Try.underlying3 h0
  obtain ⟨a1, e1, -, w1⟩ := DataW.trod_int Try.underlying3 h1
  obtain ⟨a2, e2, -, w2⟩ := DataW.trod_int Try.underlying3 h2
  obtain ⟨a3, e3, -, w3⟩ := DataW.trod_int Try.underlying25 h3
  obtain ⟨l, rfl, hl⟩ := wf_nat w3
  simp only [List.cons.injEq, and_true] at e0 e1 e2 e3
  subst e0 e1 e2 e3
  exact ⟨⟨a0, a1, a2, l⟩, rfl, hl⟩
end

/-- The four cells of an event, at any address. -/
def EvA (w : World) (x : Addr) (i : Nat) (e : Ev) : Prop :=
  w.cell? (x.add (i * 4)) = some (.int .i64 e.t) ∧ w.cell? (x.add (i * 4 + 1)) = some (.int .i64 e.k) ∧ w.cell? (x.add (i * 4 + 2)) = some (.int .i64 e.v) ∧ w.cell? (x.add (i * 4 + 3)) = some (.int .u64 e.l)
/-- A slice of events that came in: nil, or a row of cells. -/
def IsRowE (w : World) (a : Option Addr) (len cap : Nat) (es : List Ev) : Prop :=
  (a = none ∧ len = 0 ∧ cap = 0 ∧ es = []) ∨
  ∃ x, a = some x ∧ len ≤ cap ∧ cap ≤ maxLen ∧ es.length = cap ∧ (∀ i, i < es.length → EvA w x i (eAt es i)) ∧ ∀ e ∈ es, e.l < 18446744073709551616

theorem list_of {P : Nat → Ev → Prop} : ∀ (m : Nat), (∀ i, i < m → ∃ e, P i e ∧ e.l < 18446744073709551616) → ∃ es : List Ev, es.length = m ∧ (∀ i, i < m → P i (eAt es i)) ∧ ∀ e ∈ es, e.l < 18446744073709551616
  | 0, _ => ⟨[], rfl, fun i hi => absurd hi (Nat.not_lt_zero _), by simp⟩
  | m + 1, h => by
    obtain ⟨es, hl, hp, hb⟩ := list_of m fun i hi => h i (by omega)
    obtain ⟨e, he, hel⟩ := h m (by omega)
    refine ⟨es ++ [e], by simp [hl], fun i hi => ?_, fun x hx => ?_⟩
    · by_cases hlt : i < m
      · have : eAt (es ++ [e]) i = eAt es i := by simp [eAt, List.getD_eq_getElem?_getD, List.getElem?_append_left (show i < es.length by omega)]
        rw [this]; exact hp i hlt
      · obtain rfl : i = m := by omega
        have : eAt (es ++ [e]) i = e := by simp [eAt, List.getD_eq_getElem?_getD, ← hl]
        rw [this]; exact he
    · rcases List.mem_append.1 hx with hx | hx
      · exact hb x hx
      · rw [List.mem_singleton.1 hx]; exact hel

section
variable {H : Type} {enc : TypeId × Value → H}
set_option maxRecDepth 100000 in
theorem open_events {W : World} {fuel : Nat} {a : Option Addr} {len cap : Nat} {x : DataW H × List MemPlace}
    (h : DataW.trod enc Try.prog W 0 (fun _ => true) true fuel 41 [.slice a len cap] = some x) : ∃ es, IsRowE W a len cap es := by
  rcases Deep.open_slice Try.underlying41 h with ⟨hcs, _⟩ | ⟨ad, l, c, m, n, D, Pl, hcs, _, hl, hm, hmm, _, hcell⟩
  · simp at hcs
    obtain ⟨rfl, rfl, rfl⟩ := hcs
    exact ⟨[], .inl ⟨rfl, rfl, rfl, rfl⟩⟩
  · simp at hcs
    obtain ⟨rfl, rfl, rfl⟩ := hcs
    simp at hmm
    subst hmm
    obtain ⟨es, hes, hp, hb⟩ := list_of (P := EvA W ad) m fun i hi => by
      obtain ⟨cs', hc, ht⟩ := hcell i hi
      rw [Try.cells27] at hc
      obtain ⟨_, hlen, hce⟩ := World.cells?_some hc
      obtain ⟨y0, y1, y2, y3, n', _, _, h0, h1, h2, h3⟩ := trod_struct4 Try.underlying27 ht
      match cs', hlen with
      | [c0, c1, c2, c3], _ =>
        have e0 := hce 0 (by omega)
        have e1 := hce 1 (by omega)
        have e2 := hce 2 (by omega)
        have e3 := hce 3 (by omega)
        rw [Deep.add_add] at e0 e1 e2 e3
        simp [Try.cells3, Try.cells25] at h0 h1 h2 h3
        obtain ⟨a0, q0, -, w0⟩ := DataW.trod_int Try.underlying3 h0
        obtain ⟨a1, q1, -, w1⟩ := DataW.trod_int Try.underlying3 h1
        obtain ⟨a2, q2, -, w2⟩ := DataW.trod_int Try.underlying3 h2
        obtain ⟨a3, q3, -, w3⟩ := DataW.trod_int Try.underlying25 h3
        obtain ⟨l, rfl, hl⟩ := wf_nat w3
        simp only [List.cons.injEq, and_true] at q0 q1 q2 q3
        subst q0 q1 q2 q3
        exact ⟨⟨a0, a1, a2, l⟩, ⟨by simpa using e0, by simpa using e1, by simpa using e2, by simpa using e3⟩, hl⟩
    exact ⟨es, .inr ⟨ad, rfl, hl, hm, hes, by rw [hes]; exact hp, hb⟩⟩
end
end Go.Proofs.Ythnkhijabfnndaa
