/- What every statement of this seat wants of its row: an event that came in, a slice of operations that came in. -/
import Derived.Test.YtfhkmgjnmmaakaaRows
import Derived.Test.YtfhkmgjnmmaakaaFold
import Derived.ProofKit
import Derived.OpenShut
import Derived.ChangeOld
import Derived.Below
import Derived.Lib.SmallJoins
import Derived.Deep.SlicePairs
namespace Go.Proofs.Ytfhkmgjnmmaakaa
open Go.ChangeShapes Go.WideShapes Go.ChangeAt Go.RowKit Go.Joins M

theorem own : ownKnob Try.prog.godebug = none := by kernel_rfl
theorem laidOut : laidOutB Try.prog = true := by kernel_rfl
theorem Try.cells24 : Try.prog.cellsOf 24 = 4 := by kernel_rfl
theorem Try.cells28 : Try.prog.cellsOf 28 = 2 := by kernel_rfl
theorem Try.cells3 : Try.prog.cellsOf 3 = 1 := by kernel_rfl
abbrev I64 (n : Int) : Prop := -9223372036854775808 ≤ n ∧ n ≤ 9223372036854775807

section
variable {H : Type} {enc : TypeId × Value → H}
/-- An event that came in. -/
theorem open_event {W : World} {base : Nat} {sp : Nat → Bool} {b0 : Nat} {v : Value} {d : DataW H} {p : List MemPlace}
    (hv : Value.okWide Try.prog W .any b0 24 v) (h : DataW.Trod enc Try.prog W base sp true 24 v d p) : ∃ a : Ev, v = ev a ∧ I64 a.v := by
  obtain ⟨c0, c1, c2, c3, y0, y1, y2, y3, n, rfl, rfl, rfl, h0, h1, h2, h3⟩ := open_agg4 Try.underlying24 (by kernel_rfl) Try.cells24 hv h
  obtain ⟨a0, e0, -, w0⟩ := DataW.trod_int Try.underlying3 h0
  obtain ⟨a1, e1, -, w1⟩ := DataW.trod_int Try.underlying3 h1
  obtain ⟨a2, e2, -, w2⟩ := DataW.trod_int Try.underlying3 h2
  obtain ⟨a3, e3, -, w3⟩ := DataW.trod_int Try.underlying22 h3
  simp only [List.cons.injEq, and_true] at e0 e1 e2 e3
  subst e0 e1 e2 e3
  exact ⟨⟨a0, a1, a2, a3⟩, rfl, bounds_i64 w2⟩
end
/-- The two cells of an operation, at any address. -/
def OpA (w : World) (x : Addr) (i : Nat) (o : Oq) : Prop := w.cell? (x.add (i * 2)) = some (.int .i64 o.k) ∧ w.cell? (x.add (i * 2 + 1)) = some (.int .i64 o.n)
/-- A slice of operations that came in: nil, or a row of cells. -/
def IsOps (w : World) (a : Option Addr) (len cap : Nat) (os : List Oq) : Prop :=
  (a = none ∧ len = 0 ∧ cap = 0 ∧ os = []) ∨
  ∃ x, a = some x ∧ len ≤ cap ∧ cap ≤ maxLen ∧ os.length = cap ∧ (∀ i, i < os.length → OpA w x i (opAt os i)) ∧ ∀ o ∈ os, o.n ≤ 9223372036854775807
theorem list_of {α : Type} {d : α} {P : Nat → α → Prop} {Q : α → Prop} : ∀ (m : Nat), (∀ i, i < m → ∃ e, P i e ∧ Q e) → ∃ es : List α, es.length = m ∧ (∀ i, i < m → P i (es.getD i d)) ∧ ∀ e ∈ es, Q e
  | 0, _ => ⟨[], rfl, fun i hi => absurd hi (Nat.not_lt_zero _), by simp⟩
  | m + 1, h => by
    obtain ⟨es, hl, hp, hb⟩ := list_of (d := d) m fun i hi => h i (by omega)
    obtain ⟨e, he, hel⟩ := h m (by omega)
    refine ⟨es ++ [e], by simp [hl], fun i hi => ?_, fun x hx => ?_⟩
    · by_cases hlt : i < m
      · have : (es ++ [e]).getD i d = es.getD i d := by simp [List.getD_eq_getElem?_getD, List.getElem?_append_left (show i < es.length by omega)]
        rw [this]; exact hp i hlt
      · obtain rfl : i = m := by omega
        have : (es ++ [e]).getD i d = e := by simp [List.getD_eq_getElem?_getD, ← hl]
        rw [this]; exact he
    · rcases List.mem_append.1 hx with hx | hx
      · exact hb x hx
      · rw [List.mem_singleton.1 hx]; exact hel
section
variable {H : Type} {enc : TypeId × Value → H}
theorem open_ops {W : World} {fuel : Nat} {a : Option Addr} {len cap : Nat} {x : DataW H × List MemPlace}
    (h : DataW.trod enc Try.prog W 0 (fun _ => true) true fuel 31 [.slice a len cap] = some x) : ∃ os, IsOps W a len cap os := by
  rcases Deep.open_slice_pairs Try.underlying31 Try.underlying28 Try.cells28 rfl rfl Try.cells3 Try.cells3 h with ⟨hcs, _⟩ | ⟨ad, l, c, m, n, V0, V1, D0, D1, P0, P1, hcs, _, hl, hm, hmm, _, hcell⟩
  · simp at hcs
    obtain ⟨rfl, rfl, rfl⟩ := hcs
    exact ⟨[], .inl ⟨rfl, rfl, rfl, rfl⟩⟩
  · simp at hcs
    obtain ⟨rfl, rfl, rfl⟩ := hcs
    simp at hmm
    subst hmm
    obtain ⟨es, hes, hp, hb⟩ := list_of (d := (⟨0, 0⟩ : Oq)) (P := OpA W ad) (Q := fun o => o.n ≤ 9223372036854775807) m fun i hi => by
      obtain ⟨c0, c1, t0, t1⟩ := hcell i hi
      obtain ⟨a0, q0, -, w0⟩ := DataW.trod_int Try.underlying3 t0
      obtain ⟨a1, q1, -, w1⟩ := DataW.trod_int Try.underlying3 t1
      simp only [List.cons.injEq, and_true] at q0 q1
      exact ⟨⟨a0, a1⟩, ⟨by rw [← q0]; exact c0, by rw [← q1]; exact c1⟩, (bounds_i64 w1).2⟩
    exact ⟨es, .inr ⟨ad, rfl, hl, hm, hes, by rw [hes]; exact hp, hb⟩⟩
end
end Go.Proofs.Ytfhkmgjnmmaakaa
