/- What every statement of this seat wants of its row: inputs, and asks, that came in. -/
import Derived.Test.YtmkdhgjnfnfliaaRows
import Derived.Test.YtmkdhgjnfnfliaaKit
import Derived.ProofKit
import Derived.OpenShut
import Derived.ChangeOld
import Derived.Below
import Derived.Lib.SmallJoins
import Derived.Deep.Slices
import Derived.Deep.Strs
namespace Go.Proofs.Ytmkdhgjnfnfliaa
open Go.ChangeShapes Go.WideShapes Go.ChangeAt Go.RowKit Go.Joins
set_option linter.unusedVariables false
set_option linter.constructorNameAsVariable false
set_option maxRecDepth 100000

theorem own : ownKnob Try.prog.godebug = none := by kernel_rfl
theorem laidOut : laidOutB Try.prog = true := by kernel_rfl
theorem Try.cells37 : Try.prog.cellsOf 37 = 5 := by kernel_rfl
theorem Try.cells35 : Try.prog.cellsOf 35 = 4 := by kernel_rfl
theorem Try.cells33 : Try.prog.cellsOf 33 = 1 := by kernel_rfl
theorem Try.cells31 : Try.prog.cellsOf 31 = 3 := by kernel_rfl
theorem Try.cells3 : Try.prog.cellsOf 3 = 1 := by kernel_rfl
theorem Try.cells4 : Try.prog.cellsOf 4 = 1 := by kernel_rfl
theorem wf_nat {x : Int} (h : (Lit.int .u64 x).wf = true) : ∃ n : Nat, x = (n : Int) ∧ n < 18446744073709551616 := by
  obtain ⟨h0, h1⟩ := bounds_u64 h
  exact ⟨x.toNat, by omega, by omega⟩
/-- An address whose cell is there has no spot. -/
theorem plain_addr {w : World} {x : Addr} {v : Value} (h : w.cell? (x.add 0) = some v) : ∃ b off, x = ⟨b, off, none⟩ := by
  obtain ⟨b, off, sp⟩ := x
  cases sp with
  | none => exact ⟨b, off, rfl⟩
  | some q =>
    simp only [World.cell?, Addr.add, if_true, Option.isSome_some] at h
    split at h <;> simp at h
theorem list_of {α : Type} {d : α} {P : Nat → α → Prop} : ∀ (m : Nat), (∀ i, i < m → ∃ e, P i e) → ∃ es : List α, es.length = m ∧ ∀ i, i < m → P i (es.getD i d)
  | 0, _ => ⟨[], rfl, fun i hi => absurd hi (Nat.not_lt_zero _)⟩
  | m + 1, h => by
    obtain ⟨es, hl, hp⟩ := list_of (d := d) m fun i hi => h i (by omega)
    obtain ⟨e, he⟩ := h m (by omega)
    refine ⟨es ++ [e], by simp [hl], fun i hi => ?_⟩
    by_cases hlt : i < m
    · have : (es ++ [e]).getD i d = es.getD i d := by simp [List.getD_eq_getElem?_getD, List.getElem?_append_left (show i < es.length by omega)]
      rw [this]; exact hp i hlt
    · obtain rfl : i = m := by omega
      have : (es ++ [e]).getD i d = e := by simp [List.getD_eq_getElem?_getD, ← hl]
      rw [this]; exact he
/-- Inputs that came in. -/
def IsI (w : World) (a : Option Addr) (len cap : Nat) : Prop := ∃ qb is, is.length = len ∧ RdI w (.slice a len cap) qb is
/-- Asks that came in. -/
def IsA (w : World) (a : Option Addr) (len cap : Nat) : Prop :=
  len ≤ 9223372036854775807 ∧ cap ≤ 9223372036854775807 ∧ len ≤ cap ∧ ∀ k, k < len → ∃ b off x y z, a = some ⟨b, off, none⟩ ∧ b < w.heap.size ∧ w.cell? ⟨b, off + k * 3, none⟩ = some (.int .i64 x) ∧ w.cell? ⟨b, off + k * 3 + 1, none⟩ = some (.int .i64 y) ∧ w.cell? ⟨b, off + k * 3 + 2, none⟩ = some (.int .i64 z)
section
variable {H : Type} {enc : TypeId × Value → H}
theorem open_ins {W : World} {fuel : Nat} {a : Option Addr} {len cap : Nat} {x : DataW H × List MemPlace}
    (h : DataW.trod enc Try.prog W 0 (fun _ => true) true fuel 22 [.slice a len cap] = some x) : IsI W a len cap := by
  rcases Deep.open_slice Try.underlying22 h with ⟨hcs, _⟩ | ⟨ad, l, c, m, n, D, Pl, hcs, _, hl, hm, hmm, _, hcell⟩
  · simp at hcs
    obtain ⟨rfl, rfl, rfl⟩ := hcs
    exact ⟨0, [], rfl, rdi_nil _ _⟩
  · simp at hcs
    obtain ⟨rfl, rfl, rfl⟩ := hcs
    simp at hmm
    subst hmm
    unfold maxLen at hm
    have hx : ∀ i, i < m → ∃ e : Inp, W.cell? (ad.add (i * 5)) = some (.bool e.mrk) ∧ W.cell? (ad.add (i * 5 + 1)) = some (.int .i64 e.e.t) ∧ W.cell? (ad.add (i * 5 + 2)) = some (.int .i64 e.e.k) ∧ W.cell? (ad.add (i * 5 + 3)) = some (.int .i64 e.e.v) ∧ W.cell? (ad.add (i * 5 + 4)) = some (.int .u64 e.e.l) := fun i hi => by
      obtain ⟨cs', hc, ht⟩ := hcell i hi
      rw [Try.cells37] at hc
      obtain ⟨_, hlen, hce⟩ := World.cells?_some hc
      obtain ⟨xs, n', _, _, hl2, hlen2, hff⟩ := DataW.trod_struct Try.underlying37 ht
      match cs', hlen with
      | [c0, c1, c2, c3, c4], _ =>
        have e0 := hce 0 (by omega)
        have e1 := hce 1 (by omega)
        have e2 := hce 2 (by omega)
        have e3 := hce 3 (by omega)
        have e4 := hce 4 (by omega)
        rw [Deep.add_add] at e0 e1 e2 e3 e4
        have f0 := hff 0 _ rfl
        have f1 := hff 1 _ rfl
        have hx2 : xs.length = 2 := hlen2
        obtain ⟨x0, x1, rfl⟩ : ∃ x0 x1, xs = [x0, x1] := by
          match xs, hx2 with
          | [a, b], _ => exact ⟨a, b, rfl⟩
        have g0 : DataW.trod enc Try.prog W 0 (fun _ => true) true n' 4 (List.take (Try.prog.cellsOf 4) (List.drop 0 [c0, c1, c2, c3, c4])) = some x0 := f0
        have g1 : DataW.trod enc Try.prog W 0 (fun _ => true) true n' 35 (List.take (Try.prog.cellsOf 35) (List.drop 1 [c0, c1, c2, c3, c4])) = some x1 := f1
        rw [Try.cells4] at g0
        rw [Try.cells35] at g1
        simp only [List.drop_zero, List.take_succ_cons, List.take_zero, List.drop_succ_cons] at g0 g1
        obtain ⟨y0, y1, y2, y3, n2, _, _, h0, h1, h2, h3⟩ := trod_struct4 Try.underlying35 g1
        simp [Try.cells3, Try.cells33] at h0 h1 h2 h3
        obtain ⟨b0, q9, -⟩ := DataW.trod_bool Try.underlying4 g0
        obtain ⟨a0, q0, -, w0⟩ := DataW.trod_int Try.underlying3 h0
        obtain ⟨a1, q1, -, w1⟩ := DataW.trod_int Try.underlying3 h1
        obtain ⟨a2, q2, -, w2⟩ := DataW.trod_int Try.underlying3 h2
        obtain ⟨a3, q3, -, w3⟩ := DataW.trod_int Try.underlying33 h3
        obtain ⟨l9, rfl, hl9⟩ := wf_nat w3
        simp only [List.cons.injEq, and_true] at q0 q1 q2 q3 q9
        subst q0 q1 q2 q3 q9
        exact ⟨⟨b0, ⟨a0, a1, a2, l9⟩⟩, by simpa using e0, by simpa using e1, by simpa using e2, by simpa using e3, by simpa using e4⟩
    obtain ⟨es, hes, hp⟩ := list_of (d := (⟨false, ⟨0, 0, 0, 0⟩⟩ : Inp)) m hx
    by_cases h0 : len = 0
    · subst h0
      exact ⟨0, [], rfl, by simp, trivial, _, _, rfl, by simp, by omega, by simp⟩
    obtain ⟨b, off, rfl⟩ := plain_addr (hp 0 (by omega)).1
    have hlt : (es.take len).length = len := by rw [List.length_take]; omega
    refine ⟨b, es.take len, hlt, by omega, trivial, _, _, by rw [hlt], by omega, by omega, fun _ => ⟨off, rfl, ?_, fun j hj => ?_⟩⟩
    · have := (hp 0 (by omega)).1
      exact World.block_lt_of_cell? W _ this
    · obtain ⟨e0, e1, e2, e3, e4⟩ := hp j (by omega)
      rw [Addr.add_lit] at e0 e1 e2 e3 e4
      rw [iAt_take _ _ _ (by omega)]
      exact ⟨e0, by rw [Nat.add_assoc]; exact e1, by rw [Nat.add_assoc]; exact e2, by rw [Nat.add_assoc]; exact e3, by rw [Nat.add_assoc]; exact e4⟩
theorem open_asks {W : World} {fuel : Nat} {a : Option Addr} {len cap : Nat} {x : DataW H × List MemPlace}
    (h : DataW.trod enc Try.prog W 0 (fun _ => true) true fuel 29 [.slice a len cap] = some x) : IsA W a len cap := by
  rcases Deep.open_slice Try.underlying29 h with ⟨hcs, _⟩ | ⟨ad, l, c, m, n, D, Pl, hcs, _, hl, hm, hmm, _, hcell⟩
  · simp at hcs
    obtain ⟨rfl, rfl, rfl⟩ := hcs
    exact ⟨by decide, by decide, by decide, fun k hk => absurd hk (Nat.not_lt_zero _)⟩
  · simp at hcs
    obtain ⟨rfl, rfl, rfl⟩ := hcs
    simp at hmm
    subst hmm
    unfold maxLen at hm
    have hx : ∀ i, i < m → ∃ x y z, W.cell? (ad.add (i * 3)) = some (.int .i64 x) ∧ W.cell? (ad.add (i * 3 + 1)) = some (.int .i64 y) ∧ W.cell? (ad.add (i * 3 + 2)) = some (.int .i64 z) := fun i hi => by
      obtain ⟨cs', hc, ht⟩ := hcell i hi
      rw [Try.cells31] at hc
      obtain ⟨_, hlen, hce⟩ := World.cells?_some hc
      obtain ⟨y0, y1, y2, n', _, _, h0, h1, h2⟩ := Deep.trod_struct3 Try.underlying31 ht
      match cs', hlen with
      | [c0, c1, c2], _ =>
        have e0 := hce 0 (by omega)
        have e1 := hce 1 (by omega)
        have e2 := hce 2 (by omega)
        rw [Deep.add_add] at e0 e1 e2
        simp [Try.cells3] at h0 h1 h2
        obtain ⟨a0, q0, -, w0⟩ := DataW.trod_int Try.underlying3 h0
        obtain ⟨a1, q1, -, w1⟩ := DataW.trod_int Try.underlying3 h1
        obtain ⟨a2, q2, -, w2⟩ := DataW.trod_int Try.underlying3 h2
        simp only [List.cons.injEq, and_true] at q0 q1 q2
        subst q0 q1 q2
        exact ⟨a0, a1, a2, by simpa using e0, by simpa using e1, by simpa using e2⟩
    refine ⟨by omega, by omega, hl, fun k hk => ?_⟩
    obtain ⟨_, _, _, h0, _⟩ := hx 0 (by omega)
    rw [Nat.zero_mul] at h0
    obtain ⟨b, off, rfl⟩ := plain_addr h0
    obtain ⟨x, y, z, e0, e1, e2⟩ := hx k (by omega)
    rw [Addr.add_lit] at e0 e1 e2
    exact ⟨b, off, x, y, z, rfl, World.block_lt_of_cell? W _ e0, e0, by rw [Nat.add_assoc]; exact e1, by rw [Nat.add_assoc]; exact e2⟩
end
end Go.Proofs.Ytmkdhgjnfnfliaa
