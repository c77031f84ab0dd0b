/- What every statement of this seat wants of its row: a slice of ints, or of asks, that came in. -/
import Derived.Test.YtgpjjkfgobjfcaaRows
import Derived.Test.YtgpjjkfgobjfcaaLeaf
import Derived.ProofKit
import Derived.OpenShut
import Derived.ChangeOld
import Derived.Below
import Derived.Deep.Slices
import Derived.Deep.Strs
namespace Go.Proofs.Ytgpjjkfgobjfcaa
open Go.ChangeShapes Go.WideShapes Go.ChangeAt Go.RowKit

theorem own : ownKnob Try.prog.godebug = none := by kernel_rfl
theorem laidOut : laidOutB Try.prog = true := by kernel_rfl
theorem Try.cells3 : Try.prog.cellsOf 3 = 1 := by kernel_rfl
theorem Try.cells4 : Try.prog.cellsOf 4 = 1 := by kernel_rfl
theorem Try.cells29 : Try.prog.cellsOf 29 = 3 := by kernel_rfl

/-- A slice of ints that came in: nil, or a row of cells. -/
def IsInts (w : World) (a : Option Addr) (len cap : Nat) (zs : List Int) : Prop :=
  (a = none ∧ len = 0 ∧ cap = 0 ∧ zs = []) ∨
  ∃ x, a = some x ∧ len ≤ cap ∧ cap ≤ maxLen ∧ zs.length = cap ∧ (∀ i, i < zs.length → w.cell? (x.add i) = some (.int .i64 (zs.getD i 0))) ∧ ∀ n ∈ zs, (Lit.int .i64 n).wf = true

theorem list_of {α : Type} {d : α} {P : Nat → α → Prop} {Q : α → Prop} : ∀ (m : Nat), (∀ i, i < m → ∃ e, P i e ∧ Q e) → ∃ es : List α, es.length = m ∧ (∀ i, i < m → P i (es.getD i d)) ∧ ∀ e ∈ es, Q e
  | 0, _ => ⟨[], rfl, fun i hi => absurd hi (Nat.not_lt_zero _), by simp⟩
  | m + 1, h => by
    obtain ⟨es, hl, hp, hb⟩ := list_of (d := d) m fun i hi => h i (by omega)
    obtain ⟨e, he, hel⟩ := h m (by omega)
    refine ⟨es ++ [e], by simp [hl], fun i hi => ?_, fun x hx => ?_⟩
    · by_cases hlt : i < m
      · have : (es ++ [e]).getD i d = es.getD i d := by simp [List.getD_eq_getElem?_getD, List.getElem?_append_left (show i < es.length by omega)]
        rw [this]; exact hp i hlt
      · obtain rfl : i = m := by omega
        have : (es ++ [e]).getD i d = e := by simp [List.getD_eq_getElem?_getD, ← hl]
        rw [this]; exact he
    · rcases List.mem_append.1 hx with hx | hx
      · exact hb x hx
      · rw [List.mem_singleton.1 hx]; exact hel

structure Ask where
  t : Int
  a : Bool
  c : Bool
/-- The three cells of an ask, at any address. -/
def AskA (w : World) (x : Addr) (i : Nat) (e : Ask) : Prop :=
  w.cell? (x.add (i * 3)) = some (.int .i64 e.t) ∧ w.cell? (x.add (i * 3 + 1)) = some (.bool e.a) ∧ w.cell? (x.add (i * 3 + 2)) = some (.bool e.c)
/-- A slice of asks that came in: nil, or a row of cells. -/
def IsAsks (w : World) (a : Option Addr) (len cap : Nat) (es : List Ask) : Prop :=
  (a = none ∧ len = 0 ∧ cap = 0 ∧ es = []) ∨
  ∃ x, a = some x ∧ len ≤ cap ∧ cap ≤ maxLen ∧ es.length = cap ∧ (∀ i, i < es.length → AskA w x i (es.getD i ⟨0, false, false⟩)) ∧ ∀ e ∈ es, (Lit.int .i64 e.t).wf = true

section
variable {H : Type} {enc : TypeId × Value → H}
theorem open_ints {W : World} {fuel : Nat} {a : Option Addr} {len cap : Nat} {x : DataW H × List MemPlace}
    (h : DataW.trod enc Try.prog W 0 (fun _ => true) true fuel 31 [.slice a len cap] = some x) : ∃ es, IsInts W a len cap es := by
  rcases Deep.open_slice Try.underlying31 h with ⟨hcs, _⟩ | ⟨ad, l, c, m, n, D, Pl, hcs, _, hl, hm, hmm, _, hcell⟩
  · simp at hcs
    obtain ⟨rfl, rfl, rfl⟩ := hcs
    exact ⟨[], .inl ⟨rfl, rfl, rfl, rfl⟩⟩
  · simp at hcs
    obtain ⟨rfl, rfl, rfl⟩ := hcs
    simp at hmm
    subst hmm
    obtain ⟨es, hes, hp, hb⟩ := list_of (d := (0 : Int)) (P := fun i z => W.cell? (ad.add i) = some (.int .i64 z)) (Q := fun z => (Lit.int .i64 z).wf = true) m fun i hi => by
      obtain ⟨cs', hc, ht⟩ := hcell i hi
      rw [Try.cells3] at hc
      obtain ⟨_, hlen, hce⟩ := World.cells?_some hc
      obtain ⟨z, rfl, -, wz⟩ := DataW.trod_int Try.underlying3 ht
      have e0 := hce 0 (by omega)
      rw [Deep.add_add] at e0
      exact ⟨z, by simpa using e0, wz⟩
    exact ⟨es, .inr ⟨ad, rfl, hl, hm, hes, by rw [hes]; exact hp, hb⟩⟩
theorem open_asks {W : World} {fuel : Nat} {a : Option Addr} {len cap : Nat} {x : DataW H × List MemPlace}
    (h : DataW.trod enc Try.prog W 0 (fun _ => true) true fuel 27 [.slice a len cap] = some x) : ∃ es, IsAsks W a len cap es := by
  rcases Deep.open_slice Try.underlying27 h with ⟨hcs, _⟩ | ⟨ad, l, c, m, n, D, Pl, hcs, _, hl, hm, hmm, _, hcell⟩
  · simp at hcs
    obtain ⟨rfl, rfl, rfl⟩ := hcs
    exact ⟨[], .inl ⟨rfl, rfl, rfl, rfl⟩⟩
  · simp at hcs
    obtain ⟨rfl, rfl, rfl⟩ := hcs
    simp at hmm
    subst hmm
    obtain ⟨es, hes, hp, hb⟩ := list_of (d := (⟨0, false, false⟩ : Ask)) (P := AskA W ad) (Q := fun e => (Lit.int .i64 e.t).wf = true) m fun i hi => by
      obtain ⟨cs', hc, ht⟩ := hcell i hi
      rw [Try.cells29] at hc
      obtain ⟨_, hlen, hce⟩ := World.cells?_some hc
      obtain ⟨y0, y1, y2, n', _, _, h0, h1, h2⟩ := Deep.trod_struct3 Try.underlying29 ht
      match cs', hlen with
      | [c0, c1, c2], _ =>
        have e0 := hce 0 (by omega)
        have e1 := hce 1 (by omega)
        have e2 := hce 2 (by omega)
        rw [Deep.add_add] at e0 e1 e2
        simp [Try.cells3, Try.cells4] at h0 h1 h2
        obtain ⟨a0, q0, -, w0⟩ := DataW.trod_int Try.underlying3 h0
        obtain ⟨a1, q1, -⟩ := DataW.trod_bool Try.underlying4 h1
        obtain ⟨a2, q2, -⟩ := DataW.trod_bool Try.underlying4 h2
        simp only [List.cons.injEq, and_true] at q0 q1 q2
        subst q0 q1 q2
        exact ⟨⟨a0, a1, a2⟩, ⟨by simpa using e0, by simpa using e1, by simpa using e2⟩, w0⟩
    exact ⟨es, .inr ⟨ad, rfl, hl, hm, hes, by rw [hes]; exact hp, hb⟩⟩
end
/-- An address whose cell is there has no spot. -/
theorem plain_addr {w : World} {x : Addr} {v : Value} (h : w.cell? (x.add 0) = some v) : ∃ b off, x = ⟨b, off, none⟩ := by
  obtain ⟨b, off, sp⟩ := x
  cases sp with
  | none => exact ⟨b, off, rfl⟩
  | some q =>
    simp only [World.cell?, Addr.add, if_true, Option.isSome_some] at h
    split at h <;> simp at h
/-- A slice of ints that came in, as it is read one by one. -/
theorem ints_at {w : World} {a : Option Addr} {len cap : Nat} {zs : List Int} (h : IsInts w a len cap zs) :
    len ≤ 9223372036854775807 ∧ cap ≤ 9223372036854775807 ∧ len ≤ cap ∧ ∀ k, k < len → ∃ b off n, a = some ⟨b, off, none⟩ ∧ b < w.heap.size ∧ w.cell? ⟨b, off + k, none⟩ = some (.int .i64 n) ∧ (Lit.int .i64 n).wf = true := by
  rcases h with ⟨_, rfl, rfl, _⟩ | ⟨x, rfl, h1, h2, h3, h4, h5⟩
  · exact ⟨by decide, by decide, by decide, fun k hk => absurd hk (Nat.not_lt_zero _)⟩
  · unfold maxLen at h2
    refine ⟨by omega, by omega, h1, fun k hk => ?_⟩
    obtain ⟨b, off, rfl⟩ := plain_addr (h4 0 (by omega))
    have e := h4 k (by omega)
    rw [Addr.add_lit] at e
    refine ⟨b, off, _, rfl, World.block_lt_of_cell? w _ e, e, h5 _ ?_⟩
    have hk' : k < zs.length := by omega
    have : zs.getD k 0 = zs[k] := by simp [List.getD_eq_getElem?_getD, hk']
    rw [this]; exact List.getElem_mem hk'
/-- A slice of asks that came in, as it is read one by one. -/
theorem asks_at {w : World} {a : Option Addr} {len cap : Nat} {zs : List Ask} (h : IsAsks w a len cap zs) :
    len ≤ 9223372036854775807 ∧ cap ≤ 9223372036854775807 ∧ len ≤ cap ∧ ∀ k, k < len → ∃ b off t p q, a = some ⟨b, off, none⟩ ∧ b < w.heap.size ∧ w.cell? ⟨b, off + k * 3, none⟩ = some (.int .i64 t) ∧ w.cell? ⟨b, off + k * 3 + 1, none⟩ = some (.bool p) ∧ w.cell? ⟨b, off + k * 3 + 2, none⟩ = some (.bool q) ∧ (Lit.int .i64 t).wf = true := by
  rcases h with ⟨_, rfl, rfl, _⟩ | ⟨x, rfl, h1, h2, h3, h4, h5⟩
  · exact ⟨by decide, by decide, by decide, fun k hk => absurd hk (Nat.not_lt_zero _)⟩
  · unfold maxLen at h2
    refine ⟨by omega, by omega, h1, fun k hk => ?_⟩
    obtain ⟨b, off, rfl⟩ := plain_addr (h4 0 (by omega)).1
    obtain ⟨e0, e1, e2⟩ := h4 k (by omega)
    rw [Addr.add_lit] at e0 e1 e2
    refine ⟨b, off, _, _, _, rfl, World.block_lt_of_cell? w _ e0, e0, by rw [Nat.add_assoc]; exact e1, by rw [Nat.add_assoc]; exact e2, h5 _ ?_⟩
    have hk' : k < zs.length := by omega
    have : zs.getD k ⟨0, false, false⟩ = zs[k] := by simp [List.getD_eq_getElem?_getD, hk']
    rw [this]; exact List.getElem_mem hk'
end Go.Proofs.Ytgpjjkfgobjfcaa
