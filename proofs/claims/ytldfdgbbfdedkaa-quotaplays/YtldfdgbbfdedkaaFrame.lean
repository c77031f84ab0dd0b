/- What every statement of this seat wants of its row: slices of slices of ints, and of bools, that came in. -/
import Derived.Test.YtldfdgbbfdedkaaRows
import Derived.Test.YtldfdgbbfdedkaaBase
import Derived.ProofKit
import Derived.OpenShut
import Derived.ChangeOld
import Derived.Below
import Derived.Deep.Slices
namespace Go.Proofs.Ytldfdgbbfdedkaa
open Go.ChangeShapes Go.WideShapes Go.ChangeAt Go.RowKit M

theorem own : ownKnob Try.prog.godebug = none := by kernel_rfl
theorem laidOut : laidOutB Try.prog = true := by kernel_rfl
theorem Try.cells3 : Try.prog.cellsOf 3 = 1 := by kernel_rfl

/-- A slice of integers that came in: nil, or a row of cells. -/
def IsRow (k : IntKind) (w : World) (a : Option Addr) (len cap : Nat) (zs : List Int) : Prop :=
  (a = none ∧ len = 0 ∧ cap = 0 ∧ zs = []) ∨
  ∃ x, a = some x ∧ len ≤ cap ∧ cap ≤ maxLen ∧ zs.length = cap ∧ (∀ i, i < zs.length → w.cell? (x.add i) = some (.int k (zs.getD i 0))) ∧ ∀ n ∈ zs, (Lit.int k n).wf = true
abbrev IsInts := IsRow .i64

theorem list_of {k : IntKind} {P : Nat → Int → Prop} : ∀ (m : Nat), (∀ i, i < m → ∃ e, P i e ∧ (Lit.int k e).wf = true) → ∃ es : List Int, es.length = m ∧ (∀ i, i < m → P i (es.getD i 0)) ∧ ∀ e ∈ es, (Lit.int k e).wf = true
  | 0, _ => ⟨[], rfl, fun i hi => absurd hi (Nat.not_lt_zero _), by simp⟩
  | m + 1, h => by
    obtain ⟨es, hl, hp, hb⟩ := list_of (k := k) m fun i hi => h i (by omega)
    obtain ⟨e, he, hel⟩ := h m (by omega)
    refine ⟨es ++ [e], by simp [hl], fun i hi => ?_, fun x hx => ?_⟩
    · by_cases hlt : i < m
      · have : (es ++ [e]).getD i 0 = es.getD i 0 := by simp [List.getD_eq_getElem?_getD, List.getElem?_append_left (show i < es.length by omega)]
        rw [this]; exact hp i hlt
      · obtain rfl : i = m := by omega
        have : (es ++ [e]).getD i 0 = e := by simp [List.getD_eq_getElem?_getD, ← hl]
        rw [this]; exact he
    · rcases List.mem_append.1 hx with hx | hx
      · exact hb x hx
      · rw [List.mem_singleton.1 hx]; exact hel

section
variable {H : Type} {enc : TypeId × Value → H}
theorem open_row {k : IntKind} {t e : TypeId} (ht : Try.prog.underlying t = some (.slice e)) (he : Try.prog.underlying e = some (.int k)) (hc1 : Try.prog.cellsOf e = 1) {W : World} {fuel : Nat} {a : Option Addr} {len cap : Nat} {x : DataW H × List MemPlace}
    (h : DataW.trod enc Try.prog W 0 (fun _ => true) true fuel t [.slice a len cap] = some x) : ∃ es, IsRow k W a len cap es := by
  rcases Deep.open_slice ht h with ⟨hcs, _⟩ | ⟨ad, l, c, m, n, D, Pl, hcs, _, hl, hm, hmm, _, hcell⟩
  · simp at hcs
    obtain ⟨rfl, rfl, rfl⟩ := hcs
    exact ⟨[], .inl ⟨rfl, rfl, rfl, rfl⟩⟩
  · simp at hcs
    obtain ⟨rfl, rfl, rfl⟩ := hcs
    simp at hmm
    subst hmm
    obtain ⟨es, hes, hp, hb⟩ := list_of (k := k) (P := fun i z => W.cell? (ad.add i) = some (.int k z)) m fun i hi => by
      obtain ⟨cs', hc, ht⟩ := hcell i hi
      rw [hc1] at hc
      obtain ⟨_, hlen, hce⟩ := World.cells?_some hc
      obtain ⟨z, rfl, -, wz⟩ := DataW.trod_int he ht
      have e0 := hce 0 (by omega)
      rw [Deep.add_add] at e0
      exact ⟨z, by simpa using e0, wz⟩
    exact ⟨es, .inr ⟨ad, rfl, hl, hm, hes, by rw [hes]; exact hp, hb⟩⟩
theorem open_ints {W : World} {fuel : Nat} {a : Option Addr} {len cap : Nat} {x : DataW H × List MemPlace}
    (h : DataW.trod enc Try.prog W 0 (fun _ => true) true fuel 30 [.slice a len cap] = some x) : ∃ es, IsInts W a len cap es := open_row Try.underlying30 Try.underlying3 Try.cells3 h
end
/-- An address whose cell is there has no spot. -/
theorem plain_addr {w : World} {x : Addr} {v : Value} (h : w.cell? (x.add 0) = some v) : ∃ b off, x = ⟨b, off, none⟩ := by
  obtain ⟨b, off, sp⟩ := x
  cases sp with
  | none => exact ⟨b, off, rfl⟩
  | some q =>
    simp only [World.cell?, Addr.add, if_true, Option.isSome_some] at h
    split at h <;> simp at h
/-- A slice of ints that came in, as it is read one by one. -/
theorem ints_at {w : World} {a : Option Addr} {len cap : Nat} {zs : List Int} (h : IsInts w a len cap zs) :
    len ≤ 9223372036854775807 ∧ cap ≤ 9223372036854775807 ∧ len ≤ cap ∧ ∀ k, k < len → ∃ b off n, a = some ⟨b, off, none⟩ ∧ b < w.heap.size ∧ w.cell? ⟨b, off + k, none⟩ = some (.int .i64 n) ∧ (Lit.int .i64 n).wf = true := by
  rcases h with ⟨_, rfl, rfl, _⟩ | ⟨x, rfl, h1, h2, h3, h4, h5⟩
  · exact ⟨by decide, by decide, by decide, fun k hk => absurd hk (Nat.not_lt_zero _)⟩
  · unfold maxLen at h2
    refine ⟨by omega, by omega, h1, fun k hk => ?_⟩
    obtain ⟨b, off, rfl⟩ := plain_addr (h4 0 (by omega))
    have e := h4 k (by omega)
    rw [Addr.add_lit] at e
    refine ⟨b, off, _, rfl, World.block_lt_of_cell? w _ e, e, h5 _ ?_⟩
    have hk' : k < zs.length := by omega
    have : zs.getD k 0 = zs[k] := by simp [List.getD_eq_getElem?_getD, hk']
    rw [this]; exact List.getElem_mem hk'
theorem src_row {k : IntKind} {w : World} {a : Option Addr} {len cap : Nat} {zs : List Int} (h : IsRow k w a len cap zs) (K : Nat) (hK : K ≤ len) : Src w (.slice a K cap) K ((zs.take K).map (Value.int k)) := by
  rcases h with ⟨rfl, rfl, rfl, rfl⟩ | ⟨x, rfl, h1, h2, h3, hc, _⟩
  · have : K = 0 := by omega
    subst this
    exact .inl ⟨rfl, rfl, rfl⟩
  · refine .inr ⟨x, cap, rfl, by simp; omega, fun j u hj => ?_⟩
    simp only [List.getElem?_map, Option.map_eq_some_iff] at hj
    obtain ⟨z, hz, rfl⟩ := hj
    have hjK : j < K := by
      have := (List.getElem?_eq_some_iff.1 hz).1
      simp at this; omega
    rw [List.getElem?_take_of_lt hjK] at hz
    rw [hc j (by omega)]
    simp [List.getD_eq_getElem?_getD, hz]
theorem Try.cells30 : Try.prog.cellsOf 30 = 1 := by kernel_rfl
/-- A slice of slices of ints that came in, row by row. -/
def IsRows (w : World) (a : Option Addr) (len cap : Nat) (_ : Unit) : Prop :=
  len ≤ 9223372036854775807 ∧ len ≤ cap ∧ cap ≤ 9223372036854775807 ∧ ∀ r, r < len → ∃ b off a' l c zs, a = some ⟨b, off, none⟩ ∧ b < w.heap.size ∧ w.cell? ⟨b, off + r, none⟩ = some (.slice a' l c) ∧ IsInts w a' l c zs
section
variable {H : Type} {enc : TypeId × Value → H}
theorem open_rows {W : World} {fuel : Nat} {a : Option Addr} {len cap : Nat} {x : DataW H × List MemPlace}
    (h : DataW.trod enc Try.prog W 0 (fun _ => true) true fuel 28 [.slice a len cap] = some x) : ∃ es, IsRows W a len cap es := by
  refine ⟨(), ?_⟩
  rcases Deep.open_slice1 Try.underlying28 Try.cells30 h with ⟨hcs, _⟩ | ⟨ad, l, c, m, n, V, D, Pl, hcs, _, hl, hm, hmm, _, hx⟩
  · simp at hcs
    obtain ⟨rfl, rfl, rfl⟩ := hcs
    exact ⟨by decide, by decide, by decide, fun r hr => absurd hr (Nat.not_lt_zero _)⟩
  · simp at hcs
    obtain ⟨rfl, rfl, rfl⟩ := hcs
    simp at hmm
    subst hmm
    unfold maxLen at hm
    refine ⟨by omega, hl, by omega, fun r hr => ?_⟩
    obtain ⟨hc, ht⟩ := hx r (by omega)
    obtain ⟨h0, _⟩ := hx 0 (by omega)
    obtain ⟨b, off, rfl⟩ := plain_addr h0
    rw [Addr.add_lit] at hc
    have hb : b < W.heap.size := World.block_lt_of_cell? W _ hc
    rcases Deep.open_slice Try.underlying30 ht with ⟨hcs, _⟩ | ⟨a', l', c', m', n', D', Pl', hcs, _⟩
    · simp at hcs
      rw [hcs] at hc ht
      obtain ⟨zs, hz⟩ := open_ints ht
      exact ⟨b, off, _, _, _, zs, rfl, hb, hc, hz⟩
    · simp at hcs
      rw [hcs] at hc ht
      obtain ⟨zs, hz⟩ := open_ints ht
      exact ⟨b, off, _, _, _, zs, rfl, hb, hc, hz⟩
end
theorem Try.cells4 : Try.prog.cellsOf 4 = 1 := by kernel_rfl
/-- A slice of bools that came in, read one by one. -/
def IsBools (w : World) (a : Option Addr) (len cap : Nat) (_ : Unit) : Prop :=
  len ≤ 9223372036854775807 ∧ len ≤ cap ∧ cap ≤ 9223372036854775807 ∧ ∀ r, r < len → ∃ b off p, a = some ⟨b, off, none⟩ ∧ b < w.heap.size ∧ w.cell? ⟨b, off + r, none⟩ = some (.bool p)
section
variable {H : Type} {enc : TypeId × Value → H}
theorem open_bools {W : World} {fuel : Nat} {a : Option Addr} {len cap : Nat} {x : DataW H × List MemPlace}
    (h : DataW.trod enc Try.prog W 0 (fun _ => true) true fuel 29 [.slice a len cap] = some x) : ∃ es, IsBools W a len cap es := by
  refine ⟨(), ?_⟩
  rcases Deep.open_slice1 Try.underlying29 Try.cells4 h with ⟨hcs, _⟩ | ⟨ad, l, c, m, n, V, D, Pl, hcs, _, hl, hm, hmm, _, hx⟩
  · simp at hcs
    obtain ⟨rfl, rfl, rfl⟩ := hcs
    exact ⟨by decide, by decide, by decide, fun r hr => absurd hr (Nat.not_lt_zero _)⟩
  · simp at hcs
    obtain ⟨rfl, rfl, rfl⟩ := hcs
    simp at hmm
    subst hmm
    unfold maxLen at hm
    refine ⟨by omega, hl, by omega, fun r hr => ?_⟩
    obtain ⟨hc, ht⟩ := hx r (by omega)
    obtain ⟨h0, _⟩ := hx 0 (by omega)
    obtain ⟨b, off, rfl⟩ := plain_addr h0
    rw [Addr.add_lit] at hc
    have hb : b < W.heap.size := World.block_lt_of_cell? W _ hc
    obtain ⟨p, hp, -⟩ := DataW.trod_bool Try.underlying4 ht
    injection hp with hp; rw [hp] at hc
    exact ⟨b, off, p, rfl, hb, hc⟩
end
end Go.Proofs.Ytldfdgbbfdedkaa
