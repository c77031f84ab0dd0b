/- What every statement of this seat wants of its row: numbers of a pipe, numbers of inputs, inputs that came in. -/
import Derived.Test.YtnamjnopicghhaaRows
import Derived.Test.YtnamjnopicghhaaRIn
import Derived.ProofKit
import Derived.OpenShut
import Derived.ChangeOld
import Derived.Below
import Derived.Lib.SmallJoins
import Derived.Deep.SlicePairs
import Derived.Deep.Slices
namespace Go.Proofs.Ytnamjnopicghhaa
open Go.ChangeShapes Go.WideShapes Go.ChangeAt Go.RowKit Go.Joins M
open O (Ints kv)
set_option linter.unusedVariables false
set_option linter.constructorNameAsVariable false
set_option maxRecDepth 100000

theorem own : ownKnob Try.prog.godebug = none := by kernel_rfl
theorem laidOut : laidOutB Try.prog = true := by kernel_rfl
theorem Try.cells53 : Try.prog.cellsOf 53 = 7 := by kernel_rfl
theorem Try.cells104 : Try.prog.cellsOf 104 = 4 := by kernel_rfl
theorem Try.cells31 : Try.prog.cellsOf 31 = 5 := by kernel_rfl
theorem Try.cells29 : Try.prog.cellsOf 29 = 4 := by kernel_rfl
theorem Try.cells27 : Try.prog.cellsOf 27 = 1 := by kernel_rfl
theorem Try.cells3 : Try.prog.cellsOf 3 = 1 := by kernel_rfl
theorem Try.cells4 : Try.prog.cellsOf 4 = 1 := by kernel_rfl
theorem wf_nat {x : Int} (h : (Lit.int .u64 x).wf = true) : ∃ n : Nat, x = (n : Int) ∧ n < 18446744073709551616 := by
  obtain ⟨h0, h1⟩ := bounds_u64 h
  exact ⟨x.toNat, by omega, by omega⟩
theorem array7 {α : Type} {cs : Array α} (h : cs.size = 7) : ∃ c0 c1 c2 c3 c4 c5 c6, cs = #[c0, c1, c2, c3, c4, c5, c6] := by
  obtain ⟨l⟩ := cs
  match l, h with
  | [c0, c1, c2, c3, c4, c5, c6], _ => exact ⟨c0, c1, c2, c3, c4, c5, c6, rfl⟩
theorem list_of {α : Type} {d : α} {P : Nat → α → Prop} {Q : α → Prop} : ∀ (m : Nat), (∀ i, i < m → ∃ e, P i e ∧ Q e) → ∃ es : List α, es.length = m ∧ (∀ i, i < m → P i (es.getD i d)) ∧ ∀ e ∈ es, Q e
  | 0, _ => ⟨[], rfl, fun i hi => absurd hi (Nat.not_lt_zero _), by simp⟩
  | m + 1, h => by
    obtain ⟨es, hl, hp, hb⟩ := list_of (d := d) m fun i hi => h i (by omega)
    obtain ⟨e, he, hel⟩ := h m (by omega)
    refine ⟨es ++ [e], by simp [hl], fun i hi => ?_, fun x hx => ?_⟩
    · by_cases hlt : i < m
      · have : (es ++ [e]).getD i d = es.getD i d := by simp [List.getD_eq_getElem?_getD, List.getElem?_append_left (show i < es.length by omega)]
        rw [this]; exact hp i hlt
      · obtain rfl : i = m := by omega
        have : (es ++ [e]).getD i d = e := by simp [List.getD_eq_getElem?_getD, ← hl]
        rw [this]; exact he
    · rcases List.mem_append.1 hx with hx | hx
      · exact hb x hx
      · rw [List.mem_singleton.1 hx]; exact hel
/-- An address whose cell is there has no spot. -/
theorem plain_addr {w : World} {x : Addr} {v : Value} (h : w.cell? (x.add 0) = some v) : ∃ b off, x = ⟨b, off, none⟩ := by
  obtain ⟨b, off, sp⟩ := x
  cases sp with
  | none => exact ⟨b, off, rfl⟩
  | some q =>
    simp only [World.cell?, Addr.add, if_true, Option.isSome_some] at h
    split at h <;> simp at h
structure KeepIn where
  ao : Option Addr
  lo : Nat
  co : Nat
  an : Option Addr
  ln : Nat
  cn : Nat
  n : Int
  s : Int
  g : Int
  k : Int
  f : Int
def kin (a : KeepIn) : Value := kv (.slice a.ao a.lo a.co) (.slice a.an a.ln a.cn) a.n a.s a.g a.k a.f
def IsKeep (w : World) (a : KeepIn) : Prop := Ints w a.ao a.lo a.co ∧ Ints w a.an a.ln a.cn
section
variable {H : Type} {enc : TypeId × Value → H}
theorem open_fields {P : Program} {w : World} {base : Nat} {spare : Nat → Bool} {held : Bool} {r : Reach} {b0 : Nat} {t : TypeId} {fs : Array Field} {v : Value} {d : DataW H} {p : List MemPlace} (hs : P.underlying t = some (.struct fs)) (hone : Deep.oneCellFields P fs = true)
    (hv : Value.okWide P w r b0 t v) (h : DataW.Trod enc P w base spare held t v d p) :
    ∃ (cs : Array Value) (n : Nat), v = .agg cs ∧ cs.size = P.cellsOf t ∧ ∀ (i : Nat) (f : Field), fs[i]? = some f → ∃ y, DataW.trod enc P w base spare held n f.type ((cs.toList.drop i).take 1) = some y := by
  obtain ⟨cs, rfl, hsz⟩ := okWide_struct hs hv
  obtain ⟨fuel, hf⟩ := h
  obtain ⟨xs, n, _, _, hl, hlen, hff⟩ := DataW.trod_struct hs hf
  refine ⟨cs, n, rfl, hsz, fun i f hi => ?_⟩
  obtain ⟨o, k⟩ := Deep.hone_of hone i f hi
  have := hff i f hi
  have hi2 : i < xs.length := by rw [hlen]; exact (Array.getElem?_eq_some_iff.1 hi).1
  rw [o, k] at this
  exact ⟨xs[i], by simpa [Value.cells, hi2] using this⟩
theorem open_ints {W : World} {fuel : Nat} {a : Option Addr} {len cap : Nat} {x : DataW H × List MemPlace}
    (h : DataW.trod enc Try.prog W 0 (fun _ => true) true fuel 51 [.slice a len cap] = some x) : Ints W a len cap := by
  rcases Deep.open_slice Try.underlying51 h with ⟨hcs, _⟩ | ⟨ad, l, c, m, n, D, Pl, hcs, _, hl, hm, hmm, _, hcell⟩
  · simp at hcs
    obtain ⟨rfl, rfl, rfl⟩ := hcs
    exact ⟨by decide, by decide, by decide, fun k hk => absurd hk (Nat.not_lt_zero _)⟩
  · simp at hcs
    obtain ⟨rfl, rfl, rfl⟩ := hcs
    simp at hmm
    subst hmm
    unfold maxLen at hm
    have hx : ∀ i, i < m → ∃ z, W.cell? (ad.add i) = some (.int .i64 z) := fun i hi => by
      obtain ⟨cs', hc, ht⟩ := hcell i hi
      rw [Try.cells3] at hc
      obtain ⟨_, hlen, hce⟩ := World.cells?_some hc
      obtain ⟨z, rfl, -, wz⟩ := DataW.trod_int Try.underlying3 ht
      have e0 := hce 0 (by omega)
      rw [Deep.add_add] at e0
      exact ⟨z, by simpa using e0⟩
    refine ⟨by omega, by omega, hl, fun k hk => ?_⟩
    obtain ⟨z0, h0⟩ := hx 0 (by omega)
    obtain ⟨b, off, rfl⟩ := plain_addr h0
    obtain ⟨z, hz⟩ := hx k (by omega)
    rw [Addr.add_lit] at hz
    exact ⟨b, off, z, rfl, World.block_lt_of_cell? W _ hz, hz⟩
/-- Numbers of a pipe that came in. -/
theorem open_keep {W : World} {b0 : Nat} {v : Value} {d : DataW H} {p : List MemPlace}
    (hv : Value.okWide Try.prog W .any b0 53 v) (h : DataW.Trod enc Try.prog W 0 (fun _ => true) true 53 v d p) : ∃ a : KeepIn, v = kin a ∧ IsKeep W a := by
  obtain ⟨cs, n, rfl, hsz, hf⟩ := open_fields Try.underlying53 (by kernel_rfl) hv h
  obtain ⟨c0, c1, c2, c3, c4, c5, c6, rfl⟩ := array7 (hsz.trans Try.cells53)
  obtain ⟨y0, h0⟩ := hf 0 _ rfl
  obtain ⟨y1, h1⟩ := hf 1 _ rfl
  obtain ⟨y2, h2⟩ := hf 2 _ rfl
  obtain ⟨y3, h3⟩ := hf 3 _ rfl
  obtain ⟨y4, h4⟩ := hf 4 _ rfl
  obtain ⟨y5, h5⟩ := hf 5 _ rfl
  obtain ⟨y6, h6⟩ := hf 6 _ rfl
  simp only [List.drop_succ_cons, List.drop_zero, List.take_succ_cons, List.take_zero] at h0 h1 h2 h3 h4 h5 h6
  obtain ⟨a, l, c, e0⟩ := slice_form Try.underlying51 h0
  obtain ⟨a', l', c', e1⟩ := slice_form Try.underlying51 h1
  obtain ⟨a2, e2, -, _⟩ := DataW.trod_int Try.underlying3 h2
  obtain ⟨a3, e3, -, _⟩ := DataW.trod_int Try.underlying3 h3
  obtain ⟨a4, e4, -, _⟩ := DataW.trod_int Try.underlying3 h4
  obtain ⟨a5, e5, -, _⟩ := DataW.trod_int Try.underlying3 h5
  obtain ⟨a6, e6, -, _⟩ := DataW.trod_int Try.underlying3 h6
  simp only [List.cons.injEq, and_true] at e0 e1 e2 e3 e4 e5 e6
  subst e0 e1 e2 e3 e4 e5 e6
  exact ⟨⟨a, l, c, a', l', c', a2, a3, a4, a5, a6⟩, rfl, open_ints h0, open_ints h1⟩
end

/-- A slice of numbers of inputs, as it is read one by one. -/
def Ins4 (w : World) (a : Option Addr) (len cap : Nat) : Prop :=
  len ≤ 9223372036854775807 ∧ cap ≤ 9223372036854775807 ∧ len ≤ cap ∧ ∀ k, k < len → ∃ b off t y v m, a = some ⟨b, off, none⟩ ∧ b < w.heap.size ∧ w.cell? ⟨b, off + k * 4, none⟩ = some (.int .i64 t) ∧ w.cell? ⟨b, off + k * 4 + 1, none⟩ = some (.int .i64 y) ∧ w.cell? ⟨b, off + k * 4 + 2, none⟩ = some (.int .i64 v) ∧ w.cell? ⟨b, off + k * 4 + 3, none⟩ = some (.int .i64 m)
theorem Ins4.below {w w' : World} {a : Option Addr} {len cap B : Nat} (h : Ins4 w a len cap) (hb : Below B w w') (hB : w.heap.size ≤ B) (hs : w.heap.size ≤ w'.heap.size) : Ins4 w' a len cap := by
  obtain ⟨h1, h2, h3, h4⟩ := h
  refine ⟨h1, h2, h3, fun k hk => ?_⟩
  obtain ⟨b, off, t, y, v, m, e1, e2, e3, e4, e5, e6⟩ := h4 k hk
  have hc : ∀ p : Addr, p.block = b → w'.cell? p = w.cell? p := fun p hp => hb.cell (p := p) (by rw [hp]; omega)
  exact ⟨b, off, t, y, v, m, e1, Nat.lt_of_lt_of_le e2 hs, (hc _ rfl).trans e3, (hc _ rfl).trans e4, (hc _ rfl).trans e5, (hc _ rfl).trans e6⟩
theorem Ins4.call {w w' : World} {a : Option Addr} {len cap : Nat} (h : Ins4 w a len cap) (hb : Below w.heap.size w w') : Ins4 w' a len cap := h.below hb (Nat.le_refl _) hb.size
/-- A slice of inputs that came in, as it is read one by one. -/
def Raw5 (w : World) (a : Option Addr) (len cap : Nat) : Prop :=
  len ≤ 9223372036854775807 ∧ cap ≤ 9223372036854775807 ∧ len ≤ cap ∧ ∀ k, k < len → ∃ b off i, a = some ⟨b, off, none⟩ ∧ b < w.heap.size ∧ InAt w b (off + k * 5) i ∧ i.e.l < 18446744073709551616
theorem Raw5.below {w w' : World} {a : Option Addr} {len cap B : Nat} (h : Raw5 w a len cap) (hb : Below B w w') (hB : w.heap.size ≤ B) (hs : w.heap.size ≤ w'.heap.size) : Raw5 w' a len cap := by
  obtain ⟨h1, h2, h3, h4⟩ := h
  refine ⟨h1, h2, h3, fun k hk => ?_⟩
  obtain ⟨b, off, i, e1, e2, e3, e4⟩ := h4 k hk
  exact ⟨b, off, i, e1, Nat.lt_of_lt_of_le e2 hs, e3.keep (hb.block b (by omega)), e4⟩
theorem Raw5.call {w w' : World} {a : Option Addr} {len cap : Nat} (h : Raw5 w a len cap) (hb : Below w.heap.size w w') : Raw5 w' a len cap := h.below hb (Nat.le_refl _) hb.size
section
variable {H : Type} {enc : TypeId × Value → H}
theorem open_ins {W : World} {fuel : Nat} {a : Option Addr} {len cap : Nat} {x : DataW H × List MemPlace}
    (h : DataW.trod enc Try.prog W 0 (fun _ => true) true fuel 65 [.slice a len cap] = some x) : Ins4 W a len cap := by
  rcases Deep.open_slice Try.underlying65 h with ⟨hcs, _⟩ | ⟨ad, l, c, m, n, D, Pl, hcs, _, hl, hm, hmm, _, hcell⟩
  · simp at hcs
    obtain ⟨rfl, rfl, rfl⟩ := hcs
    exact ⟨by decide, by decide, by decide, fun k hk => absurd hk (Nat.not_lt_zero _)⟩
  · simp at hcs
    obtain ⟨rfl, rfl, rfl⟩ := hcs
    simp at hmm
    subst hmm
    unfold maxLen at hm
    have hx : ∀ i, i < m → ∃ t y v k, W.cell? (ad.add (i * 4)) = some (.int .i64 t) ∧ W.cell? (ad.add (i * 4 + 1)) = some (.int .i64 y) ∧ W.cell? (ad.add (i * 4 + 2)) = some (.int .i64 v) ∧ W.cell? (ad.add (i * 4 + 3)) = some (.int .i64 k) := fun i hi => by
      obtain ⟨cs', hc, ht⟩ := hcell i hi
      rw [Try.cells104] at hc
      obtain ⟨_, hlen, hce⟩ := World.cells?_some hc
      obtain ⟨y0, y1, y2, y3, n', _, _, h0, h1, h2, h3⟩ := trod_struct4 Try.underlying104 ht
      match cs', hlen with
      | [c0, c1, c2, c3], _ =>
        have e0 := hce 0 (by omega)
        have e1 := hce 1 (by omega)
        have e2 := hce 2 (by omega)
        have e3 := hce 3 (by omega)
        rw [Deep.add_add] at e0 e1 e2 e3
        simp [Try.cells3] at h0 h1 h2 h3
        obtain ⟨a0, q0, -, w0⟩ := DataW.trod_int Try.underlying3 h0
        obtain ⟨a1, q1, -, w1⟩ := DataW.trod_int Try.underlying3 h1
        obtain ⟨a2, q2, -, w2⟩ := DataW.trod_int Try.underlying3 h2
        obtain ⟨a3, q3, -, w3⟩ := DataW.trod_int Try.underlying3 h3
        simp only [List.cons.injEq, and_true] at q0 q1 q2 q3
        subst q0 q1 q2 q3
        exact ⟨a0, a1, a2, a3, by simpa using e0, by simpa using e1, by simpa using e2, by simpa using e3⟩
    refine ⟨by omega, by omega, hl, fun k hk => ?_⟩
    obtain ⟨_, _, _, _, h0, _⟩ := hx 0 (by omega)
    rw [Nat.zero_mul] at h0
    obtain ⟨b, off, rfl⟩ := plain_addr h0
    obtain ⟨t, y, v, q, e0, e1, e2, e3⟩ := hx k (by omega)
    rw [Addr.add_lit] at e0 e1 e2 e3
    exact ⟨b, off, t, y, v, q, rfl, World.block_lt_of_cell? W _ e0, e0, by rw [Nat.add_assoc]; exact e1, by rw [Nat.add_assoc]; exact e2, by rw [Nat.add_assoc]; exact e3⟩
theorem open_raw {W : World} {fuel : Nat} {a : Option Addr} {len cap : Nat} {x : DataW H × List MemPlace}
    (h : DataW.trod enc Try.prog W 0 (fun _ => true) true fuel 44 [.slice a len cap] = some x) : Raw5 W a len cap := by
  rcases Deep.open_slice Try.underlying44 h with ⟨hcs, _⟩ | ⟨ad, l, c, m, n, D, Pl, hcs, _, hl, hm, hmm, _, hcell⟩
  · simp at hcs
    obtain ⟨rfl, rfl, rfl⟩ := hcs
    exact ⟨by decide, by decide, by decide, fun k hk => absurd hk (Nat.not_lt_zero _)⟩
  · simp at hcs
    obtain ⟨rfl, rfl, rfl⟩ := hcs
    simp at hmm
    subst hmm
    unfold maxLen at hm
    have hx : ∀ i, i < m → ∃ e : Inp, W.cell? (ad.add (i * 5)) = some (.bool e.mrk) ∧ W.cell? (ad.add (i * 5 + 1)) = some (.int .i64 e.e.t) ∧ W.cell? (ad.add (i * 5 + 2)) = some (.int .i64 e.e.k) ∧ W.cell? (ad.add (i * 5 + 3)) = some (.int .i64 e.e.v) ∧ W.cell? (ad.add (i * 5 + 4)) = some (.int .u64 e.e.l) ∧ e.e.l < 18446744073709551616 := fun i hi => by
      obtain ⟨cs', hc, ht⟩ := hcell i hi
      rw [Try.cells31] at hc
      obtain ⟨_, hlen, hce⟩ := World.cells?_some hc
      obtain ⟨xs, n', _, _, hl2, hlen2, hff⟩ := DataW.trod_struct Try.underlying31 ht
      match cs', hlen with
      | [c0, c1, c2, c3, c4], _ =>
        have e0 := hce 0 (by omega)
        have e1 := hce 1 (by omega)
        have e2 := hce 2 (by omega)
        have e3 := hce 3 (by omega)
        have e4 := hce 4 (by omega)
        rw [Deep.add_add] at e0 e1 e2 e3 e4
        have f0 := hff 0 _ rfl
        have f1 := hff 1 _ rfl
        have hx2 : xs.length = 2 := hlen2
        obtain ⟨x0, x1, rfl⟩ : ∃ x0 x1, xs = [x0, x1] := by
          match xs, hx2 with
          | [a, b], _ => exact ⟨a, b, rfl⟩
        have g0 : DataW.trod enc Try.prog W 0 (fun _ => true) true n' 4 (List.take (Try.prog.cellsOf 4) (List.drop 0 [c0, c1, c2, c3, c4])) = some x0 := f0
        have g1 : DataW.trod enc Try.prog W 0 (fun _ => true) true n' 29 (List.take (Try.prog.cellsOf 29) (List.drop 1 [c0, c1, c2, c3, c4])) = some x1 := f1
        rw [Try.cells4] at g0
        rw [Try.cells29] at g1
        simp only [List.drop_zero, List.take_succ_cons, List.take_zero, List.drop_succ_cons] at g0 g1
        obtain ⟨y0, y1, y2, y3, n2, _, _, h0, h1, h2, h3⟩ := trod_struct4 Try.underlying29 g1
        simp [Try.cells3, Try.cells27] at h0 h1 h2 h3
        obtain ⟨b0, q9, -⟩ := DataW.trod_bool Try.underlying4 g0
        obtain ⟨a0, q0, -, w0⟩ := DataW.trod_int Try.underlying3 h0
        obtain ⟨a1, q1, -, w1⟩ := DataW.trod_int Try.underlying3 h1
        obtain ⟨a2, q2, -, w2⟩ := DataW.trod_int Try.underlying3 h2
        obtain ⟨a3, q3, -, w3⟩ := DataW.trod_int Try.underlying27 h3
        obtain ⟨l9, rfl, hl9⟩ := wf_nat w3
        simp only [List.cons.injEq, and_true] at q0 q1 q2 q3 q9
        subst q0 q1 q2 q3 q9
        exact ⟨⟨b0, ⟨a0, a1, a2, l9⟩⟩, by simpa using e0, by simpa using e1, by simpa using e2, by simpa using e3, by simpa using e4, hl9⟩
    refine ⟨by omega, by omega, hl, fun k hk => ?_⟩
    obtain ⟨_, h0, _⟩ := hx 0 (by omega)
    rw [Nat.zero_mul] at h0
    obtain ⟨b, off, rfl⟩ := plain_addr h0
    obtain ⟨e, e0, e1, e2, e3, e4, e5⟩ := hx k (by omega)
    rw [Addr.add_lit] at e0 e1 e2 e3 e4
    exact ⟨b, off, e, rfl, World.block_lt_of_cell? W _ e0, ⟨e0, by rw [Nat.add_assoc]; exact e1, by rw [Nat.add_assoc]; exact e2, by rw [Nat.add_assoc]; exact e3, by rw [Nat.add_assoc]; exact e4⟩, e5⟩
end
end Go.Proofs.Ytnamjnopicghhaa
