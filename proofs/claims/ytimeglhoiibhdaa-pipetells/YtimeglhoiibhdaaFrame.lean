/- What every statement of this seat wants of its row: a pipe, numbers of a pipe, a slice of bytes that came in. -/
import Derived.Test.YtimeglhoiibhdaaRows
import Derived.Test.YtimeglhoiibhdaaKeep
import Derived.ProofKit
import Derived.OpenShut
import Derived.ChangeOld
import Derived.Below
import Derived.Lib.SmallJoins
import Derived.Deep.SlicePairs
import Derived.Deep.Slices
namespace Go.Proofs.Ytimeglhoiibhdaa
open Go.ChangeShapes Go.WideShapes Go.ChangeAt Go.RowKit Go.Joins M

theorem own : ownKnob Try.prog.godebug = none := by kernel_rfl
theorem laidOut : laidOutB Try.prog = true := by kernel_rfl
theorem Try.cells23 : Try.prog.cellsOf 23 = 2 := by kernel_rfl
theorem Try.cells26 : Try.prog.cellsOf 26 = 6 := by kernel_rfl
theorem Try.cells38 : Try.prog.cellsOf 38 = 7 := by kernel_rfl
theorem Try.cells3 : Try.prog.cellsOf 3 = 1 := by kernel_rfl
theorem Try.cells5 : Try.prog.cellsOf 5 = 1 := by kernel_rfl
theorem array6 {α : Type} {cs : Array α} (h : cs.size = 6) : ∃ c0 c1 c2 c3 c4 c5, cs = #[c0, c1, c2, c3, c4, c5] := by
  obtain ⟨l⟩ := cs
  match l, h with
  | [c0, c1, c2, c3, c4, c5], _ => exact ⟨c0, c1, c2, c3, c4, c5, rfl⟩
theorem array7 {α : Type} {cs : Array α} (h : cs.size = 7) : ∃ c0 c1 c2 c3 c4 c5 c6, cs = #[c0, c1, c2, c3, c4, c5, c6] := by
  obtain ⟨l⟩ := cs
  match l, h with
  | [c0, c1, c2, c3, c4, c5, c6], _ => exact ⟨c0, c1, c2, c3, c4, c5, c6, rfl⟩
theorem list_of {α : Type} {d : α} {P : Nat → α → Prop} {Q : α → Prop} : ∀ (m : Nat), (∀ i, i < m → ∃ e, P i e ∧ Q e) → ∃ es : List α, es.length = m ∧ (∀ i, i < m → P i (es.getD i d)) ∧ ∀ e ∈ es, Q e
  | 0, _ => ⟨[], rfl, fun i hi => absurd hi (Nat.not_lt_zero _), by simp⟩
  | m + 1, h => by
    obtain ⟨es, hl, hp, hb⟩ := list_of (d := d) m fun i hi => h i (by omega)
    obtain ⟨e, he, hel⟩ := h m (by omega)
    refine ⟨es ++ [e], by simp [hl], fun i hi => ?_, fun x hx => ?_⟩
    · by_cases hlt : i < m
      · have : (es ++ [e]).getD i d = es.getD i d := by simp [List.getD_eq_getElem?_getD, List.getElem?_append_left (show i < es.length by omega)]
        rw [this]; exact hp i hlt
      · obtain rfl : i = m := by omega
        have : (es ++ [e]).getD i d = e := by simp [List.getD_eq_getElem?_getD, ← hl]
        rw [this]; exact he
    · rcases List.mem_append.1 hx with hx | hx
      · exact hb x hx
      · rw [List.mem_singleton.1 hx]; exact hel
/-- An address whose cell is there has no spot. -/
theorem plain_addr {w : World} {x : Addr} {v : Value} (h : w.cell? (x.add 0) = some v) : ∃ b off, x = ⟨b, off, none⟩ := by
  obtain ⟨b, off, sp⟩ := x
  cases sp with
  | none => exact ⟨b, off, rfl⟩
  | some q =>
    simp only [World.cell?, Addr.add, if_true, Option.isSome_some] at h
    split at h <;> simp at h
/-- The two cells of an operation, at any address. -/
def OpA (w : World) (x : Addr) (i : Nat) (o : Oq) : Prop := w.cell? (x.add (i * 2)) = some (.int .i64 o.k) ∧ w.cell? (x.add (i * 2 + 1)) = some (.int .i64 o.n)
/-- A slice of operations that came in: nil, or a row of cells. -/
def IsOps (w : World) (a : Option Addr) (len cap : Nat) (os : List Oq) : Prop :=
  (a = none ∧ len = 0 ∧ cap = 0 ∧ os = []) ∨
  ∃ x, a = some x ∧ len ≤ cap ∧ cap ≤ maxLen ∧ os.length = cap ∧ (∀ i, i < os.length → OpA w x i (opAt os i)) ∧ OFits os
/-- A slice of bytes that came in: nil, or a row of cells. -/
def IsBytes (w : World) (a : Option Addr) (len cap : Nat) (zs : List Int) : Prop :=
  (a = none ∧ len = 0 ∧ cap = 0 ∧ zs = []) ∨
  ∃ x, a = some x ∧ len ≤ cap ∧ cap ≤ maxLen ∧ zs.length = cap ∧ (∀ i, i < zs.length → w.cell? (x.add i) = some (.int .u8 (zs.getD i 0))) ∧ ∀ n ∈ zs, 0 ≤ n ∧ n < 256
structure PipeIn where
  a : Option Addr
  len : Nat
  cap : Nat
  n : Int
  s : Int
  g : Int
  k : Int
  f : Int
def pin (a : PipeIn) : Value := pv (.slice a.a a.len a.cap) a.n a.s a.g a.k a.f
def IsPipe (w : World) (a : PipeIn) : Prop := (∃ os, IsOps w a.a a.len a.cap os) ∧ Fits a.n ∧ Fits a.s ∧ Fits a.g ∧ Fits a.k ∧ Fits a.f
structure KeepIn where
  ao : Option Addr
  lo : Nat
  co : Nat
  an : Option Addr
  ln : Nat
  cn : Nat
  n : Int
  s : Int
  g : Int
  k : Int
  f : Int
def kin (a : KeepIn) : Value := kv (.slice a.ao a.lo a.co) (.slice a.an a.ln a.cn) a.n a.s a.g a.k a.f
def IsKeep (w : World) (a : KeepIn) : Prop := Ints w a.ao a.lo a.co ∧ Ints w a.an a.ln a.cn
section
variable {H : Type} {enc : TypeId × Value → H}
theorem open_fields {P : Program} {w : World} {base : Nat} {spare : Nat → Bool} {held : Bool} {r : Reach} {b0 : Nat} {t : TypeId} {fs : Array Field} {v : Value} {d : DataW H} {p : List MemPlace} (hs : P.underlying t = some (.struct fs)) (hone : Deep.oneCellFields P fs = true)
    (hv : Value.okWide P w r b0 t v) (h : DataW.Trod enc P w base spare held t v d p) :
    ∃ (cs : Array Value) (n : Nat), v = .agg cs ∧ cs.size = P.cellsOf t ∧ ∀ (i : Nat) (f : Field), fs[i]? = some f → ∃ y, DataW.trod enc P w base spare held n f.type ((cs.toList.drop i).take 1) = some y := by
  obtain ⟨cs, rfl, hsz⟩ := okWide_struct hs hv
  obtain ⟨fuel, hf⟩ := h
  obtain ⟨xs, n, _, _, hl, hlen, hff⟩ := DataW.trod_struct hs hf
  refine ⟨cs, n, rfl, hsz, fun i f hi => ?_⟩
  obtain ⟨o, k⟩ := Deep.hone_of hone i f hi
  have := hff i f hi
  have hi2 : i < xs.length := by rw [hlen]; exact (Array.getElem?_eq_some_iff.1 hi).1
  rw [o, k] at this
  exact ⟨xs[i], by simpa [Value.cells, hi2] using this⟩
theorem open_ops {W : World} {fuel : Nat} {a : Option Addr} {len cap : Nat} {x : DataW H × List MemPlace}
    (h : DataW.trod enc Try.prog W 0 (fun _ => true) true fuel 24 [.slice a len cap] = some x) : ∃ os, IsOps W a len cap os := by
  rcases Deep.open_slice_pairs Try.underlying24 Try.underlying23 Try.cells23 rfl rfl Try.cells3 Try.cells3 h with ⟨hcs, _⟩ | ⟨ad, l, c, m, n, V0, V1, D0, D1, P0, P1, hcs, _, hl, hm, hmm, _, hcell⟩
  · simp at hcs
    obtain ⟨rfl, rfl, rfl⟩ := hcs
    exact ⟨[], .inl ⟨rfl, rfl, rfl, rfl⟩⟩
  · simp at hcs
    obtain ⟨rfl, rfl, rfl⟩ := hcs
    simp at hmm
    subst hmm
    obtain ⟨es, hes, hp, hb⟩ := list_of (d := (⟨0, 0⟩ : Oq)) (P := OpA W ad) (Q := fun o => Fits o.k ∧ Fits o.n) m fun i hi => by
      obtain ⟨c0, c1, t0, t1⟩ := hcell i hi
      obtain ⟨a0, q0, -, w0⟩ := DataW.trod_int Try.underlying3 t0
      obtain ⟨a1, q1, -, w1⟩ := DataW.trod_int Try.underlying3 t1
      simp only [List.cons.injEq, and_true] at q0 q1
      exact ⟨⟨a0, a1⟩, ⟨by rw [← q0]; exact c0, by rw [← q1]; exact c1⟩, bounds_i64 w0, bounds_i64 w1⟩
    exact ⟨es, .inr ⟨ad, rfl, hl, hm, hes, by rw [hes]; exact hp, hb⟩⟩
theorem open_ints {W : World} {fuel : Nat} {a : Option Addr} {len cap : Nat} {x : DataW H × List MemPlace}
    (h : DataW.trod enc Try.prog W 0 (fun _ => true) true fuel 36 [.slice a len cap] = some x) : Ints W a len cap := by
  rcases Deep.open_slice Try.underlying36 h with ⟨hcs, _⟩ | ⟨ad, l, c, m, n, D, Pl, hcs, _, hl, hm, hmm, _, hcell⟩
  · simp at hcs
    obtain ⟨rfl, rfl, rfl⟩ := hcs
    exact ⟨by decide, by decide, by decide, fun k hk => absurd hk (Nat.not_lt_zero _)⟩
  · simp at hcs
    obtain ⟨rfl, rfl, rfl⟩ := hcs
    simp at hmm
    subst hmm
    unfold maxLen at hm
    have hx : ∀ i, i < m → ∃ z, W.cell? (ad.add i) = some (.int .i64 z) := fun i hi => by
      obtain ⟨cs', hc, ht⟩ := hcell i hi
      rw [Try.cells3] at hc
      obtain ⟨_, hlen, hce⟩ := World.cells?_some hc
      obtain ⟨z, rfl, -, wz⟩ := DataW.trod_int Try.underlying3 ht
      have e0 := hce 0 (by omega)
      rw [Deep.add_add] at e0
      exact ⟨z, by simpa using e0⟩
    refine ⟨by omega, by omega, hl, fun k hk => ?_⟩
    obtain ⟨z0, h0⟩ := hx 0 (by omega)
    obtain ⟨b, off, rfl⟩ := plain_addr h0
    obtain ⟨z, hz⟩ := hx k (by omega)
    rw [Addr.add_lit] at hz
    exact ⟨b, off, z, rfl, World.block_lt_of_cell? W _ hz, hz⟩
theorem open_bytes {W : World} {fuel : Nat} {a : Option Addr} {len cap : Nat} {x : DataW H × List MemPlace}
    (h : DataW.trod enc Try.prog W 0 (fun _ => true) true fuel 27 [.slice a len cap] = some x) : ∃ zs, IsBytes W a len cap zs := by
  rcases Deep.open_slice Try.underlying27 h with ⟨hcs, _⟩ | ⟨ad, l, c, m, n, D, Pl, hcs, _, hl, hm, hmm, _, hcell⟩
  · simp at hcs
    obtain ⟨rfl, rfl, rfl⟩ := hcs
    exact ⟨[], .inl ⟨rfl, rfl, rfl, rfl⟩⟩
  · simp at hcs
    obtain ⟨rfl, rfl, rfl⟩ := hcs
    simp at hmm
    subst hmm
    obtain ⟨es, hes, hp, hb⟩ := list_of (d := (0 : Int)) (P := fun i z => W.cell? (ad.add i) = some (.int .u8 z)) (Q := fun n => 0 ≤ n ∧ n < 256) m fun i hi => by
      obtain ⟨cs', hc, ht⟩ := hcell i hi
      rw [Try.cells5] at hc
      obtain ⟨_, hlen, hce⟩ := World.cells?_some hc
      obtain ⟨z, rfl, -, wz⟩ := DataW.trod_int Try.underlying5 ht
      have e0 := hce 0 (by omega)
      rw [Deep.add_add] at e0
      have hb := bounds_u8 wz
      exact ⟨z, by simpa using e0, by omega, by omega⟩
    exact ⟨es, .inr ⟨ad, rfl, hl, hm, hes, by rw [hes]; exact hp, hb⟩⟩
/-- A pipe that came in. -/
theorem open_pipe {W : World} {b0 : Nat} {v : Value} {d : DataW H} {p : List MemPlace}
    (hv : Value.okWide Try.prog W .any b0 26 v) (h : DataW.Trod enc Try.prog W 0 (fun _ => true) true 26 v d p) : ∃ a : PipeIn, v = pin a ∧ IsPipe W a := by
  obtain ⟨cs, n, rfl, hsz, hf⟩ := open_fields Try.underlying26 (by kernel_rfl) hv h
  obtain ⟨c0, c1, c2, c3, c4, c5, rfl⟩ := array6 (hsz.trans Try.cells26)
  obtain ⟨y0, h0⟩ := hf 0 _ rfl
  obtain ⟨y1, h1⟩ := hf 1 _ rfl
  obtain ⟨y2, h2⟩ := hf 2 _ rfl
  obtain ⟨y3, h3⟩ := hf 3 _ rfl
  obtain ⟨y4, h4⟩ := hf 4 _ rfl
  obtain ⟨y5, h5⟩ := hf 5 _ rfl
  simp only [List.drop_succ_cons, List.drop_zero, List.take_succ_cons, List.take_zero] at h0 h1 h2 h3 h4 h5
  obtain ⟨a, l, c, e0⟩ := slice_form Try.underlying24 h0
  obtain ⟨a1, e1, -, w1⟩ := DataW.trod_int Try.underlying3 h1
  obtain ⟨a2, e2, -, w2⟩ := DataW.trod_int Try.underlying3 h2
  obtain ⟨a3, e3, -, w3⟩ := DataW.trod_int Try.underlying3 h3
  obtain ⟨a4, e4, -, w4⟩ := DataW.trod_int Try.underlying3 h4
  obtain ⟨a5, e5, -, w5⟩ := DataW.trod_int Try.underlying3 h5
  simp only [List.cons.injEq, and_true] at e0 e1 e2 e3 e4 e5
  subst e0 e1 e2 e3 e4 e5
  exact ⟨⟨a, l, c, a1, a2, a3, a4, a5⟩, rfl, open_ops h0, bounds_i64 w1, bounds_i64 w2, bounds_i64 w3, bounds_i64 w4, bounds_i64 w5⟩
/-- Numbers of a pipe that came in. -/
theorem open_keep {W : World} {b0 : Nat} {v : Value} {d : DataW H} {p : List MemPlace}
    (hv : Value.okWide Try.prog W .any b0 38 v) (h : DataW.Trod enc Try.prog W 0 (fun _ => true) true 38 v d p) : ∃ a : KeepIn, v = kin a ∧ IsKeep W a := by
  obtain ⟨cs, n, rfl, hsz, hf⟩ := open_fields Try.underlying38 (by kernel_rfl) hv h
  obtain ⟨c0, c1, c2, c3, c4, c5, c6, rfl⟩ := array7 (hsz.trans Try.cells38)
  obtain ⟨y0, h0⟩ := hf 0 _ rfl
  obtain ⟨y1, h1⟩ := hf 1 _ rfl
  obtain ⟨y2, h2⟩ := hf 2 _ rfl
  obtain ⟨y3, h3⟩ := hf 3 _ rfl
  obtain ⟨y4, h4⟩ := hf 4 _ rfl
  obtain ⟨y5, h5⟩ := hf 5 _ rfl
  obtain ⟨y6, h6⟩ := hf 6 _ rfl
  simp only [List.drop_succ_cons, List.drop_zero, List.take_succ_cons, List.take_zero] at h0 h1 h2 h3 h4 h5 h6
  obtain ⟨a, l, c, e0⟩ := slice_form Try.underlying36 h0
  obtain ⟨a', l', c', e1⟩ := slice_form Try.underlying36 h1
  obtain ⟨a2, e2, -, _⟩ := DataW.trod_int Try.underlying3 h2
  obtain ⟨a3, e3, -, _⟩ := DataW.trod_int Try.underlying3 h3
  obtain ⟨a4, e4, -, _⟩ := DataW.trod_int Try.underlying3 h4
  obtain ⟨a5, e5, -, _⟩ := DataW.trod_int Try.underlying3 h5
  obtain ⟨a6, e6, -, _⟩ := DataW.trod_int Try.underlying3 h6
  simp only [List.cons.injEq, and_true] at e0 e1 e2 e3 e4 e5 e6
  subst e0 e1 e2 e3 e4 e5 e6
  exact ⟨⟨a, l, c, a', l', c', a2, a3, a4, a5, a6⟩, rfl, open_ints h0, open_ints h1⟩
end
end Go.Proofs.Ytimeglhoiibhdaa
