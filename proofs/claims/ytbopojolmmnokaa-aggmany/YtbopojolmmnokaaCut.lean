/- A list cut in two; what is appended in a region that draws. -/
import Derived.Test.YtbopojolmmnokaaOwn
import Derived.Deep.Cut
import Derived.Deep.CutBlock
import Derived.Deep.DeepCutAuto
import Derived.Deep.RegionHeld3
import Derived.Deep.DrawnRows
namespace Go.Proofs.Ytbopojolmmnokaa
open Go.RowKit M
set_option linter.unusedVariables false

/-- A list of the call's own: nil, or not. -/
def Shape (ao : Option Addr) (n cp : Nat) : Prop := (ao = none ∧ n = 0 ∧ cp = 0) ∨ ∃ g, ao = some ⟨g, 0, none⟩ ∧ n ≤ cp ∧ cp ≤ 9223372036854775807
theorem own_shape {w : World} {base : Nat} {v : Value} {l : List Value} {n sz : Nat} {e : TypeId} (h : w.ownsRow base e sz v n l) : ∃ ao cp, v = .slice ao n cp ∧ Shape ao n cp := by
  obtain ⟨_, h0 | ⟨g, cap, cur, rfl, hb, hh, h1, hm, _⟩⟩ := h
  · obtain ⟨rfl, rfl⟩ := h0
    exact ⟨none, 0, rfl, .inl ⟨rfl, rfl, rfl⟩⟩
  · exact ⟨_, _, rfl, .inr ⟨g, rfl, h1, by unfold maxLen at hm; omega⟩⟩
/-- What comes of cutting such a list, of elements of one cell, in two. -/
def Parts (ao : Option Addr) (n cp C : Nat) (u1 u2 : Value) : Prop :=
  (ao = none ∧ n = 0 ∧ cp = 0 ∧ C = 0 ∧ u1 = .slice none 0 0 ∧ u2 = .slice none 0 0) ∨
  ∃ g, ao = some ⟨g, 0, none⟩ ∧ n ≤ cp ∧ cp ≤ 9223372036854775807 ∧ C ≤ n ∧ u2 = .slice (some ⟨g, 0, none⟩) C cp ∧
    (C = cp ∧ u1 = .slice (some ⟨g, 0, none⟩) 0 0 ∨ C < cp ∧ u1 = .slice (some ⟨g, C, none⟩) (n - C) (cp - C))
theorem src_rd {w : World} {a : Addr} {n cp : Nat} {zs : List Int} (h : Rd .i64 w (.slice (some a) n cp) zs) : Src w (.slice (some a) n cp) n (iv zs) := by
  obtain ⟨h1, ao, cap, he, h2, h3, hc⟩ := h
  injection he with e1 e2 e3
  subst e1 e2 e3
  refine .inr ⟨_, _, rfl, by rw [iv_len]; omega, fun j u hj => ?_⟩
  simp only [iv, List.getElem?_map, Option.map_eq_some_iff] at hj
  obtain ⟨z, hz, rfl⟩ := hj
  have hjl := (List.getElem?_eq_some_iff.1 hz).1
  obtain ⟨b, off, hao, hcell⟩ := hc (by omega)
  injection hao with hao
  subst hao
  rw [Addr.add_lit, hcell j hjl]
  simp [List.getD_eq_getElem?_getD, hz]
theorem parts_ex {ao : Option Addr} {n cp C : Nat} (h : Shape ao n cp) (hC : C ≤ n) :
    ∃ u1 u2, Parts ao n cp C u1 u2 ∧ (∀ g, Apart g (.slice ao n cp) → Apart g u1 ∧ Apart g u2) ∧
      ∀ w ms, ms.length = n → Rd .i64 w (.slice ao n cp) ms → Rd .i64 w u1 (ms.drop C) ∧ Rd .i64 w u2 (ms.take C) ∧ Src w u1 (n - C) (iv (ms.drop C)) ∧ Src w u2 C (iv (ms.take C)) := by
  rcases h with ⟨rfl, rfl, rfl⟩ | ⟨g, rfl, h1, h2⟩
  · obtain rfl : C = 0 := by omega
    refine ⟨_, _, .inl ⟨rfl, rfl, rfl, rfl, rfl, rfl⟩, fun g hg => ⟨hg, hg⟩, fun w ms hm hr => ?_⟩
    obtain rfl := List.eq_nil_of_length_eq_zero hm
    exact ⟨rd_nil _ _, rd_nil _ _, .inl ⟨rfl, rfl, rfl⟩, .inl ⟨rfl, rfl, rfl⟩⟩
  · by_cases hc : C = cp
    · subst hc
      refine ⟨_, _, .inr ⟨g, rfl, h1, h2, hC, rfl, .inl ⟨rfl, rfl⟩⟩, fun g' hg => ⟨apart_some (hg _ _ _ _ rfl), apart_some (hg _ _ _ _ rfl)⟩, fun w ms hm hr => ?_⟩
      have hd : ms.drop C = [] := List.drop_of_length_le (by omega)
      have e0 : n - C = 0 := by omega
      rw [hd, e0]
      have r1 : Rd .i64 w (.slice (some ⟨g, 0, none⟩) 0 0) [] := Rd.empty (by decide)
      have r2 := hr.take C (by omega)
      exact ⟨r1, r2, src_rd r1, src_rd r2⟩
    · refine ⟨_, _, .inr ⟨g, rfl, h1, h2, hC, rfl, .inr ⟨by omega, rfl⟩⟩, fun g' hg => ⟨apart_some (hg _ _ _ _ rfl), apart_some (hg _ _ _ _ rfl)⟩, fun w ms hm hr => ?_⟩
      have r1 := hr.drop C (by omega)
      rw [Nat.zero_add, hm] at r1
      have r2 := hr.take C (by omega)
      exact ⟨r1, r2, src_rd r1, src_rd r2⟩
section
variable {P : Program} (w : World)
theorem step_append_src {ops : Array Oper} {o : Oper} {a : Act} {K : Act → World → Prop} {Q : Exit → Act → World → Prop} {E : Prop} {d : Nat} (hd : o.dst = some d) (hw : Region.wanted o (yielded ops a.tmps) = true) (s x : Operand) (t : TypeId)
    (ho : o.op = .call { callee := .builtin .append, args := #[s, x], argTypes := #[t, t] })
    (base : Nat) (e : TypeId) (i : TypeInfo) (z : Value) (bytes : Nat) (ht : P.underlying t = some (.slice e)) (hi : P.info? e = some i) (hz : i.zero = some z)
    (hsize : i.size = 1) (hby : i.bytes = bytes) (hzs : z.cells.size = 1)
    (v : Value) (n : Nat) (xs : List Value) (hs : a.eval s = v) (hown : w.ownsRow base e 1 v n xs) (u : Value) (m : Nat) (news : List Value) (hx : a.eval x = u) (hsrc : Src w u m news) (h1 : ∀ u ∈ news, u.oneCell' = true)
    (h63 : n + m ≤ maxLen) (hbytes : (n + m) * bytes ≤ 140737488355328) (hbase : base ≤ w.heap.size)
    (h : ∀ v' w', w'.ownsRow base e 1 v' (n + m) (xs ++ news) → Below base w w' → K (a.put (some d) v') w') :
    if Region.wanted o (yielded ops a.tmps) = true then Oper.wp P o a w K Q else E := by
  rw [if_pos hw]
  obtain ⟨v', w', hr, h2, h3⟩ := run_append_src (P := P) w base t o.type e i z bytes ht hi hz hsize hby hzs v n xs hown u m news hsrc h1 h63 hbytes hbase
  unfold Oper.wp execOp
  simp only [ho, resolve, invoke, builtin, Sem.run_bind, Sem.run_pure, Result.andThen_ok, List.map_toArray, List.map_cons, List.map_nil, hs, hx, hr]
  rw [← hd] at h
  exact h v' w' h2 h3
end
/-- An operation that yields is taken first: the slot by its number. -/
theorem take_at {P : Program} {ops : Array Oper} {Q : Exit → Act → World → Prop} {md : Region.Mode} {S : World → Prop} {i k : Nat} {oi : Oper} {v : Value} {fuel : Nat} {listed : Array Bool} {a : Act} {w : World} (hi : ops[i]? = some oi) (hd : oi.dst = some k)
    (hs : Region.noSelect ops = true) (hf : Region.free md ops listed i = true) (hr : (Region.ready md ops listed).contains i = true)
    (hQ : ∀ c a w, Q (.panic c) (a.put (some k) v) w → Q (.panic c) a w) (hy : YieldsIf P ops S oi v a) (hS : S w)
    (h : wpAnyH P md ops Q S fuel (listed.setIfInBounds i true) (a.put (some k) v) w) : wpAnyH P md ops Q S (fuel + 1) listed a w := by
  rw [← hd] at h hQ
  exact wpAnyH_take hi hs hf hr hQ hy hS h
theorem Rd.drew {k : IntKind} {w : World} {v : Value} {zs : List Int} (h : Rd k w v zs) : Rd k w.drew v zs := h
theorem Agl.drew {w : World} {b : Nat} {k : Int} {l : List Int} (h : Agl w b k l) : Agl w.drew b k l := h
theorem Agl.cells {w : World} {b : Nat} {k : Int} {l : List Int} {n V : Int} (h : Agl w b k l) (hn : (l.length : Int) = n) (hV : val k l = V) :
    w.cell? ⟨b, 0, none⟩ = some (.int .i64 n) ∧ w.cell? ⟨b, 1, none⟩ = some (.int .i64 k) ∧ w.cell? ⟨b, 2, none⟩ = some (.int .i64 V) := by
  subst hn hV
  exact ⟨Agk.c0 h, Agk.c1 h, Agk.c2 h⟩
theorem merge_is (b : Nat) (k : Int) (l m : List Int) (mc v : Int) (w : World) (hc : Agl w b k l) (hl : l.length + m.length ≤ 9223372036854775807) (hm : (m.length : Int) = mc) (hv : val k m = v) :
    Calls Try.prog 16 #[.pointer (some ⟨b, 0, none⟩), .agg #[.int .i64 mc, .int .i64 k, .int .i64 v]] w fun e w' => e = .returned (.bool true) ∧ Agl w' b k (l ++ m) ∧ But b w w' := by
  subst hm hv
  exact merge_any b k l m w hc hl
end Go.Proofs.Ytbopojolmmnokaa
