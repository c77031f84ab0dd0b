/- Small lemmas that several walks want: small pipes, lists of the call's own, a row's block, an input's block. -/
import Derived.Test.YtnamjnopicghhaaRIns
import Derived.Test.YtnamjnopicghhaaFrame
import Derived.Test.YtnamjnopicghhaaRApp
import Derived.Deep.QuietTactic
import Derived.BigQuiet
namespace Go.Proofs.Ytnamjnopicghhaa
open Go.RowKit M
open O (RdO Kpk Pik Small Ints)
open O.MO (Oq Pq rightP)
set_option linter.unusedVariables false
set_option linter.unusedSimpArgs false

/-- A pipe of small numbers: what New wants of it. -/
theorem small_new {p : Pq} (h : Small p) : rightP p = true ∧ p.os.length ≤ 1000 ∧ (∀ o ∈ p.os, o.n ≤ 9223372036854775807) ∧ rightB p.n p.s = true := by
  have hr := O.small_right h
  refine ⟨hr, by have := h.1; omega, fun o ho => by have := h.2.1 o ho; omega, ?_⟩
  have h1 := hr
  unfold rightP at h1
  simp only [Bool.and_eq_true] at h1
  exact h1.2.1
theorem own_len {w : World} {B : Nat} {e : TypeId} {size n : Nat} {v : Value} {xs : List Value} (h : w.ownsRow B e size v n xs) : ∃ a c, v = .slice a n c := by
  obtain ⟨_, h | ⟨g, cap, cur, rfl, _⟩⟩ := h
  · rw [h.2]; exact ⟨_, _, h.1⟩
  · exact ⟨_, _, rfl⟩
/-- A row's block whole. -/
def Rok (w : World) (b : Nat) (p : Pn) : Prop := w.heap[b]? = some (.cells #[.int .i64 p.s, .int .i64 p.k, .int .i64 p.v, .int .i64 p.c, .int .u64 p.l] 39 (0, 0))
theorem Rok.c {w : World} {b : Nat} {p : Pn} (h : Rok w b p) : RwAt w b 0 p := by
  unfold Rok at h; exact ⟨by simp [World.cell?, h], by simp [World.cell?, h], by simp [World.cell?, h], by simp [World.cell?, h], by simp [World.cell?, h]⟩
theorem rok_new (w : World) (p : Pn) : Rok (w.alloc (.cells #[.int .i64 p.s, .int .i64 p.k, .int .i64 p.v, .int .i64 p.c, .int .u64 p.l] 39)) w.heap.size p := by
  show (w.heap.push _)[w.heap.size]? = _
  simp
/-- One row in a block of its own, as what is appended. -/
theorem row_src (w : World) (p : Pn) (g : Nat) (hg : w.heap.size = g) : SrcN 5 (w.alloc (.cells #[.int .i64 p.s, .int .i64 p.k, .int .i64 p.v, .int .i64 p.c, .int .u64 p.l] 39)) (.slice (some ⟨g, 0, none⟩) 1 1) 1 (rcs [p]) := by
  subst hg
  refine .inr ⟨_, _, rfl, rfl, fun j x hj => ?_⟩
  rw [rcs_single] at hj
  exact src_cells (cs := (rcell p).toArray) (e := 39) (by show (w.heap.push _)[w.heap.size]? = _; simp [rcell]) j x hj
theorem Ink.call {w w' : World} {b : Nat} {i : Inp} (h : Ink w b i) (hb : Below w.heap.size w w') : Ink w' b i := h.keep (hb.block b h.lt)
theorem small_plain {os : List Oq} {n s a k f : Int} (h : Small ⟨os, n, s, a, k, f⟩) : rightP ⟨[], n, s, a, k, f⟩ = true := by
  have h1 := (small_new h).1
  unfold rightP at h1 ⊢
  simp only [Bool.and_eq_true] at h1 ⊢
  exact ⟨by decide, h1.2⟩
theorem rows_one (p : Pq) (r : Rs) (i : Inp) : rowsR p r [i] = rowR p r i := by simp [rowsR]
theorem Ink.free {w : World} {b : Nat} {i : Inp} (h : Ink w b i) (j : Nat) : w.frozen? ⟨b, j, none⟩ = false := by unfold Ink at h; simp [World.frozen?, h]
theorem Ink.ev {w : World} {b : Nat} {i : Inp} (h : Ink w b i) (y : Ev) : Ink ((((w.setCell ⟨b, 1, none⟩ (.int .i64 y.t)).setCell ⟨b, 2, none⟩ (.int .i64 y.k)).setCell ⟨b, 3, none⟩ (.int .i64 y.v)).setCell ⟨b, 4, none⟩ (.int .u64 y.l)) b ⟨i.mrk, y⟩ := by
  unfold Ink at *
  simp [World.setCell, Array.getElem?_modify, h]
end Go.Proofs.Ytnamjnopicghhaa
