/- One event put; a slice of events that came in, read one by one. -/
import Derived.Test.YthnkhijabfnndaaSrc
import Derived.Test.YthnkhijabfnndaaRuns
import Derived.Test.YthnkhijabfnndaaMathC
namespace Go.Proofs.Ythnkhijabfnndaa
open Go.RowKit M
set_option linter.unusedVariables false
set_option linter.unusedSimpArgs false
attribute [local go_sem ↓] Go.wp_at_zero Go.wp_at_succ

theorem row_at {w : World} {a : Option Addr} {len cap : Nat} {es : List Ev} (h : IsRowE w a len cap es) : len ≤ 9223372036854775807 ∧ ∃ qb es', es'.length = len ∧ (∀ j, j < len → (eAt es' j).l < 18446744073709551616) ∧ ∀ j, j < len → ∃ off, a = some ⟨qb, off, none⟩ ∧ qb < w.heap.size ∧ EvAt w qb (off + j * 4) (eAt es' j) := by
  obtain ⟨qb, es', hl, h1, h2, ao, cap', he, _, _, hc⟩ := row_rde h
  injection he with ea _ _
  subst ea
  rw [hl] at h1 hc
  refine ⟨h1, qb, es', hl, fun j hj => h2 _ (eAt_mem es' j (by omega)), fun j hj => ?_⟩
  obtain ⟨off, e1, e2, e3⟩ := hc (by omega)
  exact ⟨off, e1, e2, e3 j hj⟩
/-- Put of one event that is written out. -/
theorem put_one (b o : Nat) (n sl K : Int) (L : List Pn) (e : Ev) (w : World) (hP : Pan w b o n sl K L) (hle : e.l < 18446744073709551616) (hl : L.length + 8 ≤ 1000000) :
    Calls Try.prog 10 #[.pointer (some ⟨b, 0, none⟩), .slice (some ⟨w.heap.size, 0, none⟩) 1 1] (w.alloc (.cells #[.int .i64 e.t, .int .i64 e.k, .int .i64 e.v, .int .u64 e.l] 27)) fun r w' => ∃ o', r = .returned (.tuple #[]) ∧ Pan w' b o' n sl K (putE n sl K L e) ∧ (o' = o ∨ w.heap.size < o') ∧ Ch b o w w' := by
  have hb := hP.lt
  have ho := hP.olt
  refine (put_is b o n sl K L _ w.heap.size [e] _ (hP.below (below_alloc _ _)) (rde_lit w [e] (by simp) (by intro y hy; rw [List.mem_singleton.1 hy]; exact hle)) (by omega) (by omega) (by simp; omega)).mono ?_
  rintro r w' ⟨o', rfl, h1, h2, h3⟩
  refine ⟨o', rfl, h1, ?_, ?_⟩
  · simp at h2; omega
  · exact (Ch.ofBelow (below_alloc w _)).trans h3 (.inl rfl)
theorem own_mono {w : World} {base base' : Nat} {e : TypeId} {size : Nat} {v : Value} {n : Nat} {xs : List Value} (h : w.ownsRow base' e size v n xs) (hb : base ≤ base') : w.ownsRow base e size v n xs := by
  obtain ⟨h1, h | ⟨g, cap, cur, rfl, h2, r⟩⟩ := h
  · exact ⟨h1, .inl h⟩
  · exact ⟨h1, .inr ⟨g, cap, cur, rfl, Nat.le_trans hb h2, r⟩⟩
theorem own_rows {w : World} {base G N : Nat} {u : Value} {L : List Pn} (h : w.ownsRow base 33 5 u N (rcs L)) (hb : G ≤ base) : w.ownsRow G 33 5 u L.length (rcs L) := by
  have := rows_own h
  rw [← this]
  exact own_mono h hb
theorem Ch.sz {b o : Nat} {w w' : World} (h : Ch b o w w') : w.heap.size ≤ w'.heap.size := h.size
theorem evk_set (w : World) (a b c d : Value) (e : Ev) (h : [a, b, c, d] = evCells e) : Evk (w.alloc (.cells #[a, b, c, d] 27)) w.heap.size e := by
  show (w.heap.push _)[w.heap.size]? = _
  rw [← h]; simp
end Go.Proofs.Ythnkhijabfnndaa
