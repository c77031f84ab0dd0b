/- Rows behind a list of rows of the call's own, as a thing. -/
import Derived.Test.YtnamjnopicghhaaLawAll
namespace Go.Proofs.Ytnamjnopicghhaa
open Go.RowKit M
open O.MO (Oq Pq rightP)
set_option linter.unusedVariables false
set_option linter.unusedSimpArgs false

theorem wpList_append_rows {W0 w : World} {us : List Th} {ops : Array Oper} {rest : List Oper} {o : Oper} {a : Act} {Q : Exit → Act → World → Prop} (hw : Region.wanted o (yielded ops a.tmps) = true) (s x : Operand)
    (ho : o.op = .call { callee := .builtin .append, args := #[s, x], argTypes := #[34, 34] })
    (v : Value) (R : List Pn) (hs : a.eval s = v) (hS : St W0 w (rwl v R :: us)) (u : Value) (R2 : List Pn) (hx : a.eval x = u) (hR2 : w.ownsRow 0 39 5 u R2.length (rcs R2))
    (hl : R.length + R2.length ≤ 1000000) (R3 : List Pn) (n : Nat) (h3 : R ++ R2 = R3) (hn : R3.length = n)
    (h : ∀ a1 x1 w', St W0 w' (rwl (.slice a1 n x1) R3 :: us) → wpList Try.prog ops Q rest (a.put o.dst (.slice a1 n x1)) w') : wpList Try.prog ops Q (o :: rest) a w := by
  subst h3 hn
  obtain ⟨i0, hi, hz0, hz1, hz2⟩ := info_parts Try.info39
  refine wpList_append_srcF w hw s x 34 ho 5 0 39 i0 rzero 40 Try.underlying34 hi hz0 hz1 hz2 rfl (by decide) v R.length (rcs R) hs hS.rw u R2.length (rcs R2) hx (srcN_own hR2) (rcs_one _) (by unfold maxLen; omega) (by omega) (by omega) ?_
  intro v' w' hq _ hg hf
  have hq' : w'.ownsRow 0 39 5 v' (R ++ R2).length (rcs (R ++ R2)) := by rw [rcs_append, List.length_append]; exact hq
  obtain ⟨a1, x1, rfl⟩ := own_len' hq'
  exact h a1 x1 w' (hS.growr hq' hg hf)
theorem ints_at {w w' : World} {a : Option Addr} {l c : Nat} (h : O.Ints w a l c) (hb : Below w.heap.size w w') (k : Nat) (hk : k < l) : ∃ b off n, a = some ⟨b, off, none⟩ ∧ w'.cell? ⟨b, off + k, none⟩ = some (.int .i64 n) := by
  obtain ⟨b, off, n, e, hl, hc⟩ := h.2.2.2 k hk
  exact ⟨b, off, n, e, (hb.cell (p := ⟨b, off + k, none⟩) hl).trans hc⟩
end Go.Proofs.Ytnamjnopicghhaa
