/- A set of ints as a map to bools that the call itself makes: what is asked of it, as an operation. -/
import Derived.Test.YthnkhijabfnndaaTurn
import Derived.Test.YthnkhijabfnndaaMathK
import Derived.Maps.Own
import Derived.Maps.OwnOps
import Derived.Maps.Views
namespace Go.Proofs.Ythnkhijabfnndaa
open Go.RowKit M
open Go.Maps (Keyed)
set_option linter.unusedVariables false

theorem plainElem_bool_inv {H : Type} {P : Program} {e : TypeId} (he : P.underlying e = some .bool) {v : Value} {z : DataW H × List MemPlace} (h : plainElem P e v = some z) : ∃ x, v = .bool x ∧ z = (.lit (.bool x), []) := by
  unfold plainElem at h
  rw [he] at h
  cases v <;> simp at h
  subst h
  exact ⟨_, rfl, rfl⟩
/-- 'm[k]' of a map to bools that the call made: the answer given. -/
theorem wpList_lookup_own_bool {H : Type} {P : Program} (w : World) {ops : Array Oper} {rest : List Oper} {o : Oper} {a : Act} {Q : Exit → Act → World → Prop}
    (hg : o.guard = none) (m x : Operand) (t : TypeId) (hop : o.op = Op.lookup t m x false)
    (k e : TypeId) (K : Keyed P k) (ht : P.underlying t = some (.map k e)) (he : P.underlying e = some .bool) (hz : (zeroValue e).run P w = .ok (.bool false) w) (b n : Nat) (D : DataW H)
    (hm : a.eval m = .map (some b)) (hown : w.ownsMap P k (plainElem P e) b n D) (key : Value) (kl : Lit) (hx : a.eval x = key) (hkey : keyOf P k key = some kl) (p : Bool)
    (hp : D.atKey kl (.lit (.bool false)) = .lit (.bool p)) (hK : wpList P ops Q rest (a.put o.dst (.bool p)) w) :
    wpList P ops Q (o :: rest) a w := by
  refine wpList_plain hg fun K' hK' => ?_
  obtain ⟨v, ps, hrun, hv⟩ := hown.lookup K ht hz (plainElem_bool he false) hkey
  obtain ⟨c, rfl, hc⟩ := plainElem_bool_inv he hv
  simp only [Prod.mk.injEq] at hc
  have e : p = c := by
    have h := hp.symm.trans hc.1
    simpa using h
  subst e
  unfold Oper.wp
  simp [execOp, hop, hm, hx, hrun, Result.andThen]
  exact hK' _ _ hK

/-- The set of a list of ints, as it is read. -/
def setB (l : List Int) : DataW Unit := l.foldl (fun D x => D.put (.int .i64 x) (.lit (.bool true))) (.map [])
theorem setB_snoc (l : List Int) (x : Int) : setB (l ++ [x]) = (setB l).put (.int .i64 x) (.lit (.bool true)) := by simp [setB]
theorem setB_isMap : ∀ l : List Int, Maps.IsMap (setB l) := by
  intro l
  have : ∀ (l : List Int) (D : DataW Unit), Maps.IsMap D → Maps.IsMap (l.foldl (fun D x => D.put (.int .i64 x) (.lit (.bool true))) D) := by
    intro l
    induction l with
    | nil => intro D h; exact h
    | cons x r ih => intro D h; exact ih _ (h.put _ _)
  exact this l _ Maps.isMap_empty
theorem setB_at (l : List Int) (k : Int) : (setB l).atKey (.int .i64 k) (.lit (.bool false)) = .lit (.bool (decide (k ∈ l))) := by
  have : ∀ (l : List Int) (D : DataW Unit) (p : Bool), Maps.IsMap D → D.atKey (.int .i64 k) (.lit (.bool false)) = .lit (.bool p) → (l.foldl (fun D x => D.put (.int .i64 x) (.lit (.bool true))) D).atKey (.int .i64 k) (.lit (.bool false)) = .lit (.bool (p || decide (k ∈ l))) := by
    intro l
    induction l with
    | nil => intro D p _ h; simpa using h
    | cons x r ih =>
      intro D p hD h
      rw [List.foldl_cons]
      by_cases e : k = x
      · subst e
        rw [ih _ true (hD.put _ _) (Maps.atKey_put_same hD (show WideAt.IsKeyLit (.int .i64 k) from trivial) _ _)]
        simp
      · rw [ih _ p (hD.put _ _) (by rw [Maps.atKey_put_other (by intro h; injection h with _ h; exact e h)]; exact h)]
        simp [e]
  have h := this l (.map []) false Maps.isMap_empty rfl
  rw [Bool.false_or] at h
  exact h
theorem keyLaw : Keyed Try.prog 3 := Maps.int_keyed Try.underlying3
theorem zeroB (w : World) : (zeroValue 4).run Try.prog w = .ok (.bool false) w := by kernel_rfl
theorem ownsMap_keep {H : Type} {w w' : World} {P : Program} {k : TypeId} {R : Value → Option (DataW H × List MemPlace)} {b n : Nat} {D : DataW H} (h : w.ownsMap P k R b n D) (hb : w'.heap[b]? = w.heap[b]?) : w'.ownsMap P k R b n D := by
  obtain ⟨es, clock, e1, r⟩ := h
  exact ⟨es, clock, hb.trans e1, r⟩
end Go.Proofs.Ythnkhijabfnndaa
