/- A map keyed by pairs of ints that the call itself makes: what is asked of it. -/
import Derived.Test.YtombgbdplafooaaMathT
import Derived.Test.YtombgbdplafooaaFrame
import Derived.Maps.Own
import Derived.Maps.OwnOps
import Derived.Maps.Views
import Derived.WideKeyPair
namespace Go.Proofs.Ytombgbdplafooaa
open Go.RowKit M
open Go.Maps (Keyed)
set_option linter.unusedVariables false

theorem arr81 : Go.WideMaps.ArrKey Try.prog 81 3 2 := ⟨Try.underlying81, by kernel_rfl, Try.cells3, by kernel_rfl⟩
theorem keyLaw81 : Keyed Try.prog 81 := Keyed.of_law arr81.law
theorem size81 : ∃ m, Try.prog.types.size = m + 1 := ⟨Try.prog.types.size - 1, by kernel_rfl⟩
def kl (s k : Int) : Lit := .string (keyBytes [.int .i64 s, .int .i64 k])
def In64 (x : Int × Int) : Prop := (Lit.int .i64 x.1).wf = true ∧ (Lit.int .i64 x.2).wf = true
theorem key81 (s k : Int) (h : In64 (s, k)) : keyOf Try.prog 81 (.agg #[.int .i64 s, .int .i64 k]) = some (kl s k) := Go.WideMaps.keyOf_pair arr81 Try.underlying3 size81 h.1 h.2
theorem kl_inj {s k s' k' : Int} (h : In64 (s, k)) (h' : In64 (s', k')) (e : kl s k = kl s' k') : s = s' ∧ k = k' := by
  have h1 := key81 s k h
  have h2 := key81 s' k' h'
  rw [e] at h1
  have h3 := keyLaw81.inj h1 h2
  simpa using h3
theorem zeroB (w : World) : (zeroValue 4).run Try.prog w = .ok (.bool false) w := by kernel_rfl
theorem plainElem_bool_inv {H : Type} {P : Program} {e : TypeId} (he : P.underlying e = some .bool) {v : Value} {z : DataW H × List MemPlace} (h : plainElem P e v = some z) : ∃ x, v = .bool x ∧ z = (.lit (.bool x), []) := by
  unfold plainElem at h
  rw [he] at h
  cases v <;> simp at h
  subst h
  exact ⟨_, rfl, rfl⟩
/-- The set of a list of pairs, as it is read. -/
def setP (l : List (Int × Int)) : DataW Unit := l.foldl (fun D x => D.put (kl x.1 x.2) (.lit (.bool true))) (.map [])
theorem setP_snoc (l : List (Int × Int)) (s k : Int) : setP (l ++ [(s, k)]) = (setP l).put (kl s k) (.lit (.bool true)) := by simp [setP]
theorem setP_no (l : List (Int × Int)) (s k : Int) (hn : (s, k) ∉ l) (hl : ∀ x ∈ l, In64 x) (h : In64 (s, k)) : (setP l).atKey (kl s k) (.lit (.bool false)) = .lit (.bool false) := by
  have : ∀ (l : List (Int × Int)) (D : DataW Unit), (s, k) ∉ l → (∀ x ∈ l, In64 x) → D.atKey (kl s k) (.lit (.bool false)) = .lit (.bool false) → (l.foldl (fun D x => D.put (kl x.1 x.2) (.lit (.bool true))) D).atKey (kl s k) (.lit (.bool false)) = .lit (.bool false) := by
    intro l
    induction l with
    | nil => intro D _ _ h; exact h
    | cons x r ih =>
      intro D hn hl hD
      rw [List.foldl_cons]
      refine ih _ (fun hm => hn (List.mem_cons_of_mem _ hm)) (fun y hy => hl y (List.mem_cons_of_mem _ hy)) ?_
      rw [Maps.atKey_put_other (by
        intro e
        obtain ⟨e1, e2⟩ := kl_inj (s := s) (k := k) h (hl x (by simp)) e
        exact hn (by rw [e1, e2]; exact List.mem_cons_self ..))]
      exact hD
  exact this l (.map []) hn hl rfl
/-- 'm[k]' in a region, as the one operation that may come up. -/
theorem wp_lookup_bool {w : World} {o : Oper} {a : Act} {K : Act → World → Prop} {Q : Exit → Act → World → Prop}
    {kd : Nat} (hd : o.dst = some kd) (m x : Operand) (hop : o.op = Op.lookup 80 m x false) (b n : Nat) (D : DataW Unit) (hm : a.eval m = .map (some b)) (hown : w.ownsMap Try.prog 81 (plainElem Try.prog 4) b n D) (key : Value) (l : Lit) (hx : a.eval x = key) (hkey : keyOf Try.prog 81 key = some l) (p : Bool)
    (hp : D.atKey l (.lit (.bool false)) = .lit (.bool p)) (hK : K (a.put (some kd) (.bool p)) w) : o.wp Try.prog a w K Q := by
  rw [← hd] at hK
  obtain ⟨v, ps, hrun, hv⟩ := hown.lookup keyLaw81 Try.underlying80 (zeroB w) (plainElem_bool Try.underlying4 false) hkey
  obtain ⟨c, rfl, hc⟩ := plainElem_bool_inv Try.underlying4 hv
  simp only [Prod.mk.injEq] at hc
  have e : p = c := by
    have h := hp.symm.trans hc.1
    simpa using h
  subst e
  unfold Oper.wp
  simp [execOp, hop, hm, hx, hrun, Result.andThen]
  exact hK
theorem ownsMap_keep {H : Type} {w w' : World} {P : Program} {k : TypeId} {R : Value → Option (DataW H × List MemPlace)} {b n : Nat} {D : DataW H} (h : w.ownsMap P k R b n D) (hb : w'.heap[b]? = w.heap[b]?) : w'.ownsMap P k R b n D := by
  obtain ⟨es, clock, e1, r⟩ := h
  exact ⟨es, clock, hb.trans e1, r⟩
theorem in64_row {q : Pn} (h : (0 ≤ q.s ∧ q.s ≤ 1099511627776) ∧ (0 ≤ q.k ∧ q.k ≤ 255)) : In64 (q.s, q.k) := by
  constructor
  · simp only [Lit.wf, IntKind.min, IntKind.max, IntKind.signed, IntKind.bits, Bool.and_eq_true, decide_eq_true_eq, if_true]; omega
  · simp only [Lit.wf, IntKind.min, IntKind.max, IntKind.signed, IntKind.bits, Bool.and_eq_true, decide_eq_true_eq, if_true]; omega
theorem pair_cells {w : World} {b : Nat} {x y : Value} (h : w.heap[b]? = some (.cells #[x, y] 81 (0, 0))) : w.cell? ⟨b, 0, none⟩ = some x ∧ w.cell? ⟨b, 1, none⟩ = some y := ⟨by simp [World.cell?, h], by simp [World.cell?, h]⟩
end Go.Proofs.Ytombgbdplafooaa
