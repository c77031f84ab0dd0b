/- Steps of a region that draws; the first ones of a row that came in. -/
import Derived.Test.YtldfdgbbfdedkaaSpend
import Derived.Test.YtldfdgbbfdedkaaFrame
namespace Go.Proofs.Ytldfdgbbfdedkaa
open Go.RowKit M
set_option linter.unusedVariables false

/-- The first K of a row that came in. -/
theorem row_len {w : World} {a : Option Addr} {l c : Nat} {zs : List Int} (h : IsInts w a l c zs) (K : Nat) (hK : K ≤ l) :
    (zs.take K).length = K ∧ l ≤ c ∧ c ≤ 9223372036854775807 ∧ (a = none → l = 0 ∧ c = 0) := by
  rcases h with ⟨rfl, rfl, rfl, rfl⟩ | ⟨x, rfl, h1, h2, h3, hc, _⟩
  · obtain rfl : K = 0 := by omega
    exact ⟨rfl, by decide, by decide, fun _ => ⟨rfl, rfl⟩⟩
  · unfold maxLen at h2
    exact ⟨by rw [List.length_take]; omega, h1, by omega, fun h => by cases h⟩
theorem sp_ex (l s f : Int) (zs : List Int) : ∃ p l' s' f', Sp l s f zs p l' s' f' := by
  cases h : okl l zs
  · exact ⟨_, _, _, _, h, .inr ⟨rfl, rfl, rfl, rfl⟩⟩
  · exact ⟨_, _, _, _, h, .inl ⟨rfl, rfl, rfl, rfl⟩⟩
theorem step_at {P : Program} (w : World) {ops : Array Oper} {o : Oper} {a : Act} {K : Act → World → Prop} {Q : Exit → Act → World → Prop} {E : Prop} {d : Nat} (hd : o.dst = some d) (hgd : o.guard = none) (s x : Operand) (t : TypeId)
    (ho : o.op = .call { callee := .builtin .append, args := #[s, x], argTypes := #[t, t] })
    (e : TypeId) (i : TypeInfo) (z : Value) (bytes : Nat) (k : IntKind) (ht : P.underlying t = some (.slice e)) (hi : P.info? e = some i) (hz : i.zero = some z)
    (hsize : i.size = 1) (hby : i.bytes = bytes) (hzs : z.cells.size = 1)
    (ad0 : Addr) (hs : a.eval s = .slice (some ad0) 0 0) (u : Value) (zs : List Int) (hx : a.eval x = u) (hsrc : Src w u zs.length (zs.map (Value.int k)))
    (h63 : zs.length ≤ maxLen) (hbytes : zs.length * bytes ≤ 140737488355328)
    (h : ∀ v' w', Rd k w' v' zs → Src w' v' zs.length (zs.map (Value.int k)) → Below w.heap.size w w' → K (a.put (some d) v') w') :
    if Region.wanted o (yielded ops a.tmps) = true then Oper.wp P o a w K Q else E := by
  refine step_append_fresh w hgd s x t ho e i z bytes k ht hi hz hsize hby hzs ad0 hs u zs hx hsrc h63 hbytes ?_
  rw [hd]
  exact h
theorem len_op {o : Oper} {a : Act} {w : World} (x : Operand) (ao : Option Addr) (n c : Nat) (ho : o.op = .call { callee := .builtin .len, args := #[x], argTypes := #[30] }) (hx : a.eval x = .slice ao n c) :
    (execOp a.eval o).run Try.prog w = .ok (.value (.int .i64 ((n : Nat) : Int))) w := by
  unfold execOp
  simp only [ho, resolve, invoke, builtin, Sem.run_bind, Sem.run_pure, Result.andThen_ok, List.map_toArray, List.map_cons, List.map_nil, hx]
  go_simp
theorem min_op {o : Oper} {a : Act} {w : World} (x : Operand) (n k : Int) (ho : o.op = .call { callee := .builtin .min, args := #[x, .const (.int .i64 5)], argTypes := #[3, 3] }) (hx : a.eval x = .int .i64 n) (hk : n ≤ 5 ∧ k = n ∨ 5 < n ∧ k = 5) (hty : o.type = 3) :
    (execOp a.eval o).run Try.prog w = .ok (.value (.int .i64 k)) w := by
  unfold execOp
  simp only [ho, resolve, invoke, builtin, Sem.run_bind, Sem.run_pure, Result.andThen_ok, List.map_toArray, List.map_cons, List.map_nil, hx, hty]
  rcases hk with ⟨h, rfl⟩ | ⟨h, rfl⟩
  · go_simp
    omega
  · go_simp
theorem slice_op {o : Oper} {a : Act} {w : World} (x y : Operand) (ao : Option Addr) (n c K : Nat) (ho : o.op = .slice 30 x none (some y) none) (hx : a.eval x = .slice ao n c) (hy : a.eval y = .int .i64 ((K : Nat) : Int)) (hK : K ≤ c) (hc : c ≤ 9223372036854775807) (hnil : ao = none → c = 0) :
    (execOp a.eval o).run Try.prog w = .ok (.value (.slice ao K c)) w := by
  unfold execOp
  simp only [ho, Sem.run_bind, Sem.run_pure, Option.map_some, Option.map_none, hx, hy]
  cases ao with
  | none =>
    obtain rfl := hnil rfl
    obtain rfl : K = 0 := by omega
    go_simp
  | some z =>
    have hk : ¬ c < K := by omega
    go_simp
end Go.Proofs.Ytldfdgbbfdedkaa
