/- What is appended to a list of the call's own: the list behind lies in the block that it lay in, or in a new one. -/
import Derived.Test.YtnamjnopicghhaaRTake
namespace Go.Proofs.Ytnamjnopicghhaa
open Go.RowKit M
set_option linter.unusedVariables false

section
variable {P : Program} (w : World)
theorem append_fresh (sz base : Nat) (t ty e : TypeId) (i : TypeInfo) (z : Value) (bytes : Nat) (ht : P.underlying t = some (.slice e)) (hi : P.info? e = some i) (hz : i.zero = some z)
    (hsize : i.size = sz) (hby : i.bytes = bytes) (hzs : z.cells.size = sz) (hsz : 0 < sz)
    (v : Value) (n : Nat) (xs : List Value) (hown : w.ownsRow base e sz v n xs) (u : Value) (m : Nat) (news : List Value) (hsrc : SrcN sz w u m news) (h1 : ∀ u ∈ news, u.oneCell' = true)
    (h63 : n + m ≤ maxLen) (hbytes : (n + m) * bytes ≤ 140737488355328) (v' : Value) (w' : World) (hr : (Builtin.append_ #[t, t] ty #[v, u]).run P w = .ok v' w') :
    ∀ k, v'.ownBlock = some k → v.ownBlock = some k ∨ w.heap.size ≤ k := by
  intro k hk
  unfold maxLen at h63
  rcases hsrc with ⟨rfl, rfl, rfl⟩ | ⟨ad, c, rfl, hl, hc⟩
  · rw [run_append_owned_none (P := P) (w := w) base t ty e i sz ht hi v n xs hown] at hr
    injection hr with h2 h3
    subst h2
    exact .inl hk
  · have hown' := hown
    obtain ⟨hx, ⟨rfl, rfl⟩ | ⟨g, cap, cur, rfl, h2, hh, h3, h4, h5, h6⟩⟩ := hown
    · by_cases h0 : m = 0
      · subst h0
        obtain ⟨v2, w2, hr2, _, _, hiff⟩ := run_append_own (P := P) w 0 t ty e i z sz bytes ht hi hz hsize hby hzs hsz (.slice none 0 0) 0 [] (World.ownsRow_nil _ _ _ _) ad 0 c news hl hc h1 (by unfold maxLen; omega) (by omega) (Nat.zero_le _)
        rw [hr2] at hr
        injection hr with h2 h3
        rw [hiff.2 ⟨rfl, rfl⟩] at h2
        rw [← h2] at hk
        cases hk
      · rw [run_append_nil (P := P) w t ty e i z ht hi hz ad m c news (by rw [hl, hsize]) hc (by omega) (by omega) (by rw [Nat.zero_add] at hbytes; rw [hby]; omega)] at hr
        injection hr with h2 h3
        rw [← h2] at hk
        simp only [Value.ownBlock, Option.some.injEq] at hk
        exact .inr (by omega)
    · by_cases hroom : n + m ≤ cap
      · rw [run_append_room (P := P) w t ty e i ht hi g n cap cur hh ad m c news (by rw [hl, hsize]) hc h1 hroom (by rw [hsize, hl, h5, ← Nat.add_mul]; exact Nat.mul_le_mul_right _ hroom)] at hr
        injection hr with h7 h8
        rw [← h7] at hk
        simp only [Value.ownBlock, Option.some.injEq] at hk
        exact .inl (by simp only [Value.ownBlock, Option.some.injEq]; exact hk)
      · rw [run_append_grow (P := P) w t ty e i z ht hi hz ⟨g, 0, none⟩ n cap xs (by rw [hx, hsize]) (fun j x hj => by
            have hjl := (List.getElem?_eq_some_iff.1 hj).1
            have := hown'.cellAt j (by omega)
            rw [Addr.add_lit, Nat.zero_add, this, hj]) ad m c news (by rw [hl, hsize]) hc (by omega) (by omega) (by rw [hby]; exact growslice_fits (by omega) hbytes)] at hr
        injection hr with h7 h8
        rw [← h7] at hk
        simp only [Value.ownBlock, Option.some.injEq] at hk
        exact .inr (by omega)
/-- As wpList_append_srcG, and where the list behind lies. -/
theorem wpList_append_srcF {ops : Array Oper} {rest : List Oper} {o : Oper} {a : Act} {Q : Exit → Act → World → Prop} (hw : Region.wanted o (yielded ops a.tmps) = true) (s x : Operand) (t : TypeId)
    (ho : o.op = .call { callee := .builtin .append, args := #[s, x], argTypes := #[t, t] })
    (sz base : Nat) (e : TypeId) (i : TypeInfo) (z : Value) (bytes : Nat) (ht : P.underlying t = some (.slice e)) (hi : P.info? e = some i) (hz : i.zero = some z)
    (hsize : i.size = sz) (hby : i.bytes = bytes) (hzs : z.cells.size = sz) (hsz : 0 < sz)
    (v : Value) (n : Nat) (xs : List Value) (hs : a.eval s = v) (hown : w.ownsRow base e sz v n xs) (u : Value) (m : Nat) (news : List Value) (hx : a.eval x = u) (hsrc : SrcN sz w u m news) (h1 : ∀ u ∈ news, u.oneCell' = true)
    (h63 : n + m ≤ maxLen) (hbytes : (n + m) * bytes ≤ 140737488355328) (hbase : base ≤ w.heap.size)
    (h : ∀ v' w', w'.ownsRow base e sz v' (n + m) (xs ++ news) → Below base w w' → w.grownBy w' v.ownBlock → (∀ k, v'.ownBlock = some k → v.ownBlock = some k ∨ w.heap.size ≤ k) → wpList P ops Q rest (a.put o.dst v') w') : wpList P ops Q (o :: rest) a w :=
  BigFrame.wpList_want hw fun K hK => by
    obtain ⟨v', w', hr, h2, h3, h4⟩ := run_append_srcN (P := P) w sz base t o.type e i z bytes ht hi hz hsize hby hzs hsz v n xs hown u m news hsrc h1 h63 hbytes hbase
    have hf := append_fresh (P := P) w sz base t o.type e i z bytes ht hi hz hsize hby hzs hsz v n xs hown u m news hsrc h1 h63 hbytes v' w' hr
    unfold Oper.wp execOp
    simp only [ho, resolve, invoke, builtin, Sem.run_bind, Sem.run_pure, Result.andThen_ok, List.map_toArray, List.map_cons, List.map_nil, hs, hx, hr]
    exact hK _ _ (h v' w' h2 h3 h4 hf)
end
/-- The same list, where nothing but another one's block has turned. -/
theorem own_grown {w w' : World} {B : Nat} {e : TypeId} {size : Nat} {v : Value} {n : Nat} {xs : List Value} {row : Option Nat} (h : w.ownsRow B e size v n xs) (hg : w.grownBy w' row) (hr : ∀ k, v.ownBlock = some k → row ≠ some k) : w'.ownsRow B e size v n xs := by
  obtain ⟨h1, h | ⟨g, cap, cur, rfl, h2, hh, r⟩⟩ := h
  · exact ⟨h1, .inl h⟩
  · have hlt : g < w.heap.size := (Array.getElem?_eq_some_iff.1 hh).1
    exact ⟨h1, .inr ⟨g, cap, cur, rfl, h2, (hg.block g hlt (fun e => hr g rfl e.symm)).trans hh, r⟩⟩
end Go.Proofs.Ytnamjnopicghhaa
