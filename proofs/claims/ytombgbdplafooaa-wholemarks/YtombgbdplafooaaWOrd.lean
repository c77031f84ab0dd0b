/- Appends and literals where the order of a region is open. -/
import Derived.Test.YtombgbdplafooaaWTwo
import Derived.Deep.QuietTactic
import Derived.BigQuiet
namespace Go.Proofs.Ytombgbdplafooaa
open Go.RowKit M
open O (RdO Kpk Pik Small Ints)
open O.MO (Oq Pq rightP)
set_option linter.unusedVariables false
set_option linter.unusedSimpArgs false

theorem step_append_srcY {P : Program} {w : World} {ops : Array Oper} {o : Oper} {a : Act} {K : Act → World → Prop} {Q : Exit → Act → World → Prop} {E : Prop} {kd : Nat} (hd : o.dst = some kd) (hgd : o.guard = none) (s x : Operand) (t : TypeId)
    (ho : o.op = .call { callee := .builtin .append, args := #[s, x], argTypes := #[t, t] })
    (sz base : Nat) (e : TypeId) (i : TypeInfo) (z : Value) (bytes : Nat) (ht : P.underlying t = some (.slice e)) (hi : P.info? e = some i) (hz : i.zero = some z)
    (hsize : i.size = sz) (hby : i.bytes = bytes) (hzs : z.cells.size = sz) (hsz : 0 < sz)
    (v : Value) (n : Nat) (xs : List Value) (hs : a.eval s = v) (hown : w.ownsRow base e sz v n xs) (u : Value) (m : Nat) (news : List Value) (hx : a.eval x = u) (hsrc : SrcN sz w u m news) (h1 : ∀ u ∈ news, u.oneCell' = true)
    (h63 : n + m ≤ maxLen) (hbytes : (n + m) * bytes ≤ 140737488355328) (hbase : base ≤ w.heap.size)
    (h : ∀ v' w', w'.ownsRow base e sz v' (n + m) (xs ++ news) → Below base w w' → w.grownBy w' v.ownBlock → (∀ k, v'.ownBlock = some k → v.ownBlock = some k ∨ w.heap.size ≤ k) → K (a.put (some kd) v') w') :
    if Region.wanted o (yielded ops a.tmps) = true then Oper.wp P o a w K Q else E := by
  have hw : Region.wanted o (yielded ops a.tmps) = true := by simp [Region.wanted, hgd]
  rw [if_pos hw]
  rw [← hd] at h
  obtain ⟨v', w', hr, h2, h3, h4⟩ := run_append_srcN (P := P) w sz base t o.type e i z bytes ht hi hz hsize hby hzs hsz v n xs hown u m news hsrc h1 h63 hbytes hbase
  have hf := append_fresh (P := P) w sz base t o.type e i z bytes ht hi hz hsize hby hzs hsz v n xs hown u m news hsrc h1 h63 hbytes v' w' hr
  unfold Oper.wp execOp
  simp only [ho, resolve, invoke, builtin, Sem.run_bind, Sem.run_pure, Result.andThen_ok, List.map_toArray, List.map_cons, List.map_nil, hs, hx, hr]
  exact h v' w' h2 h3 h4 hf
section
variable {W : World} {B : Nat} {u v : Value} {n m : Nat} {xs ys : List Value}
theorem own_apart_new {X : World} {B : Nat} {e : TypeId} {sz : Nat} {u : Value} {n : Nat} {xs : List Value} (h : X.ownsRow B e sz u n xs) {c1 c2 : Nat} : ∀ k, u.ownBlock = some k → (Value.slice (some ⟨X.heap.size, 0, none⟩) c1 c2).ownBlock ≠ some k := by
  intro k hk hk2
  have h1 := (h.lt k hk).2
  simp only [Value.ownBlock, Option.some.injEq] at hk2
  omega
theorem two_lit0L (h : Two W B 71 5 u v n m xs ys) (hB : B ≤ W.heap.size) : Two (W.alloc (.cells #[] 71)) B 71 5 (.slice (some ⟨W.heap.size, 0, none⟩) 0 0) v 0 m (ins []) ys :=
  ⟨own_emptyI W B _ hB rfl, h.hv.alloc _, fun k hk hk2 => own_apart_new h.hv k hk2 hk⟩
theorem own_lit1 (W : World) (i : Inp) (hB : B ≤ W.heap.size) : (W.alloc (.cells #[.bool i.mrk, .int .i64 i.e.t, .int .i64 i.e.k, .int .i64 i.e.v, .int .u64 i.e.l] 71)).ownsRow B 71 5 (.slice (some ⟨W.heap.size, 0, none⟩) 1 1) 1 (ins [i]) := by
  have h := World.ownsRow_lit (base := W.heap.size) (e := 71) (size := 5) W (ins [i]).toArray 1 (Nat.le_refl _) (by unfold maxLen; omega) (by rw [List.size_toArray, ins_len]; rfl)
  have h2 : (W.alloc (.cells (ins [i]).toArray 71)).ownsRow W.heap.size 71 5 (.slice (some ⟨W.heap.size, 0, none⟩) 1 1) 1 (ins [i]) := by simpa using h
  exact O.own_base h2 hB
theorem two_lit1R (i : Inp) (h : Two W B 71 5 u v n m xs ys) (hB : B ≤ W.heap.size) : Two (W.alloc (.cells #[.bool i.mrk, .int .i64 i.e.t, .int .i64 i.e.k, .int .i64 i.e.v, .int .u64 i.e.l] 71)) B 71 5 u (.slice (some ⟨W.heap.size, 0, none⟩) 1 1) n 1 xs (ins [i]) :=
  ⟨h.hu.alloc _, own_lit1 W i hB, own_apart_new h.hu⟩
theorem two_lit2R (i k : Inp) (h : Two W B 71 5 u v n m xs ys) (hB : B ≤ W.heap.size) : Two (W.alloc (.cells #[.bool i.mrk, .int .i64 i.e.t, .int .i64 i.e.k, .int .i64 i.e.v, .int .u64 i.e.l, .bool k.mrk, .int .i64 k.e.t, .int .i64 k.e.k, .int .i64 k.e.v, .int .u64 k.e.l] 71)) B 71 5 u (.slice (some ⟨W.heap.size, 0, none⟩) 2 2) n 2 xs (ins [i, k]) := by
  refine ⟨h.hu.alloc _, ?_, own_apart_new h.hu⟩
  have h := World.ownsRow_lit (base := W.heap.size) (e := 71) (size := 5) W (ins [i, k]).toArray 2 (Nat.le_refl _) (by unfold maxLen; omega) (by rw [List.size_toArray, ins_len]; rfl)
  have h2 : (W.alloc (.cells (ins [i, k]).toArray 71)).ownsRow W.heap.size 71 5 (.slice (some ⟨W.heap.size, 0, none⟩) 2 2) 2 (ins [i, k]) := by simpa using h
  exact O.own_base h2 hB
/-- The one alone. -/
theorem two_one (h : W.ownsRow B 71 5 u n xs) : Two W B 71 5 u (.slice none 0 0) n 0 xs [] := ⟨h, World.ownsRow_nil _ _ _ _, fun k hk hk2 => by cases hk2⟩
/-- What is appended stays while another list grows. -/
theorem SrcN.grown {sz : Nat} {w w' : World} {u : Value} {m : Nat} {news : List Value} {row : Option Nat} (h : SrcN sz w u m news) (hg : w.grownBy w' row) (hr : ∀ k, u.ownBlock = some k → row ≠ some k) : SrcN sz w' u m news := by
  rcases h with h | ⟨ad, c, rfl, hl, hc⟩
  · exact .inl h
  · refine .inr ⟨ad, c, rfl, hl, fun j x hj => ?_⟩
    have h1 := hc j x hj
    have hb : (ad.add j).block = ad.block := by unfold Addr.add; split <;> rfl
    have h2 := World.block_lt_of_cell? w _ h1
    rw [hb] at h2
    rw [World.cell?_of_block (w := w) (by rw [hb]; exact hg.block _ h2 (fun e => hr ad.block rfl e.symm))]
    exact h1
end
theorem ins_drop : ∀ (es : List Inp) (i : Nat), ins (es.drop i) = (ins es).drop (i * 5)
  | es, 0 => by simp
  | [], i + 1 => by simp [ins]
  | e :: r, i + 1 => by
    have hc : (inCells e).length = 5 := rfl
    rw [List.drop_succ_cons, ins_drop r i, ins_cons, show (i + 1) * 5 = 5 + i * 5 by omega, ← List.drop_drop, ← hc, List.drop_left]
theorem ins_take : ∀ (es : List Inp) (i : Nat), ins (es.take i) = (ins es).take (i * 5)
  | es, 0 => by simp [ins]
  | [], i + 1 => by simp [ins]
  | e :: r, i + 1 => by
    have hc : (inCells e).length = 5 := rfl
    rw [List.take_succ_cons, ins_cons, ins_take r i, ins_cons, show (i + 1) * 5 = (inCells e).length + i * 5 by rw [hc]; omega, List.take_length_add_append]
/-- A part of a list of the call's own, as what is appended. -/
theorem src_part {w : World} {B g n cap : Nat} {es : List Inp} (h : w.ownsRow B 71 5 (.slice (some ⟨g, 0, none⟩) n cap) n (ins es)) (i off k c : Nat) (hi : i + k ≤ es.length) (hoff : k ≠ 0 → off = i * 5) : SrcN 5 w (.slice (some ⟨g, off, none⟩) k c) k (ins ((es.drop i).take k)) := by
  have hl : ((es.drop i).take k).length = k := by rw [List.length_take, List.length_drop]; omega
  have hn : n = es.length := by have := h.1; rw [ins_len] at this; omega
  refine .inr ⟨⟨g, off, none⟩, c, rfl, by rw [ins_len, hl], fun j x hj => ?_⟩
  have hj5 : j < k * 5 := by
    have := (List.getElem?_eq_some_iff.1 hj).1
    rw [ins_len, hl] at this; exact this
  have ho := hoff (by omega)
  subst ho
  rw [ins_take, ins_drop, List.getElem?_take, if_pos hj5, List.getElem?_drop] at hj
  have e : (⟨g, i * 5, none⟩ : Addr).add j = ⟨g, i * 5 + j, none⟩ := by simp [Addr.add]
  rw [e, h.cellAt (i * 5 + j) (by omega)]
  exact hj
end Go.Proofs.Ytombgbdplafooaa
