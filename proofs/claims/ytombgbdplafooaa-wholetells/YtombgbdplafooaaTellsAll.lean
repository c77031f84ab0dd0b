/- WholeTells: for every input the Go function WholeTells of the landed commit's statements returns true and leaves its arguments as they were. Conditions: none but the row's own. -/
import Derived.Test.YtombgbdplafooaaWHelp
import Derived.Test.YtombgbdplafooaaRApp
import Derived.Deep.QuietTactic
import Derived.BigQuiet
import Derived.OneCell
import Derived.Test.YtombgbdplafooaaRIns
import Derived.Laws.CopyOwn
import Derived.Test.YtombgbdplafooaaOPipe
import Derived.Test.YtombgbdplafooaaFrame
import Derived.Deep.SlicePairs
import Derived.Test.YtombgbdplafooaaORef
import Derived.Test.YtombgbdplafooaaRefTake
import Derived.WalkKit
import Derived.ProofKit
import Derived.OpenShut
import Derived.ShutString
import Derived.ChangeOld
import Derived.Below
/- Two lists of the call's own that grow side by side. -/
namespace Go.Proofs.Ytombgbdplafooaa
open Go.RowKit M
open O (RdO Kpk Pik Small Ints)
open O.MO (Oq Pq rightP)
set_option linter.unusedVariables false
set_option linter.unusedSimpArgs false

structure Two (W : World) (B : Nat) (e : TypeId) (sz : Nat) (u v : Value) (n m : Nat) (xs ys : List Value) : Prop where
  hu : W.ownsRow B e sz u n xs
  hv : W.ownsRow B e sz v m ys
  ne : ∀ k, u.ownBlock = some k → v.ownBlock ≠ some k
section
variable {W W' : World} {B : Nat} {e : TypeId} {sz : Nat} {u v u' v' : Value} {n m n' m' : Nat} {xs ys xs' ys' : List Value}
theorem two_nil (W : World) (B : Nat) (e : TypeId) (sz : Nat) : Two W B e sz (.slice none 0 0) (.slice none 0 0) 0 0 [] [] := ⟨World.ownsRow_nil _ _ _ _, World.ownsRow_nil _ _ _ _, fun k hk => by cases hk⟩
theorem Two.below (h : Two W B e sz u v n m xs ys) (hb : Below W.heap.size W W') : Two W' B e sz u v n m xs ys := ⟨own_below h.hu hb, own_below h.hv hb, h.ne⟩
theorem Two.alloc (h : Two W B e sz u v n m xs ys) (o : Obj) : Two (W.alloc o) B e sz u v n m xs ys := h.below (below_alloc _ _)
theorem Two.left (h : Two W B e sz u v n m xs ys) (hu : W'.ownsRow B e sz u' n' xs') (hg : W.grownBy W' u.ownBlock) (hf : ∀ k, u'.ownBlock = some k → u.ownBlock = some k ∨ W.heap.size ≤ k) : Two W' B e sz u' v n' m xs' ys := by
  refine ⟨hu, own_grown h.hv hg (fun k hk hk2 => h.ne k hk2 hk), fun k hk hk2 => ?_⟩
  rcases hf k hk with h1 | h1
  · exact h.ne k h1 hk2
  · have := (h.hv.lt k hk2).2; omega
theorem Two.right (h : Two W B e sz u v n m xs ys) (hv : W'.ownsRow B e sz v' m' ys') (hg : W.grownBy W' v.ownBlock) (hf : ∀ k, v'.ownBlock = some k → v.ownBlock = some k ∨ W.heap.size ≤ k) : Two W' B e sz u v' n m' xs ys' := by
  refine ⟨own_grown h.hu hg (fun k hk hk2 => h.ne k hk hk2), hv, fun k hk hk2 => ?_⟩
  rcases hf k hk2 with h1 | h1
  · exact h.ne k hk h1
  · have := (h.hu.lt k hk).2; omega
end
section
variable {w0 W W' : World} {g0 gp : Nat} {u : Value} {p : Pq} {qi : Nat} {iv : Value} {is : List Inp}
/-- The inputs' block is there. -/
theorem WE.some (h : WE w0 W g0 gp u p qi iv is) : ∃ q', WE w0 W g0 gp u p q' iv is ∧ q' < W.heap.size := by
  by_cases hn : is.length = 0
  · obtain ⟨h1, h2, ao, cap, rfl, h3, h4, hc⟩ := h.I
    exact ⟨gp, ⟨h.P, h.O, ⟨h1, h2, ao, cap, rfl, h3, h4, fun h => absurd hn h⟩, h.B, h.hg, h.hp, by have := h.hp; omega⟩, h.hp⟩
  · obtain ⟨h1, h2, ao, cap, rfl, h3, h4, hc⟩ := h.I
    obtain ⟨off, _, hq, _⟩ := hc hn
    exact ⟨qi, h, hq⟩
end
/-- What one step of a filter adds. -/
theorem filt_step (f : Inp → Bool) (is : List Inp) (j : Nat) (h : j < is.length) : (is.take (j + 1)).filter f = (is.take j).filter f ++ (if f (iAt is j) = true then [iAt is j] else []) := by
  rw [take_in is j h, List.filter_append]
  cases hf : f (iAt is j) <;> simp [hf]
theorem rowsP_step (P : Int → Bool) (L : List Pn) (j : Nat) (h : j < L.length) : rowsP P (L.take (j + 1)) = rowsP P (L.take j) ++ (if P (pAt L j).k = true then [pAt L j] else []) := by
  rw [take_snocP L j h, rowsP_append]
  cases hf : P (pAt L j).k <;> simp [rowsP, hf]
theorem filt_len (f : Inp → Bool) (is : List Inp) (j : Nat) : ((is.take j).filter f).length ≤ j := by
  have h := List.length_filter_le f (is.take j)
  rw [List.length_take] at h; omega
theorem rowsP_len (P : Int → Bool) (L : List Pn) (j : Nat) : (rowsP P (L.take j)).length ≤ j := by
  have h := List.length_filter_le (fun p : Pn => P p.k) (L.take j)
  rw [List.length_take] at h; unfold rowsP; omega
end Go.Proofs.Ytombgbdplafooaa
/- Appends and literals where the order of a region is open. -/
namespace Go.Proofs.Ytombgbdplafooaa
open Go.RowKit M
open O (RdO Kpk Pik Small Ints)
open O.MO (Oq Pq rightP)
set_option linter.unusedVariables false
set_option linter.unusedSimpArgs false

theorem step_append_srcY {P : Program} {w : World} {ops : Array Oper} {o : Oper} {a : Act} {K : Act → World → Prop} {Q : Exit → Act → World → Prop} {E : Prop} {kd : Nat} (hd : o.dst = some kd) (hgd : o.guard = none) (s x : Operand) (t : TypeId)
    (ho : o.op = .call { callee := .builtin .append, args := #[s, x], argTypes := #[t, t] })
    (sz base : Nat) (e : TypeId) (i : TypeInfo) (z : Value) (bytes : Nat) (ht : P.underlying t = some (.slice e)) (hi : P.info? e = some i) (hz : i.zero = some z)
    (hsize : i.size = sz) (hby : i.bytes = bytes) (hzs : z.cells.size = sz) (hsz : 0 < sz)
    (v : Value) (n : Nat) (xs : List Value) (hs : a.eval s = v) (hown : w.ownsRow base e sz v n xs) (u : Value) (m : Nat) (news : List Value) (hx : a.eval x = u) (hsrc : SrcN sz w u m news) (h1 : ∀ u ∈ news, u.oneCell' = true)
    (h63 : n + m ≤ maxLen) (hbytes : (n + m) * bytes ≤ 140737488355328) (hbase : base ≤ w.heap.size)
    (h : ∀ v' w', w'.ownsRow base e sz v' (n + m) (xs ++ news) → Below base w w' → w.grownBy w' v.ownBlock → (∀ k, v'.ownBlock = some k → v.ownBlock = some k ∨ w.heap.size ≤ k) → K (a.put (some kd) v') w') :
    if Region.wanted o (yielded ops a.tmps) = true then Oper.wp P o a w K Q else E := by
  have hw : Region.wanted o (yielded ops a.tmps) = true := by simp [Region.wanted, hgd]
  rw [if_pos hw]
  rw [← hd] at h
  obtain ⟨v', w', hr, h2, h3, h4⟩ := run_append_srcN (P := P) w sz base t o.type e i z bytes ht hi hz hsize hby hzs hsz v n xs hown u m news hsrc h1 h63 hbytes hbase
  have hf := append_fresh (P := P) w sz base t o.type e i z bytes ht hi hz hsize hby hzs hsz v n xs hown u m news hsrc h1 h63 hbytes v' w' hr
  unfold Oper.wp execOp
  simp only [ho, resolve, invoke, builtin, Sem.run_bind, Sem.run_pure, Result.andThen_ok, List.map_toArray, List.map_cons, List.map_nil, hs, hx, hr]
  exact h v' w' h2 h3 h4 hf
section
variable {W : World} {B : Nat} {u v : Value} {n m : Nat} {xs ys : List Value}
theorem own_apart_new {X : World} {B : Nat} {e : TypeId} {sz : Nat} {u : Value} {n : Nat} {xs : List Value} (h : X.ownsRow B e sz u n xs) {c1 c2 : Nat} : ∀ k, u.ownBlock = some k → (Value.slice (some ⟨X.heap.size, 0, none⟩) c1 c2).ownBlock ≠ some k := by
  intro k hk hk2
  have h1 := (h.lt k hk).2
  simp only [Value.ownBlock, Option.some.injEq] at hk2
  omega
theorem two_lit0L (h : Two W B 71 5 u v n m xs ys) (hB : B ≤ W.heap.size) : Two (W.alloc (.cells #[] 71)) B 71 5 (.slice (some ⟨W.heap.size, 0, none⟩) 0 0) v 0 m (ins []) ys :=
  ⟨own_emptyI W B _ hB rfl, h.hv.alloc _, fun k hk hk2 => own_apart_new h.hv k hk2 hk⟩
theorem own_lit1 (W : World) (i : Inp) (hB : B ≤ W.heap.size) : (W.alloc (.cells #[.bool i.mrk, .int .i64 i.e.t, .int .i64 i.e.k, .int .i64 i.e.v, .int .u64 i.e.l] 71)).ownsRow B 71 5 (.slice (some ⟨W.heap.size, 0, none⟩) 1 1) 1 (ins [i]) := by
  have h := World.ownsRow_lit (base := W.heap.size) (e := 71) (size := 5) W (ins [i]).toArray 1 (Nat.le_refl _) (by unfold maxLen; omega) (by rw [List.size_toArray, ins_len]; rfl)
  have h2 : (W.alloc (.cells (ins [i]).toArray 71)).ownsRow W.heap.size 71 5 (.slice (some ⟨W.heap.size, 0, none⟩) 1 1) 1 (ins [i]) := by simpa using h
  exact O.own_base h2 hB
theorem two_lit1R (i : Inp) (h : Two W B 71 5 u v n m xs ys) (hB : B ≤ W.heap.size) : Two (W.alloc (.cells #[.bool i.mrk, .int .i64 i.e.t, .int .i64 i.e.k, .int .i64 i.e.v, .int .u64 i.e.l] 71)) B 71 5 u (.slice (some ⟨W.heap.size, 0, none⟩) 1 1) n 1 xs (ins [i]) :=
  ⟨h.hu.alloc _, own_lit1 W i hB, own_apart_new h.hu⟩
theorem two_lit2R (i k : Inp) (h : Two W B 71 5 u v n m xs ys) (hB : B ≤ W.heap.size) : Two (W.alloc (.cells #[.bool i.mrk, .int .i64 i.e.t, .int .i64 i.e.k, .int .i64 i.e.v, .int .u64 i.e.l, .bool k.mrk, .int .i64 k.e.t, .int .i64 k.e.k, .int .i64 k.e.v, .int .u64 k.e.l] 71)) B 71 5 u (.slice (some ⟨W.heap.size, 0, none⟩) 2 2) n 2 xs (ins [i, k]) := by
  refine ⟨h.hu.alloc _, ?_, own_apart_new h.hu⟩
  have h := World.ownsRow_lit (base := W.heap.size) (e := 71) (size := 5) W (ins [i, k]).toArray 2 (Nat.le_refl _) (by unfold maxLen; omega) (by rw [List.size_toArray, ins_len]; rfl)
  have h2 : (W.alloc (.cells (ins [i, k]).toArray 71)).ownsRow W.heap.size 71 5 (.slice (some ⟨W.heap.size, 0, none⟩) 2 2) 2 (ins [i, k]) := by simpa using h
  exact O.own_base h2 hB
/-- The one alone. -/
theorem two_one (h : W.ownsRow B 71 5 u n xs) : Two W B 71 5 u (.slice none 0 0) n 0 xs [] := ⟨h, World.ownsRow_nil _ _ _ _, fun k hk hk2 => by cases hk2⟩
/-- What is appended stays while another list grows. -/
theorem SrcN.grown {sz : Nat} {w w' : World} {u : Value} {m : Nat} {news : List Value} {row : Option Nat} (h : SrcN sz w u m news) (hg : w.grownBy w' row) (hr : ∀ k, u.ownBlock = some k → row ≠ some k) : SrcN sz w' u m news := by
  rcases h with h | ⟨ad, c, rfl, hl, hc⟩
  · exact .inl h
  · refine .inr ⟨ad, c, rfl, hl, fun j x hj => ?_⟩
    have h1 := hc j x hj
    have hb : (ad.add j).block = ad.block := by unfold Addr.add; split <;> rfl
    have h2 := World.block_lt_of_cell? w _ h1
    rw [hb] at h2
    rw [World.cell?_of_block (w := w) (by rw [hb]; exact hg.block _ h2 (fun e => hr ad.block rfl e.symm))]
    exact h1
end
theorem ins_drop : ∀ (es : List Inp) (i : Nat), ins (es.drop i) = (ins es).drop (i * 5)
  | es, 0 => by simp
  | [], i + 1 => by simp [ins]
  | e :: r, i + 1 => by
    have hc : (inCells e).length = 5 := rfl
    rw [List.drop_succ_cons, ins_drop r i, ins_cons, show (i + 1) * 5 = 5 + i * 5 by omega, ← List.drop_drop, ← hc, List.drop_left]
theorem ins_take : ∀ (es : List Inp) (i : Nat), ins (es.take i) = (ins es).take (i * 5)
  | es, 0 => by simp [ins]
  | [], i + 1 => by simp [ins]
  | e :: r, i + 1 => by
    have hc : (inCells e).length = 5 := rfl
    rw [List.take_succ_cons, ins_cons, ins_take r i, ins_cons, show (i + 1) * 5 = (inCells e).length + i * 5 by rw [hc]; omega, List.take_length_add_append]
/-- A part of a list of the call's own, as what is appended. -/
theorem src_part {w : World} {B g n cap : Nat} {es : List Inp} (h : w.ownsRow B 71 5 (.slice (some ⟨g, 0, none⟩) n cap) n (ins es)) (i off k c : Nat) (hi : i + k ≤ es.length) (hoff : k ≠ 0 → off = i * 5) : SrcN 5 w (.slice (some ⟨g, off, none⟩) k c) k (ins ((es.drop i).take k)) := by
  have hl : ((es.drop i).take k).length = k := by rw [List.length_take, List.length_drop]; omega
  have hn : n = es.length := by have := h.1; rw [ins_len] at this; omega
  refine .inr ⟨⟨g, off, none⟩, c, rfl, by rw [ins_len, hl], fun j x hj => ?_⟩
  have hj5 : j < k * 5 := by
    have := (List.getElem?_eq_some_iff.1 hj).1
    rw [ins_len, hl] at this; exact this
  have ho := hoff (by omega)
  subst ho
  rw [ins_take, ins_drop, List.getElem?_take, if_pos hj5, List.getElem?_drop] at hj
  have e : (⟨g, i * 5, none⟩ : Addr).add j = ⟨g, i * 5 + j, none⟩ := by simp [Addr.add]
  rw [e, h.cellAt (i * 5 + j) (by omega)]
  exact hj
end Go.Proofs.Ytombgbdplafooaa
/- Two lists of the call's own that inputs are put behind, beside the pipe and a block with an input. -/
namespace Go.Proofs.Ytombgbdplafooaa
open Go.RowKit M
open O (RdO Kpk Pik Small Ints)
open O.MO (Oq Pq rightP)
set_option linter.unusedVariables false
set_option linter.unusedSimpArgs false

theorem Ink.set1 {w : World} {b : Nat} {i : Inp} (h : Ink w b i) (y : Int) : Ink (w.setCell ⟨b, 1, none⟩ (.int .i64 y)) b ⟨i.mrk, ⟨y, i.e.k, i.e.v, i.e.l⟩⟩ := by
  unfold Ink at *
  simp [World.setCell, Array.getElem?_modify, h]
structure MR (w0 X : World) (g0 gp gi B : Nat) (U : Value) (p : Pq) (qi : Nat) (iv : Value) (is : List Inp) (x : Inp) (u v : Value) (ms ps : List Inp) : Prop where
  T : Two X B 71 5 u v ms.length ps.length (ins ms) (ins ps)
  E : WE w0 X g0 gp U p qi iv is
  K : Ink X gi x
  zB : B ≤ gi
  z : gi < X.heap.size
  hu : ∀ k, u.ownBlock = some k → k ≠ gi
  hv : ∀ k, v.ownBlock = some k → k ≠ gi
  gB : gp < B
  qB : qi < B
  UB : ∀ k, U.ownBlock = some k → k < B
section
variable {w0 X X' : World} {g0 gp gi B : Nat} {U : Value} {p : Pq} {qi : Nat} {iv : Value} {is : List Inp} {x : Inp} {u v u' v' : Value} {ms ps ns : List Inp} {n' : Nat} {xs' : List Value}
theorem MR.held (h : MR w0 X g0 gp gi B U p qi iv is x u v ms ps) : Ink X gi x ∧ Pik X gp U p.n p.s p.a p.k p.f := ⟨h.K, h.E.P⟩
theorem MR.call (h : MR w0 X g0 gp gi B U p qi iv is x u v ms ps) (hb : Below X.heap.size X X') : MR w0 X' g0 gp gi B U p qi iv is x u v ms ps :=
  ⟨h.T.below hb, h.E.call hb, h.K.call hb, h.zB, Nat.lt_of_lt_of_le h.z hb.size, h.hu, h.hv, h.gB, h.qB, h.UB⟩
theorem MR.alloc (h : MR w0 X g0 gp gi B U p qi iv is x u v ms ps) (o : Obj) : MR w0 (X.alloc o) g0 gp gi B U p qi iv is x u v ms ps := h.call (below_alloc _ _)
theorem MR.left (h : MR w0 X g0 gp gi B U p qi iv is x u v ms ps) (ho : X'.ownsRow B 71 5 u' (ms.length + ns.length) (ins ms ++ ins ns)) (hb : Below B X X') (hg : X.grownBy X' u.ownBlock) (hf : ∀ k, u'.ownBlock = some k → u.ownBlock = some k ∨ X.heap.size ≤ k) : MR w0 X' g0 gp gi B U p qi iv is x u' v (ms ++ ns) ps := by
  have hz := h.z
  have hzB := h.zB
  refine ⟨h.T.left (by rw [ins_append, List.length_append]; exact ho) hg hf, h.E.keep hb hb.size h.gB h.UB h.qB (by omega), h.K.keep (hg.block gi hz (fun e => h.hu gi e.symm rfl)), h.zB, Nat.lt_of_lt_of_le hz hb.size, fun k hk => ?_, h.hv, h.gB, h.qB, h.UB⟩
  rcases hf k hk with h1 | h1
  · exact h.hu k h1
  · omega
theorem MR.right (h : MR w0 X g0 gp gi B U p qi iv is x u v ms ps) (ho : X'.ownsRow B 71 5 v' (ps.length + ns.length) (ins ps ++ ins ns)) (hb : Below B X X') (hg : X.grownBy X' v.ownBlock) (hf : ∀ k, v'.ownBlock = some k → v.ownBlock = some k ∨ X.heap.size ≤ k) : MR w0 X' g0 gp gi B U p qi iv is x u v' ms (ps ++ ns) := by
  have hz := h.z
  have hzB := h.zB
  refine ⟨h.T.right (by rw [ins_append, List.length_append]; exact ho) hg hf, h.E.keep hb hb.size h.gB h.UB h.qB (by omega), h.K.keep (hg.block gi hz (fun e => h.hv gi e.symm rfl)), h.zB, Nat.lt_of_lt_of_le hz hb.size, h.hu, fun k hk => ?_, h.gB, h.qB, h.UB⟩
  rcases hf k hk with h1 | h1
  · exact h.hv k h1
  · omega
/-- A literal of one input, told apart from the first list. -/
theorem MR.lit (h : MR w0 X g0 gp gi B U p qi iv is x u v ms ps) : (∀ k, (Value.slice (some ⟨X.heap.size, 0, none⟩) 1 1).ownBlock = some k → u.ownBlock ≠ some k) ∧ (∀ k, (Value.slice (some ⟨X.heap.size, 0, none⟩) 1 1).ownBlock = some k → v.ownBlock ≠ some k) :=
  ⟨fun k hk hk2 => own_apart_new h.T.hu k hk2 hk, fun k hk hk2 => own_apart_new h.T.hv k hk2 hk⟩
/-- The input's time turned. -/
theorem MR.time (h : MR w0 X g0 gp gi B U p qi iv is x u v ms ps) (y : Int) : MR w0 (X.setCell ⟨gi, 1, none⟩ (.int .i64 y)) g0 gp gi B U p qi iv is ⟨x.mrk, ⟨y, x.e.k, x.e.v, x.e.l⟩⟩ u v ms ps := by
  have hzB := h.zB
  have hz := h.z
  have hb : Below gi X (X.setCell ⟨gi, 1, none⟩ (.int .i64 y)) := (Below.refl gi X).setCell (show gi ≤ (⟨gi, 1, none⟩ : Addr).block from Nat.le_refl gi) _
  have hs : (X.setCell ⟨gi, 1, none⟩ (.int .i64 y)).heap.size = X.heap.size := by simp [World.setCell]
  refine ⟨⟨ownsRow_setCell_other h.T.hu (fun e => h.hu gi e rfl) _, ownsRow_setCell_other h.T.hv (fun e => h.hv gi e rfl) _, h.T.ne⟩, h.E.keep hb hb.size (Nat.lt_of_lt_of_le h.gB hzB) (fun k hk => Nat.lt_of_lt_of_le (h.UB k hk) hzB) (Nat.lt_of_lt_of_le h.qB hzB) (by omega), Ink.set1 h.K y, h.zB, by rw [hs]; exact hz, h.hu, h.hv, h.gB, h.qB, h.UB⟩
end
end Go.Proofs.Ytombgbdplafooaa
/- cordonbook.Same of inputs that are the same. -/
namespace Go.Proofs.Ytombgbdplafooaa
open Go.RowKit M
set_option linter.unusedVariables false
set_option linter.unusedSimpArgs false
attribute [local go_sem ↓] Go.wp_at_zero Go.wp_at_succ
set_option maxHeartbeats 1000000 in
set_option maxRecDepth 100000 in
theorem same_i (v1 v2 : Value) (q1 q2 : Nat) (L : List Inp) (w : World) (h1 : RdI w v1 q1 L) (h2 : RdI w v2 q2 L) :
    Calls Try.prog 66 #[v1, v2] w fun e w' => e = .returned (.bool true) ∧ Below w.heap.size w w' := by
  obtain ⟨hl1, _, ao, cap, rfl, _, _, hc0⟩ := h1
  obtain ⟨_, _, ao2, cap2, rfl, _, _, hc2⟩ := h2
  have hc' : Hid (L.length ≠ 0 → ∃ off, ao = some ⟨q1, off, none⟩ ∧ q1 < w.heap.size ∧ ∀ j, j < L.length → InAt w q1 (off + j * 5) (iAt L j)) := hc0
  have hd' : Hid (L.length ≠ 0 → ∃ off, ao2 = some ⟨q2, off, none⟩ ∧ q2 < w.heap.size ∧ ∀ j, j < L.length → InAt w q2 (off + j * 5) (iAt L j)) := hc2
  clear hc0 hc2
  obtain ⟨m, hm⟩ : ∃ m, Hid (L.length = m) := ⟨_, rfl⟩
  rw [hm.out] at hc' hd' hl1 ⊢
  go_enter Try.func66, Try.ntmps66
  go_wp2_with fail
  go_loopw [5] (fun i wr => ∃ k n : Nat, k ≤ m ∧ i = .int .i64 k ∧ wr = w.drewN n) (fun i _ => m - (intOf i).toNat)
  case atStart => exact ⟨0, 0, Nat.zero_le _, rfl, rfl⟩
  case round =>
    obtain ⟨k, n, hk, rfl, rfl⟩ := hrel
    by_cases hlt : k < m
    · obtain ⟨off, rfl, _, hc⟩ := hc'.out (by omega)
      obtain ⟨off2, rfl, _, hd⟩ := hd'.out (by omega)
      obtain ⟨p0, p1, p2, p3, p4⟩ := hc k hlt
      obtain ⟨r0, r1, r2, r3, r4⟩ := hd k hlt
      clear hc hd hc' hd'
      obtain ⟨⟨x1, ⟨x2, x3, x4, x5⟩⟩, hee⟩ : ∃ x, iAt L k = x := ⟨_, rfl⟩
      rw [hee] at p0 p1 p2 p3 p4 r0 r1 r2 r3 r4
      clear hee
      simp only at p0 p1 p2 p3 p4 r0 r1 r2 r3 r4
      go_wp2_with fail
      go_quiet (fail)
      go_wp2_with fail
      go_roundw
      case rel => exact ⟨k + 1, n + nq, by omega, by go_num, rfl⟩
      case measure => simp [intOf]; omega
    · go_wp2_with fail
      go_ret
      exact ⟨rfl, below_drewN (Below.refl _ _) _⟩
end Go.Proofs.Ytombgbdplafooaa
/- A copy between two slices whose elements have several cells, the target a row that is known whole: as a law for the walk. -/
namespace Go.Proofs.Ytombgbdplafooaa.O
open Go.RowKit MO
open Go.Proofs.Ytombgbdplafooaa.M (rightB most right_of right_no' right_iff right_mk)
set_option linter.unusedVariables false
set_option linter.unusedSimpArgs false
attribute [local go_sem ↓] Go.wp_at_zero Go.wp_at_succ

section
variable {P : Program}
theorem run_copy_rows (w : World) (dT sT ty elem : TypeId) (g o dLen dCap : Nat) (a : Addr) (sLen sCap : Nat) (cur : Array Value) (t : TypeId) (cs : List Value) (sz m : Nat)
    (hu : P.underlying dT = some (.slice elem)) (hs : (P.info? elem).map (·.size) = some sz)
    (hg : w.heap[g]? = some (.cells cur t (0, 0))) (hm : Nat.min sLen dLen = m) (hn : cs.length = m * sz)
    (hsrc : ∀ j v, cs[j]? = some v → w.cell? (a.add j) = some v) (hfit : o + cs.length ≤ cur.size) (h1 : ∀ v ∈ cs, v.oneCell' = true) :
    (Builtin.copy_ #[dT, sT] ty #[.slice (some ⟨g, o, none⟩) dLen dCap, .slice (some a) sLen sCap]).run P w =
      .ok (goInt m) (w.setRow g (cur.toList.take o ++ cs ++ cur.toList.drop (o + cs.length)).toArray) := by
  have hl := run_loadCells_list (P := P) w a cs hsrc
  have hst := run_storeCells_at P g o t cs 0 cur w hg (by simpa using hfit) h1
  cases hq : P.info? elem with
  | none => simp [hq] at hs
  | some i =>
    have hi : i.size = sz := by simpa [hq] using hs
    rw [hn] at hl
    simp [Builtin.copy_, run_underlying hu, Builtin.lenOf, Builtin.firstCells, sizeOf, typeInfo, hq, hi, hm, hl, hst]
theorem run_copy_nought (w : World) (dT sT ty elem : TypeId) (d a : Option Addr) (dLen dCap sLen sCap sz : Nat) (hu : P.underlying dT = some (.slice elem)) (hs : (P.info? elem).map (·.size) = some sz) (hn : Nat.min sLen dLen = 0) :
    (Builtin.copy_ #[dT, sT] ty #[.slice d dLen dCap, .slice a sLen sCap]).run P w = .ok (goInt 0) w := by
  cases hq : P.info? elem with
  | none => simp [hq] at hs
  | some i =>
    have hl : ∀ (x : Addr), (loadCells x 0).run P w = .ok #[] w := fun x => by simpa using run_loadCells_list (P := P) w x [] (by simp)
    cases d <;> cases a <;> simp [Builtin.copy_, run_underlying hu, Builtin.lenOf, Builtin.firstCells, sizeOf, typeInfo, hq, hn, storeCells, hl]
theorem wpList_copy_rows {w : World} {ops : Array Oper} {rest : List Oper} {o : Oper} {a : Act} {Q : Exit → Act → World → Prop} (hgd : o.guard = none) (d s : Operand) (dT sT : TypeId)
    (ho : o.op = .call { callee := .builtin .copy, args := #[d, s], argTypes := #[dT, sT] }) (elem : TypeId) (sz : Nat) (hu : P.underlying dT = some (.slice elem)) (hsz : (P.info? elem).map (·.size) = some sz)
    (dp sp : Option Addr) (dLen dCap sLen sCap : Nat) (hd : a.eval d = .slice dp dLen dCap) (hs : a.eval s = .slice sp sLen sCap)
    (g off : Nat) (cur : List Value) (t : TypeId) (hg : w.heap[g]? = some (.cells cur.toArray t (0, 0))) (cs : List Value) (m : Nat) (hm : Nat.min sLen dLen = m) (hn : cs.length = m * sz)
    (hpos : 0 < m → dp = some ⟨g, off, none⟩ ∧ ∃ ad, sp = some ad ∧ ∀ j v, cs[j]? = some v → w.cell? (ad.add j) = some v)
    (hfit : off + cs.length ≤ cur.length) (h1 : ∀ v ∈ cs, v.oneCell' = true) (B : Nat) (w0 : World) (hb : Below B w0 w) (hBg : B ≤ g)
    (h : ∀ w', Hid (w'.heap[g]? = some (.cells (splice cur off cs).toArray t (0, 0))) → Below B w0 w' → wpList P ops Q rest (a.put o.dst (goInt m)) w') :
    wpList P ops Q (o :: rest) a w := by
  refine wpList_plain hgd fun K hK => ?_
  by_cases h0 : m = 0
  · subst h0
    obtain rfl : cs = [] := List.eq_nil_of_length_eq_zero (by simpa using hn)
    have hrun := run_copy_nought (P := P) w dT sT o.type elem dp sp dLen dCap sLen sCap sz hu hsz hm
    unfold Oper.wp
    simp [execOp, ho, resolve, invoke, builtin, hd, hs, hrun, Result.andThen]
    exact hK _ _ (h w (show _ = _ by simpa [splice] using hg) hb)
  · obtain ⟨rfl, ad, rfl, hsrc⟩ := hpos (by omega)
    have hrun := run_copy_rows (P := P) w dT sT o.type elem g off dLen dCap ad sLen sCap cur.toArray t cs sz m hu hsz hg hm hn hsrc (by simpa using hfit) h1
    unfold Oper.wp
    simp [execOp, ho, resolve, invoke, builtin, hd, hs, hrun, Result.andThen]
    refine hK _ _ (h _ (show _ = _ by simpa [splice] using setRow_heap w g _ _ t _ hg) (below_setRow hb hBg _))
end
end Go.Proofs.Ytombgbdplafooaa.O
/- What cordonbook.Roomy and cordonbook.Intact do with a list of inputs. -/
namespace Go.Proofs.Ytombgbdplafooaa
open Go.RowKit M
set_option linter.unusedVariables false
set_option linter.unusedSimpArgs false
attribute [local go_sem ↓] Go.wp_at_zero Go.wp_at_succ

abbrev zeroI : Inp := ⟨false, ⟨0, 0, 0, 0⟩⟩
theorem Try.size71 : (Try.prog.info? 71).map (·.size) = some 5 := by kernel_rfl
def roomyI (zs : List Inp) (mark : Inp) (k : Nat) : List Inp := zs ++ List.replicate k mark ++ List.replicate (80 - k) zeroI
theorem roomy_lenI (zs : List Inp) (mark : Inp) (k : Nat) (h : k ≤ 80) : (roomyI zs mark k).length = zs.length + 80 := by simp [roomyI]; omega
theorem roomy_setI (zs : List Inp) (mark : Inp) (k : Nat) (h : k < 80) :
    (((((ins (roomyI zs mark k)).set ((zs.length + k) * 5) (.bool mark.mrk)).set ((zs.length + k) * 5 + 1) (.int .i64 mark.e.t)).set ((zs.length + k) * 5 + 2) (.int .i64 mark.e.k)).set ((zs.length + k) * 5 + 3) (.int .i64 mark.e.v)).set ((zs.length + k) * 5 + 4) (.int .u64 mark.e.l) = ins (roomyI zs mark (k + 1)) := by
  unfold roomyI
  obtain ⟨r, hr⟩ : ∃ r, 80 - k = r + 1 := ⟨80 - k - 1, by omega⟩
  have hr' : 80 - (k + 1) = r := by omega
  rw [hr, hr', List.replicate_succ, ins_append, List.replicate_succ' (n := k)]
  have hl : (ins (zs ++ List.replicate k mark)).length = (zs.length + k) * 5 := by rw [ins_len]; simp
  have e1 : ins (zeroI :: List.replicate r zeroI) = .bool false :: .int .i64 0 :: .int .i64 0 :: .int .i64 0 :: .int .u64 0 :: ins (List.replicate r zeroI) := rfl
  rw [e1, List.set_append_right _ _ (by omega), hl, Nat.sub_self, List.set_cons_zero, List.set_append_right _ _ (by omega), hl, Nat.add_sub_cancel_left, List.set_cons_succ, List.set_cons_zero,
    List.set_append_right _ _ (by omega), hl, Nat.add_sub_cancel_left, List.set_cons_succ, List.set_cons_succ, List.set_cons_zero,
    List.set_append_right _ _ (by omega), hl, Nat.add_sub_cancel_left, List.set_cons_succ, List.set_cons_succ, List.set_cons_succ, List.set_cons_zero,
    List.set_append_right _ _ (by omega), hl, Nat.add_sub_cancel_left, List.set_cons_succ, List.set_cons_succ, List.set_cons_succ, List.set_cons_succ, List.set_cons_zero]
  simp only [← List.append_assoc, ins_append]
  simp only [List.append_assoc]
  rfl
theorem roomy_endI (zs : List Inp) (mark : Inp) : roomyI zs mark 80 = zs ++ List.replicate 80 mark := by simp [roomyI]
theorem rep_atI (zs : List Inp) (mark : Inp) (N k : Nat) (h : k < N) : iAt (zs ++ List.replicate N mark) (zs.length + k) = mark := by
  unfold iAt
  rw [List.getD_eq_getElem?_getD, List.getElem?_append_right (by omega), Nat.add_sub_cancel_left, List.getElem?_replicate, if_pos h]
  rfl
theorem pre_atI (zs ys : List Inp) (k : Nat) (h : k < zs.length) : iAt (zs ++ ys) k = iAt zs k := by
  unfold iAt
  rw [List.getD_eq_getElem?_getD, List.getD_eq_getElem?_getD, List.getElem?_append_left h]
theorem madeI (n : Nat) : (madeCells #[Value.bool false, .int .i64 0, .int .i64 0, .int .i64 0, .int .u64 0] (n * 5)).toList = ins (List.replicate n zeroI) := by
  apply List.ext_getElem?
  intro j
  by_cases hj : j < n * 5
  · have e : j = j / 5 * 5 + j % 5 := by omega
    have hq : j / 5 < n := by omega
    have hr : j % 5 < 5 := Nat.mod_lt _ (by decide)
    have hz := ins_at (List.replicate n zeroI) (j / 5) (j % 5) hr (by simpa using hq)
    rw [← e] at hz
    have hi : iAt (List.replicate n zeroI) (j / 5) = zeroI := by
      have := rep_atI [] zeroI n (j / 5) hq
      simpa using this
    rw [hz, hi]
    have h5 : j % 5 = 0 ∨ j % 5 = 1 ∨ j % 5 = 2 ∨ j % 5 = 3 ∨ j % 5 = 4 := by omega
    rcases h5 with h5 | h5 | h5 | h5 | h5 <;> simp [madeCells, hj, h5, inCells]
  · have hl : (ins (List.replicate n zeroI)).length = n * 5 := by rw [ins_len]; simp
    have h2 : (ins (List.replicate n zeroI))[j]? = none := List.getElem?_eq_none (by rw [hl]; omega)
    rw [h2]
    simp [madeCells, hj]
theorem spliceI (zs : List Inp) (m : Inp) : splice (ins (List.replicate (zs.length + 80) zeroI)) 0 (ins zs) = ins (roomyI zs m 0) := by
  unfold splice roomyI
  rw [List.take_zero, List.nil_append, Nat.zero_add, ins_len, ← ins_drop, List.drop_replicate, show zs.length + 80 - zs.length = 80 by omega, List.replicate_zero, List.append_nil, ins_append]
theorem ins_some {is : List Inp} {j : Nat} {u : Value} (h : (ins is)[j]? = some u) : j / 5 < is.length ∧ (inCells (iAt is (j / 5)))[j % 5]? = some u := by
  have hl := (List.getElem?_eq_some_iff.1 h).1
  rw [ins_len] at hl
  have h1 : j / 5 < is.length := by omega
  have h2 := ins_at is (j / 5) (j % 5) (Nat.mod_lt _ (by decide)) h1
  rw [show j / 5 * 5 + j % 5 = j by omega] at h2
  exact ⟨h1, h2.symm.trans h⟩
set_option maxHeartbeats 2000000 in
set_option maxRecDepth 100000 in
theorem roomy_i (v : Value) (qb : Nat) (zs : List Inp) (mark : Inp) (w : World) (hv : RdI w v qb zs) (hl : zs.length ≤ 60) :
    Calls Try.prog 42 #[v, .agg #[.bool mark.mrk, .int .i64 mark.e.t, .int .i64 mark.e.k, .int .i64 mark.e.v, .int .u64 mark.e.l]] w fun e w' => ∃ u, e = .returned u ∧ w'.ownsRow w.heap.size 71 5 u (zs ++ List.replicate 80 mark).length (ins (zs ++ List.replicate 80 mark)) ∧ Below w.heap.size w w' := by
  obtain ⟨i0, hi, hz0, hz1, hz2⟩ := info_parts Try.info71
  obtain ⟨_, _, ao, cap, rfl, _, _, hc⟩ := hv
  have hc' : Hid (zs.length ≠ 0 → ∃ off, ao = some ⟨qb, off, none⟩ ∧ qb < w.heap.size ∧ ∀ j, j < zs.length → InAt w qb (off + j * 5) (iAt zs j)) := hc
  clear hc
  obtain ⟨n, hn⟩ : ∃ n, n = zs.length := ⟨_, rfl⟩
  have hl' : n ≤ 60 := by omega
  have hn' : Hid (n = zs.length) := hn
  rw [← hn]
  clear hn hl
  obtain ⟨mk, ⟨mt, my, mv, ml⟩⟩ := mark
  go_enter Try.func42, Try.ntmps42
  go_upto_region 1 with fail
  refine world_gen (fun W => Ink W w.heap.size ⟨mk, ⟨mt, my, mv, ml⟩⟩ ∧ w.heap.size < W.heap.size ∧ Below w.heap.size w W) ⟨ink_new w ⟨mk, ⟨mt, my, mv, ml⟩⟩, by simp, below_alloc _ _⟩ ?_
  rintro W0 ⟨k0, hlt0, h0⟩
  obtain ⟨g, hg⟩ : ∃ g, Hid (w.heap.size = g) := ⟨_, rfl⟩
  rw [hg.out] at k0 ⊢
  go_upto_region 2 with (at_make; refine wpList_make_full _ rfl _ _ 55 rfl W0.heap.size 71 i0 izero 5 Try.underlying55 hi hz0 hz1 _ _ _ _ (n + 80) rfl rfl (by omega) (by omega) (by rw [hz2]; omega) (by unfold maxLen; omega) (Nat.le_refl _) ?_; intro w0 hown0 hgrow0)
  have hb0 : Below W0.heap.size W0 w0 := (Below.refl _ _).grown hgrow0 (Nat.le_refl _) (fun k hk => by cases hk)
  go_wp2_with (refine O.wpList_copy_rows rfl _ _ 55 55 rfl 71 5 Try.underlying55 Try.size71 _ _ _ _ _ _ rfl rfl W0.heap.size 0 (ins (List.replicate (n + 80) zeroI)) 71 ?g1 (ins zs) n ?gm ?g2 ?g3 ?g4 (ins_one zs) W0.heap.size W0 hb0 (Nat.le_refl _) ?_)
  case g1 =>
    obtain ⟨_, h | ⟨g, cap', cur, hvv, _, hh, _, _, hs, ht⟩⟩ := hown0
    · cases h.1
    · cases hvv
      rw [hh]
      congr 2
      have e1 : cur.toList = ins (List.replicate (n + 80) zeroI) := by
        rw [List.take_of_length_le (by simp; omega)] at ht
        rw [ht]; exact madeI (n + 80)
      rw [← e1]
  case gm => simp only [Nat.min_def]; split <;> omega
  case g2 => rw [ins_len, ← hn'.out]
  case g3 =>
    intro hpos
    obtain ⟨off, rfl, hblt, hcell⟩ := hc'.out (by have := hn'.out; omega)
    refine ⟨_, rfl, fun j u hj => ?_⟩
    obtain ⟨q1, q2⟩ := ins_some hj
    have hb1 : Below w.heap.size w w0 := below_call h0 hb0
    obtain ⟨c0, c1, c2, c3, c4⟩ := (hcell (j / 5) q1).keep (hb1.block qb hblt)
    have ha : (⟨qb, off, none⟩ : Addr).add j = ⟨qb, off + (j / 5) * 5 + j % 5, none⟩ := by
      have e2 : off + j / 5 * 5 + j % 5 = off + j := by omega
      rw [e2]; simp [Addr.add]
    rw [ha]
    have h5 : j % 5 = 0 ∨ j % 5 = 1 ∨ j % 5 = 2 ∨ j % 5 = 3 ∨ j % 5 = 4 := by omega
    rcases h5 with h5 | h5 | h5 | h5 | h5 <;> rw [h5] at q2 ⊢ <;> simp [inCells] at q2 <;> subst q2 <;> assumption
  case g4 => rw [ins_len, ← hn'.out, ins_len]; simp; omega
  intro w1 hg1 hb1
  have hown1 : w1.ownsRow W0.heap.size 71 5 (.slice (some ⟨W0.heap.size, 0, none⟩) (n + 80) (n + 80)) (n + 80) (ins (roomyI zs ⟨mk, ⟨mt, my, mv, ml⟩⟩ 0)) := by
    have h := hg1.out
    rw [hn'.out, spliceI zs ⟨mk, ⟨mt, my, mv, ml⟩⟩] at h
    have hlen : (ins (roomyI zs ⟨mk, ⟨mt, my, mv, ml⟩⟩ 0)).length = (n + 80) * 5 := by rw [ins_len, roomy_lenI _ _ _ (by decide), ← hn'.out]
    refine ⟨by rw [hlen], .inr ⟨W0.heap.size, n + 80, _, rfl, Nat.le_refl _, h, Nat.le_refl _, by unfold maxLen; omega, by simpa using hlen, ?_⟩⟩
    rw [List.take_of_length_le (by simp [hlen])]
  have k1 := k0.call hb1
  clear hg1 hown0 hgrow0 hb0 k0
  have r0 : W0.heap.size ≠ g := by have := hg.out; omega
  go_wp2_with fail
  go_loopw [6] (fun i wr => ∃ k : Nat, k ≤ 80 ∧ i = .int .i64 ((n + k : Nat) : Int) ∧ wr.ownsRow W0.heap.size 71 5 (.slice (some ⟨W0.heap.size, 0, none⟩) (n + 80) (n + 80)) (n + 80) (ins (roomyI zs ⟨mk, ⟨mt, my, mv, ml⟩⟩ k)) ∧ Ink wr g ⟨mk, ⟨mt, my, mv, ml⟩⟩ ∧ Below W0.heap.size W0 wr) (fun i _ => n + 80 - (intOf i).toNat)
  case atStart => exact ⟨0, by decide, by go_num, hown1, k1, hb1⟩
  case round =>
    obtain ⟨k, hk, rfl, hown, ko, hbw⟩ := hrel
    clear hown1 hb1 k1
    by_cases hlt : k < 80
    · have hlen : (ins (roomyI zs ⟨mk, ⟨mt, my, mv, ml⟩⟩ k)).length = (n + 80) * 5 := by rw [ins_len, roomy_lenI _ _ _ hk, ← hn'.out]
      have hcx : ∀ r, r < 5 → ∃ c, wr.cell? ⟨W0.heap.size, (n + k) * 5 + r, none⟩ = some c := fun r hr => by
        have := hown.cellAt ((n + k) * 5 + r) (by omega)
        rw [this]
        exact ⟨_, List.getElem?_eq_getElem (by omega)⟩
      obtain ⟨c0, hc0⟩ : ∃ c, wr.cell? ⟨W0.heap.size, (n + k) * 5, none⟩ = some c := hcx 0 (by decide)
      obtain ⟨c1, hc1⟩ := hcx 1 (by decide)
      obtain ⟨c2, hc2⟩ := hcx 2 (by decide)
      obtain ⟨c3, hc3⟩ := hcx 3 (by decide)
      obtain ⟨c4, hc4⟩ := hcx 4 (by decide)
      have hf := hown.frozenAt ((n + k) * 5)
      have hf1 := hown.frozenAt ((n + k) * 5 + 1)
      have hf2 := hown.frozenAt ((n + k) * 5 + 2)
      have hf3 := hown.frozenAt ((n + k) * 5 + 3)
      have hf4 := hown.frozenAt ((n + k) * 5 + 4)
      have hst := ((((hown.stored ((n + k) * 5) (.bool mk)).1.stored ((n + k) * 5 + 1) (.int .i64 mt)).1.stored ((n + k) * 5 + 2) (.int .i64 my)).1.stored ((n + k) * 5 + 3) (.int .i64 mv)).1.stored ((n + k) * 5 + 4) (.int .u64 ml)
      have hset := roomy_setI zs ⟨mk, ⟨mt, my, mv, ml⟩⟩ k hlt
      rw [← hn'.out] at hset
      have hst' : Hid ((((((wr.setCell ⟨W0.heap.size, (n + k) * 5, none⟩ (.bool mk)).setCell ⟨W0.heap.size, (n + k) * 5 + 1, none⟩ (.int .i64 mt)).setCell ⟨W0.heap.size, (n + k) * 5 + 2, none⟩ (.int .i64 my)).setCell ⟨W0.heap.size, (n + k) * 5 + 3, none⟩ (.int .i64 mv)).setCell ⟨W0.heap.size, (n + k) * 5 + 4, none⟩ (.int .u64 ml)).ownsRow W0.heap.size 71 5 (.slice (some ⟨W0.heap.size, 0, none⟩) (n + 80) (n + 80)) (n + 80) (ins (roomyI zs ⟨mk, ⟨mt, my, mv, ml⟩⟩ (k + 1))) ∧
          Ink (((((wr.setCell ⟨W0.heap.size, (n + k) * 5, none⟩ (.bool mk)).setCell ⟨W0.heap.size, (n + k) * 5 + 1, none⟩ (.int .i64 mt)).setCell ⟨W0.heap.size, (n + k) * 5 + 2, none⟩ (.int .i64 my)).setCell ⟨W0.heap.size, (n + k) * 5 + 3, none⟩ (.int .i64 mv)).setCell ⟨W0.heap.size, (n + k) * 5 + 4, none⟩ (.int .u64 ml)) g ⟨mk, ⟨mt, my, mv, ml⟩⟩ ∧
          Below W0.heap.size W0 (((((wr.setCell ⟨W0.heap.size, (n + k) * 5, none⟩ (.bool mk)).setCell ⟨W0.heap.size, (n + k) * 5 + 1, none⟩ (.int .i64 mt)).setCell ⟨W0.heap.size, (n + k) * 5 + 2, none⟩ (.int .i64 my)).setCell ⟨W0.heap.size, (n + k) * 5 + 3, none⟩ (.int .i64 mv)).setCell ⟨W0.heap.size, (n + k) * 5 + 4, none⟩ (.int .u64 ml))) := by
        refine ⟨?_, ?_, ((((hbw.setCell (p := ⟨W0.heap.size, (n + k) * 5, none⟩) (Nat.le_refl _) _).setCell (p := ⟨W0.heap.size, (n + k) * 5 + 1, none⟩) (Nat.le_refl _) _).setCell (p := ⟨W0.heap.size, (n + k) * 5 + 2, none⟩) (Nat.le_refl _) _).setCell (p := ⟨W0.heap.size, (n + k) * 5 + 3, none⟩) (Nat.le_refl _) _).setCell (p := ⟨W0.heap.size, (n + k) * 5 + 4, none⟩) (Nat.le_refl _) _⟩
        · have := hst.1
          simp only at hset
          rw [hset] at this; exact this
        · unfold Ink at ko ⊢
          rw [Below.heap_setCell _ _ _ _ (Ne.symm r0), Below.heap_setCell _ _ _ _ (Ne.symm r0), Below.heap_setCell _ _ _ _ (Ne.symm r0), Below.heap_setCell _ _ _ _ (Ne.symm r0), Below.heap_setCell _ _ _ _ (Ne.symm r0)]; exact ko
      clear hst hset hown hcx hlen
      obtain ⟨m0, m1, m2, m3, m4⟩ := ko.c
      simp only [Nat.zero_add] at m0 m1 m2 m3 m4
      go_wp2
      go_roundw
      case rel => exact ⟨k + 1, by omega, by go_num, hst'.out.1, hst'.out.2.1, hst'.out.2.2⟩
      case measure => simp [intOf]; omega
    · have : k = 80 := by omega
      subst this
      go_wp2
      go_ret
      refine ⟨_, rfl, ?_, below_call h0 hbw⟩
      rw [← roomy_endI, roomy_lenI _ _ _ (by decide), ← hn'.out]
      obtain ⟨q1, q | ⟨g1, cp, cur, q2, q3, q4⟩⟩ := hown
      · exact ⟨q1, .inl q⟩
      · exact ⟨q1, .inr ⟨g1, cp, cur, q2, Nat.le_trans (Nat.le_of_lt hlt0) q3, q4⟩⟩
set_option maxHeartbeats 2000000 in
set_option maxRecDepth 100000 in
theorem intact_i (vf vw : Value) (qf qw : Nat) (zs : List Inp) (mark : Inp) (w : World) (hf : RdI w vf qf (zs ++ List.replicate 80 mark)) (hv : RdI w vw qw zs) (hl : zs.length ≤ 60) :
    Calls Try.prog 45 #[vf, vw, .agg #[.bool mark.mrk, .int .i64 mark.e.t, .int .i64 mark.e.k, .int .i64 mark.e.v, .int .u64 mark.e.l]] w fun e w' => e = .returned (.bool true) ∧ Below w.heap.size w w' := by
  obtain ⟨mk, ⟨mt, my, mv, ml⟩⟩ := mark
  obtain ⟨_, hfl, af, capf, rfl, hcf, hcm0, hf⟩ := hf
  obtain ⟨off, rfl, hblt, hcell⟩ := hf (by simp)
  have hv2 := hv
  obtain ⟨_, hvl, aw, capw, rfl, _, _, _⟩ := hv
  have e1 : (zs ++ List.replicate 80 (⟨mk, ⟨mt, my, mv, ml⟩⟩ : Inp)).length = zs.length + 80 := by simp
  rw [e1] at hcf hcell ⊢
  have hrd : Hid (RdI w (.slice (some ⟨qf, off, none⟩) zs.length capf) qf zs) := by
    refine ⟨by omega, hvl, _, capf, rfl, by omega, hcm0, fun _ => ⟨off, rfl, hblt, fun j hj => ?_⟩⟩
    have := hcell j (by omega)
    rw [pre_atI zs _ j hj] at this; exact this
  have hcm : Hid (∀ k, k < 80 → InAt w qf (off + (zs.length + k) * 5) ⟨mk, ⟨mt, my, mv, ml⟩⟩) := by
    intro k hk
    have := hcell (zs.length + k) (by omega)
    rw [rep_atI zs ⟨mk, ⟨mt, my, mv, ml⟩⟩ 80 k hk] at this; exact this
  have hv3 : Hid (RdI w (.slice aw zs.length capw) qw zs) := hv2
  clear hcell hf hv2 hfl hvl
  obtain ⟨n, hn⟩ : ∃ n, n = zs.length := ⟨_, rfl⟩
  have hn' : Hid (n = zs.length) := hn
  rw [← hn] at hcf hl hrd hcm hv3 ⊢
  clear hn e1
  go_enter Try.func45, Try.ntmps45
  go_upto_region 1 with fail
  refine world_gen (fun W => Ink W w.heap.size ⟨mk, ⟨mt, my, mv, ml⟩⟩ ∧ Below w.heap.size w W) ⟨ink_new w ⟨mk, ⟨mt, my, mv, ml⟩⟩, below_alloc _ _⟩ ?_
  rintro W0 ⟨k0, h0⟩
  have hrd0 : Hid (RdI W0 _ qf zs) := hrd.out.below h0
  have hv0 : Hid (RdI W0 _ qw zs) := hv3.out.below h0
  clear hrd hv3
  obtain ⟨g, hg⟩ : ∃ g, Hid (w.heap.size = g) := ⟨_, rfl⟩
  rw [hg.out] at k0 ⊢
  go_wp2_with fail
  refine (same_i _ _ qf qw zs _ hrd0.out hv0.out).mono ?_
  rintro e w2 ⟨rfl, b2⟩
  have h2 := below_call h0 b2
  have k2 := k0.call b2
  clear b2 h0 k0 hrd0 hv0
  go_wp2_with fail
  go_loopw [7] (fun i wr => ∃ k : Nat, k ≤ 80 ∧ i = .int .i64 ((n + k : Nat) : Int) ∧ Ink wr g ⟨mk, ⟨mt, my, mv, ml⟩⟩ ∧ Below w.heap.size w wr) (fun i _ => n + 80 - (intOf i).toNat)
  case atStart => exact ⟨0, by decide, by go_num, k2, h2⟩
  case round =>
    obtain ⟨k, hk, rfl, ko, hbw⟩ := hrel
    clear k2 h2
    by_cases hlt : k < 80
    · obtain ⟨p0, p1, p2, p3, p4⟩ := (hcm.out k hlt).keep (hbw.block qf hblt)
      obtain ⟨m0, m1, m2, m3, m4⟩ := ko.c
      simp only [Nat.zero_add] at p0 p1 p2 p3 p4 m0 m1 m2 m3 m4
      go_wp2_with fail
      go_quiet (fail)
      go_wp2_with fail
      go_roundw
      case rel => exact ⟨k + 1, by omega, by go_num, ko.call (below_drewN (Below.refl _ _) nq), below_drewN hbw nq⟩
      case measure => simp [intOf]; omega
    · have : k = 80 := by omega
      subst this
      go_wp2
      go_ret
      exact ⟨rfl, hbw⟩
end Go.Proofs.Ytombgbdplafooaa
/- A pipe that came in, of any numbers: read; what package whole tells of it where it isn't right. -/
namespace Go.Proofs.Ytombgbdplafooaa
open Go.Joins Go.RowKit M Go.ChangeShapes Go.WideShapes Go.ChangeAt
open O (RdO Kpk Pik Small Ints OpAt)
open O.MO (Oq Pq rightP)
set_option linter.unusedVariables false
set_option linter.unusedSimpArgs false
attribute [local go_sem ↓] Go.wp_at_zero Go.wp_at_succ
/-- runner.New of a pipe that isn't right. -/
theorem new_no2 (v : Value) (os : List Oq) (n s a k f : Int) (w : World) (hv : RdO w v os) (hr : rightP ⟨os, n, s, a, k, f⟩ = false) :
    Calls Try.prog 26 #[O.pv v n s a k f] w fun e w' => e = .returned (.pointer none) ∧ Below w.heap.size w w' := by
  obtain ⟨va, vl, vc, rfl⟩ : ∃ a l c, v = .slice a l c := by
    obtain ⟨_, _, ao, cap, rfl, _⟩ := hv
    exact ⟨_, _, _, rfl⟩
  have hrd : Hid (RdO w (.slice va vl vc) os) := hv
  have hr' : Hid (rightP ⟨os, n, s, a, k, f⟩ = false) := hr
  clear hv hr
  go_enter Try.func26, Try.ntmps26
  go_upto_region 1 with fail
  refine world_gen (fun W => Hid (O.Pik W w.heap.size (.slice va vl vc) n s a k f) ∧ Hid (RdO W (.slice va vl vc) os) ∧ Below w.heap.size w W) ⟨O.pik_new _ _ _ _ _ _ _, hrd.out.call (below_alloc _ _), below_alloc _ _⟩ ?_
  clear hrd
  rintro W ⟨k0, hrd, b0⟩
  obtain ⟨g0, hg0⟩ : ∃ g, Hid (w.heap.size = g) := ⟨_, rfl⟩
  rw [hg0.out] at k0 ⊢
  have c0 := k0.out.c0
  have c1 := k0.out.c1
  have c2 := k0.out.c2
  have c3 := k0.out.c3
  have c4 := k0.out.c4
  have c5 := k0.out.c5
  go_wp2_with fail
  refine (O.pright_is (.slice va vl vc) os n s a k f false _ hrd.out hr'.out).mono ?_
  rintro e W1 ⟨rfl, b1⟩
  have hb : Below g0 w W1 := by rw [← hg0.out]; exact below_call b0 b1
  clear c0 c1 c2 c3 c4 c5
  go_wp2_with fail
  go_ret
  exact ⟨rfl, hg0.out ▸ hb⟩
set_option maxHeartbeats 2000000 in
set_option maxRecDepth 100000 in
/-- whole.Rows of a pipe that isn't right. -/
theorem wrows_no2 (v : Value) (os : List Oq) (n s a k f : Int) (iv : Value) (w : World) (hv : RdO w v os) (hr : rightP ⟨os, n, s, a, k, f⟩ = false) :
    Calls Try.prog 39 #[O.pv v n s a k f, iv] w fun e w' => e = .returned (.slice none 0 0) ∧ Below w.heap.size w w' := by
  obtain ⟨va, vl, vc, rfl⟩ : ∃ a l c, v = .slice a l c := by
    obtain ⟨_, _, ao, cap, rfl, _⟩ := hv
    exact ⟨_, _, _, rfl⟩
  have hv' : Hid (RdO w (.slice va vl vc) os) := hv
  have hr' : Hid (rightP ⟨os, n, s, a, k, f⟩ = false) := hr
  clear hv hr
  go_enter Try.func39, Try.ntmps39
  go_upto_region 1 with fail
  refine world_gen (fun W => Hid (O.Pik W w.heap.size (.slice va vl vc) n s a k f) ∧ Hid (RdO W (.slice va vl vc) os) ∧ Hid (Below w.heap.size w W) ∧ w.heap.size < W.heap.size) ⟨O.pik_new _ _ _ _ _ _ _, hv'.out.call (below_alloc _ _), below_alloc _ _, by simp⟩ ?_
  clear hv'
  rintro W ⟨k0, hv, b0, hsz⟩
  generalize hg0 : w.heap.size = g0 at k0 b0 hsz ⊢
  have c0 := k0.out.c0
  have c1 := k0.out.c1
  have c2 := k0.out.c2
  have c3 := k0.out.c3
  have c4 := k0.out.c4
  have c5 := k0.out.c5
  have hg1 : Hid (w.heap.size = g0) := hg0
  clear hg0
  go_wp2_with fail
  refine (new_no2 (.slice va vl vc) os n s a k f _ hv.out hr'.out).mono ?_
  rintro e W1 ⟨rfl, b1⟩
  have hB1 : Hid (Below g0 w W1) := b0.out.trans (b1.mono (by omega))
  clear b1 b0 k0 hv c0 c1 c2 c3 c4 c5
  go_wp2_with fail
  go_ret
  exact ⟨rfl, by rw [hg1.out]; exact hB1.out⟩
set_option maxHeartbeats 2000000 in
set_option maxRecDepth 100000 in
/-- whole.Past of a pipe that isn't right. -/
theorem wpast_no2 (v : Value) (os : List Oq) (n s a k f : Int) (iv : Value) (w : World) (hv : RdO w v os) (hr : rightP ⟨os, n, s, a, k, f⟩ = false) :
    Calls Try.prog 40 #[O.pv v n s a k f, iv] w fun e w' => e = .returned (.bool true) ∧ Below w.heap.size w w' := by
  obtain ⟨va, vl, vc, rfl⟩ : ∃ a l c, v = .slice a l c := by
    obtain ⟨_, _, ao, cap, rfl, _⟩ := hv
    exact ⟨_, _, _, rfl⟩
  have hv' : Hid (RdO w (.slice va vl vc) os) := hv
  have hr' : Hid (rightP ⟨os, n, s, a, k, f⟩ = false) := hr
  clear hv hr
  go_enter Try.func40, Try.ntmps40
  go_upto_region 1 with fail
  refine world_gen (fun W => Hid (O.Pik W w.heap.size (.slice va vl vc) n s a k f) ∧ Hid (RdO W (.slice va vl vc) os) ∧ Hid (Below w.heap.size w W) ∧ w.heap.size < W.heap.size) ⟨O.pik_new _ _ _ _ _ _ _, hv'.out.call (below_alloc _ _), below_alloc _ _, by simp⟩ ?_
  clear hv'
  rintro W ⟨k0, hv, b0, hsz⟩
  generalize hg0 : w.heap.size = g0 at k0 b0 hsz ⊢
  have c0 := k0.out.c0
  have c1 := k0.out.c1
  have c2 := k0.out.c2
  have c3 := k0.out.c3
  have c4 := k0.out.c4
  have c5 := k0.out.c5
  have hg1 : Hid (w.heap.size = g0) := hg0
  clear hg0
  go_wp2_with fail
  refine (new_no2 (.slice va vl vc) os n s a k f _ hv.out hr'.out).mono ?_
  rintro e W1 ⟨rfl, b1⟩
  have hB1 : Hid (Below g0 w W1) := b0.out.trans (b1.mono (by omega))
  clear b1 b0 k0 hv c0 c1 c2 c3 c4 c5
  go_wp2_with fail
  go_ret
  exact ⟨rfl, by rw [hg1.out]; exact hB1.out⟩

theorem Try.cells58 : Try.prog.cellsOf 58 = 6 := by kernel_rfl
theorem Try.cells120 : Try.prog.cellsOf 120 = 2 := by kernel_rfl
theorem array6 {α : Type} {cs : Array α} (h : cs.size = 6) : ∃ c0 c1 c2 c3 c4 c5, cs = #[c0, c1, c2, c3, c4, c5] := by
  obtain ⟨l⟩ := cs
  match l, h with
  | [c0, c1, c2, c3, c4, c5], _ => exact ⟨c0, c1, c2, c3, c4, c5, rfl⟩
theorem wf_le {x : Int} (h : (Lit.int .i64 x).wf = true) : x ≤ 9223372036854775807 := by
  simp only [Lit.wf, IntKind.min, IntKind.max, IntKind.signed, IntKind.bits, Bool.and_eq_true, decide_eq_true_eq, if_true] at h
  omega
theorem add_plain (b off j : Nat) : (⟨b, off, none⟩ : Addr).add j = ⟨b, off + j, none⟩ := by by_cases h : j = 0 <;> simp [Addr.add, h]
/-- A slice of operations that came in, its room too. -/
def IsOps (w : World) (a : Option Addr) (len cap : Nat) (os : List Oq) : Prop :=
  (len = 0 ∧ cap = 0 ∧ os = []) ∨
  ∃ b off, a = some ⟨b, off, none⟩ ∧ b < w.heap.size ∧ len ≤ cap ∧ cap ≤ 9223372036854775807 ∧ os.length = cap ∧ (∀ i, i < os.length → OpAt w b (off + i * 2) (O.opAt os i)) ∧ ∀ o ∈ os, o.n ≤ 9223372036854775807
structure PipeIn where
  a : Option Addr
  len : Nat
  cap : Nat
  n : Int
  s : Int
  g : Int
  k : Int
  f : Int
def pin (a : PipeIn) : Value := O.pv (.slice a.a a.len a.cap) a.n a.s a.g a.k a.f
def IsPipe (w : World) (a : PipeIn) : Prop := ∃ os, IsOps w a.a a.len a.cap os
section
variable {H : Type} {enc : TypeId × Value → H}
set_option maxRecDepth 100000 in
theorem open_ops {W : World} {fuel : Nat} {a : Option Addr} {len cap : Nat} {x : DataW H × List MemPlace}
    (h : DataW.trod enc Try.prog W 0 (fun _ => true) true fuel 56 [.slice a len cap] = some x) : ∃ os, IsOps W a len cap os := by
  rcases Deep.open_slice_pairs Try.underlying56 Try.underlying120 Try.cells120 rfl rfl Try.cells3 Try.cells3 h with ⟨hcs, _⟩ | ⟨ad, l, c, m, n, V0, V1, D0, D1, P0, P1, hcs, _, hl, hm, hmm, _, hcell⟩
  · simp at hcs
    obtain ⟨rfl, rfl, rfl⟩ := hcs
    exact ⟨[], .inl ⟨rfl, rfl, rfl⟩⟩
  · simp at hcs
    obtain ⟨rfl, rfl, rfl⟩ := hcs
    simp at hmm
    subst hmm
    unfold maxLen at hm
    by_cases hz : m = 0
    · subst hz
      obtain rfl : len = 0 := by omega
      exact ⟨[], .inl ⟨rfl, rfl, rfl⟩⟩
    · obtain ⟨c0, c1, t0, t1⟩ := hcell 0 (by omega)
      obtain ⟨b, off, rfl⟩ := plain_addr (w := W) (x := ad) (by simpa using c0)
      obtain ⟨es, hes, hp, hb⟩ := list_of (d := (⟨0, 0⟩ : Oq)) (P := fun i o => OpAt W b (off + i * 2) o) (Q := fun o => o.n ≤ 9223372036854775807) m fun i hi => by
        obtain ⟨c0, c1, t0, t1⟩ := hcell i hi
        obtain ⟨a0, q0, -, w0⟩ := DataW.trod_int Try.underlying3 t0
        obtain ⟨a1, q1, -, w1⟩ := DataW.trod_int Try.underlying3 t1
        simp only [List.cons.injEq, and_true] at q0 q1
        refine ⟨⟨a0, a1⟩, ⟨?_, ?_⟩, wf_le w1⟩
        · have h := c0; rw [q0, add_plain] at h; exact h
        · have h := c1; rw [q1, add_plain, ← Nat.add_assoc] at h; exact h
      refine ⟨es, .inr ⟨b, off, rfl, World.block_lt_of_cell? W _ c0, hl, hm, hes, by rw [hes]; exact hp, hb⟩⟩
set_option maxRecDepth 100000 in
theorem open_pipe {W : World} {b0 : Nat} {v : Value} {d : DataW H} {p : List MemPlace}
    (hv : Value.okWide Try.prog W .any b0 58 v) (h : DataW.Trod enc Try.prog W 0 (fun _ => true) true 58 v d p) : ∃ a : PipeIn, v = pin a ∧ IsPipe W a := by
  obtain ⟨cs, n, rfl, hsz, hf⟩ := open_fields Try.underlying58 (by kernel_rfl) hv h
  obtain ⟨c0, c1, c2, c3, c4, c5, rfl⟩ := array6 (hsz.trans Try.cells58)
  obtain ⟨y0, h0⟩ := hf 0 _ rfl
  obtain ⟨y1, h1⟩ := hf 1 _ rfl
  obtain ⟨y2, h2⟩ := hf 2 _ rfl
  obtain ⟨y3, h3⟩ := hf 3 _ rfl
  obtain ⟨y4, h4⟩ := hf 4 _ rfl
  obtain ⟨y5, h5⟩ := hf 5 _ rfl
  simp only [List.drop_succ_cons, List.drop_zero, List.take_succ_cons, List.take_zero] at h0 h1 h2 h3 h4 h5
  obtain ⟨a, l, c, e0⟩ := slice_form Try.underlying56 h0
  obtain ⟨a1, e1, -, w1⟩ := DataW.trod_int Try.underlying3 h1
  obtain ⟨a2, e2, -, w2⟩ := DataW.trod_int Try.underlying3 h2
  obtain ⟨a3, e3, -, w3⟩ := DataW.trod_int Try.underlying3 h3
  obtain ⟨a4, e4, -, w4⟩ := DataW.trod_int Try.underlying3 h4
  obtain ⟨a5, e5, -, w5⟩ := DataW.trod_int Try.underlying3 h5
  simp only [List.cons.injEq, and_true] at e0 e1 e2 e3 e4 e5
  subst e0 e1 e2 e3 e4 e5
  exact ⟨⟨a, l, c, a1, a2, a3, a4, a5⟩, rfl, open_ops h0⟩
end
/-- Its first operations, read. -/
theorem IsOps.rd {w : World} {a : Option Addr} {len cap : Nat} {os : List Oq} (h : IsOps w a len cap os) (k : Nat) (hk : k ≤ len) : RdO w (.slice a k cap) (os.take k) := by
  rcases h with ⟨rfl, rfl, rfl⟩ | ⟨b, off, rfl, hb, hl, hm, hlen, hat, hn⟩
  · obtain rfl : k = 0 := by omega
    exact ⟨by simp, by simp, a, 0, rfl, by simp, by simp, by simp⟩
  · have hkl : (os.take k).length = k := by rw [List.length_take]; omega
    refine ⟨by omega, fun o ho => hn o (List.mem_of_mem_take ho), some ⟨b, off, none⟩, cap, by rw [hkl], by omega, hm, fun _ => ⟨b, off, rfl, hb, fun j hj => ?_⟩⟩
    have e : O.opAt (os.take k) j = O.opAt os j := by
      unfold O.opAt
      rw [List.getD_eq_getElem?_getD, List.getD_eq_getElem?_getD, List.getElem?_take, if_pos (by omega)]
    rw [e]
    exact hat j (by omega)
theorem IsOps.caps {w : World} {a : Option Addr} {len cap : Nat} {os : List Oq} (h : IsOps w a len cap os) : len ≤ cap ∧ cap ≤ 9223372036854775807 := by
  rcases h with ⟨rfl, rfl, rfl⟩ | ⟨b, off, rfl, hb, hl, hm, hlen, hat, hn⟩
  · exact ⟨by omega, by omega⟩
  · exact ⟨hl, hm⟩
end Go.Proofs.Ytombgbdplafooaa
/- The document's own answer to whether a pipe may be: cordonref9.RightPipe. -/
namespace Go.Proofs.Ytombgbdplafooaa.O
open Go.RowKit MO
open Go.Proofs.Ytombgbdplafooaa.M (rightB most right_of right_no' right_iff right_mk)
set_option linter.unusedVariables false
set_option linter.unusedSimpArgs false
attribute [local go_sem ↓] Go.wp_at_zero Go.wp_at_succ
theorem rref_1 (n : Int) (w : World) :
    Calls Try.prog 65 #[opv 1 n] w fun e w' => e = .returned (.bool true) ∧ Below w.heap.size w w' := by
  go_enter Try.func65, Try.ntmps65
  go_wp2
  go_ret
  exact ⟨rfl, below_alloc _ _⟩
theorem rref_2 (n : Int) (w : World) :
    Calls Try.prog 65 #[opv 2 n] w fun e w' => e = .returned (.bool true) ∧ Below w.heap.size w w' := by
  go_enter Try.func65, Try.ntmps65
  go_wp2
  go_ret
  exact ⟨rfl, below_alloc _ _⟩
theorem rref_4 (n : Int) (w : World) :
    Calls Try.prog 65 #[opv 4 n] w fun e w' => e = .returned (.bool true) ∧ Below w.heap.size w w' := by
  go_enter Try.func65, Try.ntmps65
  go_wp2
  go_ret
  exact ⟨rfl, below_alloc _ _⟩
theorem rref_5 (n : Int) (w : World) :
    Calls Try.prog 65 #[opv 5 n] w fun e w' => e = .returned (.bool true) ∧ Below w.heap.size w w' := by
  go_enter Try.func65, Try.ntmps65
  go_wp2
  go_ret
  exact ⟨rfl, below_alloc _ _⟩
theorem rref_3 (n : Int) (w : World) (h0 : 1 ≤ n) (h1 : n ≤ 256) :
    Calls Try.prog 65 #[opv 3 n] w fun e w' => e = .returned (.bool true) ∧ Below w.heap.size w w' := by
  go_enter Try.func65, Try.ntmps65
  go_wp2
  go_ret
  exact ⟨rfl, below_alloc _ _⟩
theorem rref_3lo (n : Int) (w : World) (h0 : n < 1) :
    Calls Try.prog 65 #[opv 3 n] w fun e w' => e = .returned (.bool false) ∧ Below w.heap.size w w' := by
  go_enter Try.func65, Try.ntmps65
  go_wp2
  go_ret
  exact ⟨rfl, below_alloc _ _⟩
theorem rref_3hi (n : Int) (w : World) (h0 : 1 ≤ n) (h1 : decide (n ≤ 256) = false) :
    Calls Try.prog 65 #[opv 3 n] w fun e w' => e = .returned (.bool false) ∧ Below w.heap.size w w' := by
  go_enter Try.func65, Try.ntmps65
  go_wp2
  go_ret
  exact ⟨rfl, below_alloc _ _⟩
theorem rref_6 (n : Int) (w : World) (h0 : 0 ≤ n) (h1 : n ≤ 255) :
    Calls Try.prog 65 #[opv 6 n] w fun e w' => e = .returned (.bool true) ∧ Below w.heap.size w w' := by
  go_enter Try.func65, Try.ntmps65
  go_wp2
  go_ret
  exact ⟨rfl, below_alloc _ _⟩
theorem rref_6lo (n : Int) (w : World) (h0 : n < 0) :
    Calls Try.prog 65 #[opv 6 n] w fun e w' => e = .returned (.bool false) ∧ Below w.heap.size w w' := by
  go_enter Try.func65, Try.ntmps65
  go_wp2
  go_ret
  exact ⟨rfl, below_alloc _ _⟩
theorem rref_6hi (n : Int) (w : World) (h0 : 0 ≤ n) (h1 : decide (n ≤ 255) = false) :
    Calls Try.prog 65 #[opv 6 n] w fun e w' => e = .returned (.bool false) ∧ Below w.heap.size w w' := by
  go_enter Try.func65, Try.ntmps65
  go_wp2
  go_ret
  exact ⟨rfl, below_alloc _ _⟩
theorem rref_lo (c n : Int) (w : World) (h3 : (c == 3) = false) (h6 : (c == 6) = false) (hc : c < 1) :
    Calls Try.prog 65 #[opv c n] w fun e w' => e = .returned (.bool false) ∧ Below w.heap.size w w' := by
  go_enter Try.func65, Try.ntmps65
  go_wp2
  go_ret
  exact ⟨rfl, below_alloc _ _⟩
theorem rref_hi (c n : Int) (w : World) (h3 : (c == 3) = false) (h6 : (c == 6) = false) (h1 : 1 ≤ c) (hc : decide (c ≤ 5) = false) :
    Calls Try.prog 65 #[opv c n] w fun e w' => e = .returned (.bool false) ∧ Below w.heap.size w w' := by
  go_enter Try.func65, Try.ntmps65
  go_wp2
  go_ret
  exact ⟨rfl, below_alloc _ _⟩
theorem rref_is (c n : Int) (p : Bool) (w : World) (h : rightO ⟨c, n⟩ = p) :
    Calls Try.prog 65 #[opv c n] w fun e w' => e = .returned (.bool p) ∧ Below w.heap.size w w' := by
  subst h
  by_cases h1 : c = 1
  · subst h1; exact rref_1 n w
  by_cases h2 : c = 2
  · subst h2; exact rref_2 n w
  by_cases h3 : c = 3
  · subst h3
    by_cases h0 : 1 ≤ n
    · by_cases h1 : n ≤ 256
      · have e : rightO ⟨3, n⟩ = true := by simp [rightO, h0, h1]
        rw [e]; exact rref_3 n w h0 h1
      · have e : rightO ⟨3, n⟩ = false := by simp [rightO]; omega
        rw [e]; exact rref_3hi n w h0 (decide_eq_false h1)
    · have e : rightO ⟨3, n⟩ = false := by simp [rightO]; omega
      rw [e]; exact rref_3lo n w (by omega)
  by_cases h4 : c = 4
  · subst h4; exact rref_4 n w
  by_cases h5 : c = 5
  · subst h5; exact rref_5 n w
  by_cases h6 : c = 6
  · subst h6
    by_cases h0 : 0 ≤ n
    · by_cases h1 : n ≤ 255
      · have e : rightO ⟨6, n⟩ = true := by simp [rightO, h0, h1]
        rw [e]; exact rref_6 n w h0 h1
      · have e : rightO ⟨6, n⟩ = false := by simp [rightO]; omega
        rw [e]; exact rref_6hi n w h0 (decide_eq_false h1)
    · have e : rightO ⟨6, n⟩ = false := by simp [rightO]; omega
      rw [e]; exact rref_6lo n w (by omega)
  have e : rightO ⟨c, n⟩ = false := by simp [rightO, h3, h6]; omega
  rw [e]
  by_cases hlo : c < 1
  · exact rref_lo c n w (by simpa using h3) (by simpa using h6) hlo
  · exact rref_hi c n w (by simpa using h3) (by simpa using h6) (by omega) (decide_eq_false (by omega))
set_option maxHeartbeats 2000000 in
set_option maxRecDepth 100000 in
theorem rpright_is (v : Value) (os : List Oq) (n s a k f : Int) (r : Bool) (w : World) (hv : RdO w v os) (hr : rightP ⟨os, n, s, a, k, f⟩ = r) :
    Calls Try.prog 43 #[pv v n s a k f] w fun e w' => e = .returned (.bool r) ∧ Below w.heap.size w w' := by
  have hr' : Hid (rightL os = false → r = false) := by intro h; rw [← hr]; simp only [rightP, h, Bool.false_and]
  have hs' : Hid (rightB n s = false → r = false) := by intro h; rw [← hr]; simp only [rightP, h, Bool.false_and, Bool.and_false]
  have ha' : Hid (¬ (1 ≤ a ∧ a ≤ 4) → r = false) := by intro h; rw [← hr]; simp only [rightP, decide_eq_false h, Bool.false_and, Bool.and_false]
  have hall : Hid (rightL os = true → rightB n s = true → (1 ≤ a ∧ a ≤ 4) → (sinkB k && sinkB f) = r) := by
    intro h1 h2 h3
    rw [← hr]; simp only [rightP, h1, h2, decide_eq_true h3, Bool.true_and]
  clear hr
  obtain ⟨hlen, hlt, ao, cap, rfl, hcl, hcm, hc0⟩ := hv
  clear hlt
  have hc : Hid (os.length ≠ 0 → ∃ b off, ao = some ⟨b, off, none⟩ ∧ b < w.heap.size ∧ ∀ j, j < os.length → OpAt w b (off + j * 2) (opAt os j)) := hc0
  clear hc0
  obtain ⟨N, hN⟩ : ∃ N, Hid (os.length = N) := ⟨_, rfl⟩
  have hLl : Hid (rightL os = (decide (N ≤ 6) && os.all rightO)) := by
    have h : rightL os = (decide (N ≤ 6) && os.all rightO) := by rw [← hN.out]; rfl
    exact h
  rw [hN.out] at hlen hcl hc ⊢
  go_enter Try.func43, Try.ntmps43
  go_upto_region 1 with fail
  refine world_gen (fun W => Pik W w.heap.size (.slice ao N cap) n s a k f ∧ Below w.heap.size w W) ⟨pik_new _ _ _ _ _ _ _, below_alloc _ _⟩ ?_
  rintro W0 ⟨k0, b0⟩
  obtain ⟨g, hg⟩ : ∃ g, Hid (w.heap.size = g) := ⟨_, rfl⟩
  rw [hg.out] at k0 ⊢
  have c0 := k0.c0
  have c1 := k0.c1
  have c2 := k0.c2
  have c3 := k0.c3
  by_cases h6 : 6 < N
  · have hf : r = false := hr'.out (by rw [hLl.out, decide_eq_false (by omega), Bool.false_and])
    subst hf
    go_wp2_with fail
    go_ret
    exact ⟨rfl, b0⟩
  obtain ⟨rb, hrb⟩ : ∃ rb, Hid (rightB n s = rb) := ⟨_, rfl⟩
  go_wp2_with fail
  refine (Go.Proofs.Ytombgbdplafooaa.rright_is n s rb _ hrb.out).mono ?_
  rintro e w' ⟨rfl, he⟩; obtain rfl := he.symm; clear he
  cases rb
  · have hf : r = false := hs'.out hrb.out
    subst hf
    go_wp2_with fail
    go_ret
    exact ⟨rfl, b0⟩
  by_cases h1 : a < 1
  · have hf : r = false := ha'.out (by omega)
    subst hf
    go_wp2_with fail
    go_ret
    exact ⟨rfl, b0⟩
  by_cases h4 : 4 < a
  · have hf : r = false := ha'.out (by omega)
    subst hf
    go_wp2_with fail
    go_ret
    exact ⟨rfl, b0⟩
  have hfin : Hid (os.all rightO = true → (sinkB k && sinkB f) = r) := by
    intro h
    exact hall.out (by rw [hLl.out, decide_eq_true (by omega), h]; rfl) hrb.out ⟨by omega, by omega⟩
  have hbad : Hid (os.all rightO = false → r = false) := by
    intro h
    exact hr'.out (by rw [hLl.out, h, Bool.and_false])
  clear hall hr' hs' ha' hLl hrb
  go_wp2_with fail
  clear c0 c1 c2 c3
  go_loopw [30] (fun i wr => ∃ j : Nat, j ≤ N ∧ i = .int .i64 j ∧ Hid ((os.drop j).all rightO = os.all rightO) ∧ Pik wr g (.slice ao N cap) n s a k f ∧ Below w.heap.size w wr) (fun i _ => N - (intOf i).toNat)
  case atStart => exact ⟨0, Nat.zero_le _, rfl, rfl, k0, b0⟩
  case round =>
    clear k0 b0
    obtain ⟨j, hj, rfl, hal, k0, hbw⟩ := hrel
    by_cases hlt : j < N
    · obtain ⟨b, off, rfl, hb, hcell⟩ := hc.out (by omega)
      have hx := (hcell j hlt).below hbw hb
      have hs : Hid ((os.drop j).all rightO = (rightO (opAt os j) && (os.drop (j + 1)).all rightO)) := all_drop os j (by have := hN.out; omega)
      clear hcell hc
      obtain ⟨⟨c, m⟩, hee⟩ : ∃ x, opAt os j = x := ⟨_, rfl⟩
      rw [hee] at hx hs
      clear hee
      obtain ⟨p0, p1⟩ := hx
      simp only at p0 p1
      obtain ⟨p, hp⟩ : ∃ y, Hid (rightO ⟨c, m⟩ = y) := ⟨_, rfl⟩
      rw [hp.out] at hs
      have hbs := hbw.size
      go_wp2_with fail
      refine (rref_is c m p _ hp.out).mono ?_
      rintro e w1 ⟨rfl, b1⟩
      have hb1 := bstep (Below.refl wr.heap.size wr) b1
      have k1 := k0.call hb1
      have bb := bcall hbw hb1
      clear b1 hb1 hbw p0 p1 k0
      cases p with
      | true =>
        go_wp2_with fail
        go_roundw
        case rel => exact ⟨j + 1, by omega, by go_num, hs.out.symm.trans hal.out, k1, bb⟩
        case measure => simp [intOf]; omega
      | false =>
        have hf : r = false := hbad.out (hal.out.symm.trans hs.out)
        subst hf
        go_wp2_with fail
        go_ret
        exact ⟨rfl, bb⟩
    · have hx : (sinkB k && sinkB f) = r := by
        refine hfin.out ?_
        have h := hal.out
        rw [List.drop_of_length_le (by have := hN.out; omega)] at h
        exact h.symm
      have hx' : Hid ((sinkB k && sinkB f) = r) := hx
      clear hx hfin hbad hal hc
      have c4 := k0.c4
      have c5 := k0.c5
      by_cases q1 : -1 ≤ k
      · by_cases q2 : k < 4
        · by_cases q3 : -1 ≤ f
          · go_wp2_with fail
            go_ret
            refine ⟨ret_bool ?_, hbw⟩
            rw [← hx'.out]
            unfold sinkB
            rw [Bool.eq_iff_iff]
            simp
            omega
          · have hd : decide (-1 ≤ f) = false := decide_eq_false q3
            go_wp2_with fail
            go_ret
            refine ⟨ret_bool ?_, hbw⟩
            rw [← hx'.out]
            unfold sinkB
            rw [Bool.eq_iff_iff]
            simp
            omega
        · have hd : decide (k < 4) = false := decide_eq_false q2
          go_wp2_with fail
          go_ret
          refine ⟨ret_bool ?_, hbw⟩
          rw [← hx'.out]
          unfold sinkB
          rw [Bool.eq_iff_iff]
          simp
          omega
      · have hd : decide (-1 ≤ k) = false := decide_eq_false q1
        go_wp2_with fail
        go_ret
        refine ⟨ret_bool ?_, hbw⟩
        rw [← hx'.out]
        unfold sinkB
        rw [Bool.eq_iff_iff]
        simp
        omega
end Go.Proofs.Ytombgbdplafooaa.O
/- The document's own Runner: New; Whole. -/
namespace Go.Proofs.Ytombgbdplafooaa
open Go.RowKit M
open O (RdO Kpk Pik Small Ints)
open O.MO (Oq Pq rightP)
set_option linter.unusedVariables false
set_option linter.unusedSimpArgs false
attribute [local go_sem ↓] Go.wp_at_zero Go.wp_at_succ

theorem okl_step {p : Pq} {r : Rs} {i : Inp} (h : Okl p.n p.s r.L) (hl : i.e.l < 18446744073709551616) : Okl p.n p.s (stepR p r i).L := by
  cases hm : i.mrk with
  | true =>
    cases hg : goes r.m i.e.t with
    | true => rw [(step_mark hm hg).1]; exact okl_drop h _
    | false => rw [(step_still hm hg).1]; exact h
  | false =>
    cases hk : okT i.e.t with
    | false => rw [step_none hm hk]; exact h
    | true =>
      by_cases hlt : i.e.t < r.m
      · rw [step_late hm hk hlt]; exact h
      · cases hx : runE p.os i.e with
        | none => rw [step_drop hm hk hlt hx]; exact h
        | some x => rw [step_put hm hk hlt hx]; exact okl_putE h (by rw [(runE_some hx).2.2]; exact hl)
theorem okl_all {p : Pq} : ∀ (is : List Inp) (r : Rs), Okl p.n p.s r.L → (∀ i ∈ is, i.e.l < 18446744073709551616) → Okl p.n p.s (stR p r is).L
  | [], r, h, _ => h
  | i :: is, r, h, hl => okl_all is _ (okl_step h (hl i (by simp))) (fun z hz => hl z (by simp [hz]))
/-- What the document's Take wants of a state. -/
theorem st_ok {p : Pq} (hr : rightB p.n p.s = true) {is : List Inp} (hl : ∀ i ∈ is, i.e.l < 18446744073709551616) (hn : is.length ≤ 60) :
    Okl p.n p.s (stR p r0 is).L ∧ (stR p r0 is).L.length ≤ 100000 ∧ (∀ q ∈ (stR p r0 is).L, 0 ≤ q.c ∧ q.c ≤ 900 ∧ q.l < 18446744073709551616) ∧ (0 ≤ (stR p r0 is).l ∧ (stR p r0 is).l ≤ 1000000) ∧ (0 ≤ (stR p r0 is).s ∧ (stR p r0 is).s ≤ 1000000) ∧ (rowsR p r0 is).length ≤ 1000 := by
  have h1 := okl_all (p := p) is r0 (okl_nil _ _) hl
  have h2 := rows_len p is
  have h3 := (cn_all hr is r0 0 (cn_nil 0) (by omega) (by omega)).1
  have h4 := all_counts p is r0
  have e1 : r0.l = 0 := rfl
  have e2 : r0.s = 0 := rfl
  refine ⟨h1, by omega, fun q hq => ?_, by omega, by omega, by omega⟩
  have := h3 q hq
  exact ⟨this.1, by omega, (h1.2 q hq).1.2.2⟩
/-- Lists of the call's own of unlike things lie in unlike blocks. -/
theorem own_ne {w : World} {B1 B2 : Nat} {e1 e2 : TypeId} {s1 s2 : Nat} {u v : Value} {n m : Nat} {xs ys : List Value} (h1 : w.ownsRow B1 e1 s1 u n xs) (h2 : w.ownsRow B2 e2 s2 v m ys) (he : e1 ≠ e2) : ∀ k, u.ownBlock = some k → v.ownBlock ≠ some k := by
  intro k hk hk2
  obtain ⟨_, ⟨rfl, _⟩ | ⟨g, cap, cur, rfl, _, hh, _⟩⟩ := h1
  · cases hk
  · simp only [Value.ownBlock, Option.some.injEq] at hk
    subst hk
    exact own_typed h2 hh (fun e => he e.symm) _ hk2 rfl
set_option maxHeartbeats 4000000 in
set_option maxRecDepth 100000 in
theorem wnew_is (v : Value) (os : List Oq) (n s a k f : Int) (w : World) (hv : OpsIn w v os) :
    Calls Try.prog 27 #[O.pv v n s a k f] w fun e w' => e = .returned (wval v n s a k f 0 0 0 (.slice none 0 0)) ∧ Below w.heap.size w w' := by
  obtain ⟨va, vl, vc, rfl⟩ := hv.form
  clear hv
  go_enter Try.func27, Try.ntmps27
  go_upto_region 1 with fail
  obtain ⟨g0, hg0⟩ : ∃ g, Hid (w.heap.size = g) := ⟨_, rfl⟩
  refine world_gen (fun X => Hid (O.Pik X w.heap.size (.slice va vl vc) n s a k f) ∧ Hid (Wk X (w.heap.size + 1) (.slice none 0 0) 0 0 0 0 0 0 0 0 (.slice none 0 0)) ∧ Hid (Below w.heap.size w X)) ⟨(O.pik_new _ _ _ _ _ _ _).call (below_alloc _ _), wk_zero _ _ (by simp), (below_alloc w _).alloc (by simp) _⟩ ?_
  rintro X ⟨hP, hZ, hB⟩
  rw [hg0.out] at hP hZ hB ⊢
  obtain ⟨gz, hgz⟩ : ∃ g, g0 + 1 = g := ⟨_, rfl⟩
  rw [hgz] at hZ ⊢
  have hlt : g0 < gz := by omega
  clear hgz
  have c0 := hP.out.c0
  have c1 := hP.out.c1
  have c2 := hP.out.c2
  have c3 := hP.out.c3
  have c4 := hP.out.c4
  have c5 := hP.out.c5
  obtain ⟨e0, e1, e2, e3, e4, e5, e6, e7, e8, e9, e10, e11, e12⟩ := hZ.out.c
  have f0 := hZ.out.free 0
  have f1 := hZ.out.free 1
  have f2 := hZ.out.free 2
  have f3 := hZ.out.free 3
  have f4 := hZ.out.free 4
  have f5 := hZ.out.free 5
  have f6 := hZ.out.free 6
  have f7 := hZ.out.free 7
  have f8 := hZ.out.free 8
  have f9 := hZ.out.free 9
  have f10 := hZ.out.free 10
  have f11 := hZ.out.free 11
  have f12 := hZ.out.free 12
  go_wp2_with fail
  have hall := wk_all hZ.out (.slice va vl vc) (.slice none 0 0) n s a k f 0 0 0
  clear e0 e1 e2 e3 e4 e5 e6 e7 e8 e9 e10 e11 e12 f0 f1 f2 f3 f4 f5 f6 f7 f8 f9 f10 f11 f12 c0 c1 c2 c3 c4 c5
  generalize ((((((((((((X.setCell ⟨gz, 0, none⟩ (.slice va vl vc)).setCell ⟨gz, 1, none⟩ (.int .i64 n)).setCell ⟨gz, 2, none⟩ (.int .i64 s)).setCell ⟨gz, 3, none⟩ (.int .i64 a)).setCell ⟨gz, 4, none⟩ (.int .i64 k)).setCell ⟨gz, 5, none⟩ (.int .i64 f)).setCell ⟨gz, 6, none⟩ (.int .i64 0)).setCell ⟨gz, 7, none⟩ (.int .i64 0)).setCell ⟨gz, 8, none⟩ (.int .i64 0)).setCell ⟨gz, 9, none⟩ (.int .i64 n)).setCell ⟨gz, 10, none⟩ (.int .i64 s)).setCell ⟨gz, 11, none⟩ (.int .i64 a)).setCell ⟨gz, 12, none⟩ (.slice none 0 0) = Z at hall ⊢
  obtain ⟨hz1, hz2, hz3, hz4⟩ := hall
  obtain ⟨e0, e1, e2, e3, e4, e5, e6, e7, e8, e9, e10, e11, e12⟩ := hz1.c
  have hbz : Below g0 w Z := hB.out.trans (hz4 _ (Nat.le_of_lt hlt))
  exact bodyPost_ret (v := wval (.slice va vl vc) n s a k f 0 0 0 (.slice none 0 0)) (by simp [results, Try.results27, go_sem, e0, e1, e2, e3, e4, e5, e6, e7, e8, e9, e10, e11, e12]) rfl ⟨rfl, by rw [hg0.out]; exact hbz⟩
set_option maxHeartbeats 8000000 in
set_option maxRecDepth 100000 in
/-- The document's own Whole. -/
theorem wwhole_is (v : Value) (p : Pq) (iv : Value) (qb : Nat) (is : List Inp) (w : World) (hv : OpsIn w v p.os) (hr : rightB p.n p.s = true) (hnb : -1099511627776 ≤ p.n ∧ p.n ≤ 1099511627776) (hI : RdI w iv qb is) (hq : qb ≤ w.heap.size) (hn : is.length ≤ 60) :
    Calls Try.prog 44 #[O.pv v p.n p.s p.a p.k p.f, iv] w fun e w' => ∃ u, e = .returned u ∧ w'.ownsRow w.heap.size 45 5 u (rowsR p r0 is).length (rcs (rowsR p r0 is)) ∧ Below w.heap.size w w' := by
  obtain ⟨os, n, s, a, k, f⟩ := p
  simp only at hv hr hnb ⊢
  obtain ⟨va, vl, vc, rfl⟩ := hv.form
  obtain ⟨hn1, hlab, ao, cap, rfl, hn2, hn3, hc⟩ := hI
  have hcell : Hid (∀ j, j < is.length → ∃ off, ao = some ⟨qb, off, none⟩ ∧ qb < w.heap.size ∧ InAt w qb (off + j * 5) (iAt is j)) := fun j hj => by
    obtain ⟨off, e1, e2, e3⟩ := hc (by omega)
    exact ⟨off, e1, e2, e3 j hj⟩
  have hlab' : Hid (∀ i ∈ is, i.e.l < 18446744073709551616) := hlab
  have hr' : Hid (rightB n s = true) := hr
  have hv' : Hid (OpsIn w (.slice va vl vc) os) := hv
  clear hc hlab hr hv
  obtain ⟨m, hm⟩ : ∃ m, Hid (is.length = m) := ⟨_, rfl⟩
  rw [hm.out] at hn1 hn2 hcell hn ⊢
  obtain ⟨i0, hi, hx0, hx1, hx2⟩ := info_parts Try.info45
  obtain ⟨g0, hg0⟩ : ∃ g, Hid (w.heap.size = g) := ⟨_, rfl⟩
  go_enter Try.func44, Try.ntmps44
  go_upto_region 1 with fail
  refine world_gen (fun X => Hid (O.Pik X w.heap.size (.slice va vl vc) n s a k f) ∧ Hid (Below w.heap.size w X)) ⟨O.pik_new _ _ _ _ _ _ _, below_alloc _ _⟩ ?_
  rintro X ⟨hP, hB⟩
  have c0 := hP.out.c0
  have c1 := hP.out.c1
  have c2 := hP.out.c2
  have c3 := hP.out.c3
  have c4 := hP.out.c4
  have c5 := hP.out.c5
  go_wp2_with fail
  refine (wnew_is (.slice va vl vc) os n s a k f _ (hv'.out.below hB.out)).mono ?_
  rintro e W1 ⟨rfl, b1⟩
  have hB1 : Hid (Below w.heap.size w W1) := hB.out.trans (b1.mono hB.out.size)
  clear hP hB b1 c0 c1 c2 c3 c4 c5
  go_upto_region 2 with fail
  refine world_gen (fun Y => Hid (Wk Y W1.heap.size (.slice va vl vc) n s a k f 0 0 0 (.slice none 0 0)) ∧ Hid (Below w.heap.size w Y)) ⟨wk_new W1 (.slice va vl vc) (.slice none 0 0) n s a k f 0 0 0, hB1.out.alloc hB1.out.size _⟩ ?_
  have hgr : w.heap.size ≤ W1.heap.size := hB1.out.size
  clear hB1
  rintro Y ⟨hW, hB⟩
  generalize W1.heap.size = gr at hW hgr ⊢
  go_wp2_with fail
  go_loopw [6, 14] (fun u i wr => ∃ (j : Nat) (r : Rs) (x : Value), j ≤ m ∧ i = .int .i64 j ∧ Hid (stR ⟨os, n, s, a, k, f⟩ r0 (is.take j) = r) ∧ Hid (Wk wr gr (.slice va vl vc) n s a k f r.m r.l r.s x) ∧ Hid (wr.ownsRow w.heap.size 105 5 x r.L.length (qcs r.L)) ∧ Hid (wr.ownsRow w.heap.size 45 5 u (rowsR ⟨os, n, s, a, k, f⟩ r0 (is.take j)).length (rcs (rowsR ⟨os, n, s, a, k, f⟩ r0 (is.take j)))) ∧ Hid (Below w.heap.size w wr)) (fun _ i _ => m - (intOf i).toNat)
  case atStart => exact ⟨0, r0, .slice none 0 0, Nat.zero_le _, rfl, rfl, hW, World.ownsRow_nil _ _ _ _, World.ownsRow_nil _ _ _ _, hB⟩
  case round =>
    obtain ⟨j, r, x, hj, rfl, hst, hW, hx, hu, hB⟩ := hrel
    by_cases hlt : j < m
    · obtain ⟨off, rfl, hq1, hin⟩ := hcell.out j hlt
      have hjl : j < is.length := by rw [hm.out]; exact hlt
      have hin2 := hin.keep (hB.out.block qb hq1)
      have hel := hlab'.out _ (iAt_mem is j hjl)
      have hok := st_ok (p := ⟨os, n, s, a, k, f⟩) hr'.out (is := is.take j) (fun i hi => hlab'.out i (List.mem_of_mem_take hi)) (by rw [List.length_take]; omega)
      rw [hst.out] at hok
      have hok' : Hid _ := hok
      have hs2 : Hid (stR ⟨os, n, s, a, k, f⟩ r0 (is.take (j + 1)) = stepR ⟨os, n, s, a, k, f⟩ r (iAt is j)) := by
        have h : stR ⟨os, n, s, a, k, f⟩ r0 (is.take (j + 1)) = stepR ⟨os, n, s, a, k, f⟩ r (iAt is j) := by rw [take_in is j hjl, stR_snoc, hst.out]
        exact h
      have hr2 : Hid (rowsR ⟨os, n, s, a, k, f⟩ r0 (is.take (j + 1)) = rowsR ⟨os, n, s, a, k, f⟩ r0 (is.take j) ++ rowR ⟨os, n, s, a, k, f⟩ r (iAt is j)) := by
        have h : rowsR ⟨os, n, s, a, k, f⟩ r0 (is.take (j + 1)) = rowsR ⟨os, n, s, a, k, f⟩ r0 (is.take j) ++ rowR ⟨os, n, s, a, k, f⟩ r (iAt is j) := by rw [take_in is j hjl, rowsR_snoc, hst.out]
        exact h
      obtain ⟨y, hy⟩ : ∃ y, Hid (iAt is j = y) := ⟨_, rfl⟩
      rw [hy.out] at hin2 hel hs2 hr2
      have hel' : Hid (y.e.l < 18446744073709551616) := hel
      obtain ⟨R1, hR1⟩ : ∃ x, Hid (rowsR ⟨os, n, s, a, k, f⟩ r0 (is.take j) = x) := ⟨_, rfl⟩
      rw [hR1.out] at hu hr2
      have hRl : Hid (R1.length ≤ 1000) := by
        have h : R1.length ≤ 1000 := by rw [← hR1.out]; exact hok'.out.2.2.2.2.2
        exact h
      clear hin hy hel hok hst hR1
      obtain ⟨d0, d1, d2, d3, d4⟩ := hin2
      go_upto_region 6 with fail
      clear d0 d1 d2 d3 d4
      have hwz : w.heap.size ≤ wr.heap.size := hB.out.size
      refine world_gen (fun X => Hid (Ink X wr.heap.size y) ∧ Hid (Wk X gr (.slice va vl vc) n s a k f r.m r.l r.s x) ∧ Hid (X.ownsRow w.heap.size 105 5 x r.L.length (qcs r.L)) ∧ Hid (X.ownsRow w.heap.size 45 5 u6 R1.length (rcs R1)) ∧ Hid (Below w.heap.size w X)) ⟨ink_new _ _, hW.out.call (below_alloc _ _), hx.out.alloc _, hu.out.alloc _, hB.out.alloc hwz _⟩ ?_
      clear hW hx hu hB
      rintro X ⟨hK, hW, hx, hu, hB⟩
      generalize wr.heap.size = gi at hK hwz ⊢
      obtain ⟨rm, rl, rs, rL⟩ := r
      simp only at hW hx
      obtain ⟨c0, c1, c2, c3, c4⟩ := hK.out.c
      obtain ⟨e0, e1, e2, e3, e4, e5, e6, e7, e8, e9, e10, e11, e12⟩ := hW.out.c
      have hXz : w.heap.size ≤ X.heap.size := hB.out.size
      go_wp2_with fail
      refine (wtake_is (.slice va vl vc) x os n s a k f rm rl rs rL y w.heap.size _ (hv'.out.below hB.out) hx.out hXz hok'.out.1 hok'.out.2.1 hok'.out.2.2.1 hnb hel'.out hok'.out.2.2.2.1 hok'.out.2.2.2.2.1).mono ?_
      rintro e W2 ⟨r', x', q, hrr, rfl, hx2, hq2, b2⟩
      have hrr' : Hid _ := hrr
      obtain ⟨qa, qc, rfl⟩ := own_len hq2
      obtain ⟨ya, yc, rfl⟩ := own_len hx2
      have hW2 : Hid (Wk W2 gr (.slice va vl vc) n s a k f rm rl rs x) := hW.out.call b2
      have hu2 : Hid (W2.ownsRow w.heap.size 45 5 u6 R1.length (rcs R1)) := own_below hu.out b2
      have hB2 : Hid (Below w.heap.size w W2) := hB.out.trans (b2.mono hXz)
      have hq3 : Hid (W2.ownsRow w.heap.size 45 5 (.slice qa (rowR ⟨os, n, s, a, k, f⟩ ⟨rm, rl, rs, rL⟩ y).length qc) (rowR ⟨os, n, s, a, k, f⟩ ⟨rm, rl, rs, rL⟩ y).length (rcs (rowR ⟨os, n, s, a, k, f⟩ ⟨rm, rl, rs, rL⟩ y))) := O.own_base hq2 hXz
      have hx3 : Hid (W2.ownsRow w.heap.size 105 5 (.slice ya r'.L.length yc) r'.L.length (qcs r'.L)) := hx2
      have hrl2 := (step_len ⟨os, n, s, a, k, f⟩ ⟨rm, rl, rs, rL⟩ y).2
      have hrl3 : Hid ((rowR ⟨os, n, s, a, k, f⟩ ⟨rm, rl, rs, rL⟩ y).length ≤ 100000) := Nat.le_trans hrl2 hok'.out.2.1
      clear hW hx hu hB hq2 hx2 b2 hrr hrl2 hK c0 c1 c2 c3 c4 e0 e1 e2 e3 e4 e5 e6 e7 e8 e9 e10 e11 e12
      generalize rowR ⟨os, n, s, a, k, f⟩ ⟨rm, rl, rs, rL⟩ y = Q at hq3 hr2 hrl3 ⊢
      obtain ⟨e0, e1, e2, e3, e4, e5, e6, e7, e8, e9, e10, e11, e12⟩ := hW2.out.c
      have f0 := hW2.out.free 0
      have f1 := hW2.out.free 1
      have f2 := hW2.out.free 2
      have f3 := hW2.out.free 3
      have f4 := hW2.out.free 4
      have f5 := hW2.out.free 5
      have f6 := hW2.out.free 6
      have f7 := hW2.out.free 7
      have f8 := hW2.out.free 8
      have f9 := hW2.out.free 9
      have f10 := hW2.out.free 10
      have f11 := hW2.out.free 11
      have f12 := hW2.out.free 12
      go_upto_region 8 with fail
      have hall := wk_all hW2.out (.slice va vl vc) (.slice ya r'.L.length yc) n s a k f r'.m r'.l r'.s
      clear e0 e1 e2 e3 e4 e5 e6 e7 e8 e9 e10 e11 e12 f0 f1 f2 f3 f4 f5 f6 f7 f8 f9 f10 f11 f12
      generalize ((((((((((((W2.setCell ⟨gr, 0, none⟩ (.slice va vl vc)).setCell ⟨gr, 1, none⟩ (.int .i64 n)).setCell ⟨gr, 2, none⟩ (.int .i64 s)).setCell ⟨gr, 3, none⟩ (.int .i64 a)).setCell ⟨gr, 4, none⟩ (.int .i64 k)).setCell ⟨gr, 5, none⟩ (.int .i64 f)).setCell ⟨gr, 6, none⟩ (.int .i64 r'.m)).setCell ⟨gr, 7, none⟩ (.int .i64 r'.l)).setCell ⟨gr, 8, none⟩ (.int .i64 r'.s)).setCell ⟨gr, 9, none⟩ (.int .i64 n)).setCell ⟨gr, 10, none⟩ (.int .i64 s)).setCell ⟨gr, 11, none⟩ (.int .i64 a)).setCell ⟨gr, 12, none⟩ (.slice ya r'.L.length yc) = Z at hall ⊢
      obtain ⟨hz1, hz2, hz3, hz4⟩ := hall
      have hx9 : Hid (Z.ownsRow w.heap.size 105 5 (.slice ya r'.L.length yc) r'.L.length (qcs r'.L)) := own_blk hx3.out (Nat.le_of_eq hz3.symm) (fun q hq => hz2 q (own_typed hx3.out hW2.out (by decide) q hq))
      have hu9 : Hid (Z.ownsRow w.heap.size 45 5 u6 R1.length (rcs R1)) := own_blk hu2.out (Nat.le_of_eq hz3.symm) (fun q hq => hz2 q (own_typed hu2.out hW2.out (by decide) q hq))
      have hq9 : Hid (Z.ownsRow w.heap.size 45 5 (.slice qa Q.length qc) Q.length (rcs Q)) := own_blk hq3.out (Nat.le_of_eq hz3.symm) (fun q hq => hz2 q (own_typed hq3.out hW2.out (by decide) q hq))
      have hBZ : Hid (Below w.heap.size w Z) := hB2.out.trans (hz4 _ hgr)
      have hWZ : Hid (Wk Z gr (.slice va vl vc) n s a k f r'.m r'.l r'.s (.slice ya r'.L.length yc)) := hz1
      have hZz : w.heap.size ≤ Z.heap.size := hBZ.out.size
      clear hz1 hz2 hz3 hz4 hx3 hu2 hq3 hB2 hW2
      go_wp2_with (at_builtin; refine wpList_append_srcG _ (by rfl) _ _ 39 rfl 5 w.heap.size 45 i0 rzero 40 Try.underlying39 hi hx0 hx1 hx2 rfl (by decide) u6 R1.length (rcs R1) rfl hu9.out (.slice qa Q.length qc) Q.length (rcs Q) rfl (srcN_own hq9.out) (rcs_one _) ?c1 ?c2 ?c3 ?_)
      case c1 => have := hRl.out; have := hrl3.out; unfold maxLen; omega
      case c2 => have := hRl.out; have := hrl3.out; omega
      case c3 => exact hZz
      intro v8 W8 o8 b8 g8
      have hW8 : Hid (Wk W8 gr (.slice va vl vc) n s a k f r'.m r'.l r'.s (.slice ya r'.L.length yc)) := hWZ.out.keep (g8.block gr hWZ.out.lt (fun e => own_typed hu9.out hWZ.out (by decide) gr e.symm rfl))
      have hx8 : Hid (W8.ownsRow w.heap.size 105 5 (.slice ya r'.L.length yc) r'.L.length (qcs r'.L)) := own_grown hx9.out g8 (fun z hz => own_ne hx9.out hu9.out (by decide) z hz)
      have hB8 : Hid (Below w.heap.size w W8) := hBZ.out.trans b8
      have hs9 : Hid (stR ⟨os, n, s, a, k, f⟩ r0 (is.take (j + 1)) = r') := by
        have h : stR ⟨os, n, s, a, k, f⟩ r0 (is.take (j + 1)) = r' := by rw [hs2.out]; exact hrr'.out
        exact h
      have ho8 : Hid (W8.ownsRow w.heap.size 45 5 v8 (rowsR ⟨os, n, s, a, k, f⟩ r0 (is.take (j + 1))).length (rcs (rowsR ⟨os, n, s, a, k, f⟩ r0 (is.take (j + 1))))) := by
        have h : W8.ownsRow w.heap.size 45 5 v8 (rowsR ⟨os, n, s, a, k, f⟩ r0 (is.take (j + 1))).length (rcs (rowsR ⟨os, n, s, a, k, f⟩ r0 (is.take (j + 1)))) := by rw [hr2.out, rcs_append, List.length_append]; exact o8
        exact h
      clear o8 b8 g8 hWZ hx9 hu9 hq9 hBZ hs2 hr2 hrr' hok'
      go_wp2_with fail
      go_roundw
      case rel => exact ⟨j + 1, r', _, by omega, by go_num, hs9, hW8, hx8, ho8, hB8⟩
      case measure => simp [intOf]; omega
    · obtain rfl : m = j := by omega
      rw [List.take_of_length_le (Nat.le_of_eq hm.out)] at hu
      go_wp2_with fail
      go_ret
      exact ⟨_, rfl, hu.out, hB.out⟩
end Go.Proofs.Ytombgbdplafooaa
/- WholeTells, walked. -/
namespace Go.Proofs.Ytombgbdplafooaa
open Go.RowKit M
open O (RdO Kpk Pik Small Ints)
open O.MO (Oq Pq rightP)
set_option linter.unusedVariables false
set_option linter.unusedSimpArgs false
attribute [local go_sem ↓] Go.wp_at_zero Go.wp_at_succ

theorem IsOps.below {w w' : World} {a : Option Addr} {len cap : Nat} {os : List Oq} (h : IsOps w a len cap os) (hb : Below w.heap.size w w') : IsOps w' a len cap os := by
  rcases h with h | ⟨b, off, rfl, hb2, hl, hm, hlen, hat, hn⟩
  · exact .inl h
  · refine .inr ⟨b, off, rfl, Nat.lt_of_lt_of_le hb2 hb.size, hl, hm, hlen, fun i hi => ?_, hn⟩
    obtain ⟨h0, h1⟩ := hat i hi
    exact ⟨(hb.cell (p := ⟨b, off + i * 2, none⟩) hb2).trans h0, (hb.cell (p := ⟨b, off + i * 2 + 1, none⟩) hb2).trans h1⟩
/-- All that stays while the document's own runner goes on beside the program's calls. -/
structure TL (w W : World) (g0 gp gq : Nat) (U : Value) (p : Pq) (qi : Nat) (iv : Value) (is : List Inp) (ra : Option Addr) (rl rc : Nat) (rn rs rg rk rf : Int) (ros : List Oq) (qf : Nat) (fv : Value) (fs : List Inp) : Prop where
  E : WE w W g0 gp U p qi iv is
  Q : Pik W gq (.slice ra rl rc) rn rs rg rk rf
  R : IsOps W ra rl rc ros
  F : RdI W fv qf fs
  q : g0 ≤ gq
section
variable {w W W' : World} {g0 gp gq : Nat} {U : Value} {p : Pq} {qi : Nat} {iv : Value} {is : List Inp} {ra : Option Addr} {rl rc : Nat} {rn rs rg rk rf : Int} {ros : List Oq} {qf : Nat} {fv : Value} {fs : List Inp}
theorem TL.call (h : TL w W g0 gp gq U p qi iv is ra rl rc rn rs rg rk rf ros qf fv fs) (hb : Below W.heap.size W W') : TL w W' g0 gp gq U p qi iv is ra rl rc rn rs rg rk rf ros qf fv fs :=
  ⟨h.E.call hb, h.Q.call hb, h.R.below hb, h.F.below hb, h.q⟩
end
/-- The inputs with the room behind them. -/
def F80 (is : List Inp) : List Inp := is ++ List.replicate 80 ⟨true, ⟨0, 0, 0, 0⟩⟩
theorem f80_len (is : List Inp) : (F80 is).length = is.length + 80 := by unfold F80; simp
theorem f80_take (is : List Inp) (m : Nat) (h : is.length = m) : (F80 is).take m = is := by unfold F80; rw [← h]; exact List.take_left' rfl
theorem f80_lab {is : List Inp} (h : ∀ i ∈ is, i.e.l < 18446744073709551616) : ∀ i ∈ F80 is, i.e.l < 18446744073709551616 := fun i hi => by
  unfold F80 at hi
  rcases List.mem_append.1 hi with h1 | h1
  · exact h i h1
  · rw [List.eq_of_mem_replicate h1]; decide
theorem roomy_m (v : Value) (qb : Nat) (zs : List Inp) (w : World) (hv : RdI w v qb zs) (hl : zs.length ≤ 60) :
    Calls Try.prog 42 #[v, .agg #[.bool true, .int .i64 0, .int .i64 0, .int .i64 0, .int .u64 0]] w fun e w' => ∃ u, e = .returned u ∧ w'.ownsRow w.heap.size 71 5 u (F80 zs).length (ins (F80 zs)) ∧ Below w.heap.size w w' := roomy_i v qb zs ⟨true, ⟨0, 0, 0, 0⟩⟩ w hv hl
theorem intact_m (vf vw : Value) (qf qw : Nat) (zs : List Inp) (w : World) (hf : RdI w vf qf (F80 zs)) (hv : RdI w vw qw zs) (hl : zs.length ≤ 60) :
    Calls Try.prog 45 #[vf, vw, .agg #[.bool true, .int .i64 0, .int .i64 0, .int .i64 0, .int .u64 0]] w fun e w' => e = .returned (.bool true) ∧ Below w.heap.size w w' := intact_i vf vw qf qw zs ⟨true, ⟨0, 0, 0, 0⟩⟩ w hf hv hl
structure TT (w W : World) (g0 gp gr : Nat) (U : Value) (p : Pq) (x : Value) (is : List Inp) (qi : Nat) (iv : Value) (qf : Nat) (fv : Value) (fs : List Inp) (u : Value) : Prop where
  P : Pik W gp U p.n p.s p.a p.k p.f
  O : OpsIn W U p.os
  I : RdI W iv qi is
  F : RdI W fv qf fs
  A : RdR W u (rowsR p r0 is)
  wk : Wk W gr U p.n p.s p.a p.k p.f (stR p r0 is).m (stR p r0 is).l (stR p r0 is).s x
  B : Below g0 w W
  qi : qi ≤ W.heap.size
  qf : qf ≤ W.heap.size
  z : g0 ≤ W.heap.size
theorem TT.call {w W W' : World} {g0 gp gr : Nat} {U : Value} {p : Pq} {x : Value} {is : List Inp} {qi : Nat} {iv : Value} {qf : Nat} {fv : Value} {fs : List Inp} {u : Value} (h : TT w W g0 gp gr U p x is qi iv qf fv fs u) (hb : Below W.heap.size W W') : TT w W' g0 gp gr U p x is qi iv qf fv fs u :=
  ⟨h.P.call hb, h.O.below hb, h.I.below hb, h.F.below hb, h.A.below hb, h.wk.call hb, h.B.trans (hb.mono h.z), Nat.le_trans h.qi hb.size, Nat.le_trans h.qf hb.size, Nat.le_trans h.z hb.size⟩
set_option maxHeartbeats 4000000 in
set_option maxRecDepth 100000 in
theorem wholeTells_walk (k : KeepIn) (la : Option Addr) (ll lc : Nat) (a2 : PipeIn) (w : World) (hk : IsKeep w k) (hI : Ins4 w la ll lc) (h2 : IsPipe w a2) :
    Calls Try.prog 7 #[kin k, .slice la ll lc, pin a2] w fun e w' => e = .returned (.bool true) ∧ Below w.heap.size w w' := by
  obtain ⟨ao, lo, co, an, ln, cn, kn, ks, kg, kk, kf⟩ := k
  obtain ⟨ra, rl, rc, rn, rs, rg, rk, rf⟩ := a2
  unfold kin pin
  obtain ⟨hk1, hk2⟩ := hk
  obtain ⟨ros, h2⟩ := h2
  simp only at hk1 hk2 h2
  have hI' : Hid (Ins4 w la ll lc) := hI
  have hrc := h2.caps
  have h2' : Hid (IsOps w ra rl rc ros) := h2
  clear hI
  go_enter Try.func7, Try.ntmps7
  go_upto_region 1 with fail
  refine world_gen (fun W => Hid (Kpk W w.heap.size (.slice ao lo co) (.slice an ln cn) kn ks kg kk kf) ∧ Hid (Ints W ao lo co) ∧ Hid (Ints W an ln cn) ∧ Hid (Below w.heap.size w W) ∧ Hid (Pik W (w.heap.size + 1) (.slice ra rl rc) rn rs rg rk rf) ∧ Hid (IsOps W ra rl rc ros)) ⟨?g1, (hk1.call (below_alloc _ _)).call (below_alloc _ _), (hk2.call (below_alloc _ _)).call (below_alloc _ _), (below_alloc _ _).alloc (by simp) _, ?g5, (h2.below (below_alloc _ _)).below (below_alloc _ _)⟩ ?_
  case g1 => exact (O.kpk_new w (.slice ao lo co) (.slice an ln cn) kn ks kg kk kf).call (below_alloc _ _)
  case g5 =>
    have h := O.pik_new (w.alloc (.cells #[.slice ao lo co, .slice an ln cn, .int .i64 kn, .int .i64 ks, .int .i64 kg, .int .i64 kk, .int .i64 kf] 53)) (.slice ra rl rc) rn rs rg rk rf
    rw [show (w.alloc (.cells #[.slice ao lo co, .slice an ln cn, .int .i64 kn, .int .i64 ks, .int .i64 kg, .int .i64 kk, .int .i64 kf] 53)).heap.size = w.heap.size + 1 by simp] at h
    exact h
  clear hk1 hk2 h2
  rintro W ⟨hK, hk1, hk2, hB, hQ, hRo⟩
  obtain ⟨g0, hg0⟩ : ∃ x, Hid (w.heap.size = x) := ⟨_, rfl⟩
  rw [hg0.out] at hK hB hQ ⊢
  obtain ⟨gq, hgq⟩ : ∃ g, g0 + 1 = g := ⟨_, rfl⟩
  rw [hgq] at hQ ⊢
  have hgq0 : g0 ≤ gq := by omega
  clear hgq
  have c0 := hK.out.c0
  have c1 := hK.out.c1
  have c2 := hK.out.c2
  have c3 := hK.out.c3
  have c4 := hK.out.c4
  have c5 := hK.out.c5
  have c6 := hK.out.c6
  go_wp2_with fail
  refine (O.keep_any ao lo co an ln cn kn ks kg kk kf _ hk1.out hk2.out).mono ?_
  rintro e W1 ⟨⟨os, pn, ps, pa, pk, pf⟩, u, hS, he, ho, hu, b1⟩
  simp only at he ho
  subst he
  obtain ⟨ua, uc, rfl⟩ := own_len ho
  have hS' : Hid (Small ⟨os, pn, ps, pa, pk, pf⟩) := hS
  have hO : Hid (OpsIn W1 (.slice ua os.length uc) os) := ⟨O.own_base ho (Nat.zero_le _), (small_new hS).2.2.1⟩
  have hWz : g0 ≤ W.heap.size := by have := hB.out.size; have := hg0.out; omega
  replace hB : Hid (Below g0 w W1) := hB.out.trans (b1.mono hWz)
  have hqp : gq < W1.heap.size := by have h1 := b1.size; have h2 := hQ.out.lt; omega
  replace hQ : Hid (Pik W1 gq (.slice ra rl rc) rn rs rg rk rf) := hQ.out.call b1
  replace hRo : Hid (IsOps W1 ra rl rc ros) := hRo.out.below b1
  clear hK hk1 hk2 c0 c1 c2 c3 c4 c5 c6 ho hu b1 hS
  go_upto_region 2 with fail
  refine world_gen (fun X => Hid (Pik X W1.heap.size (.slice ua os.length uc) pn ps pa pk pf) ∧ Hid (OpsIn X (.slice ua os.length uc) os) ∧ Hid (Below g0 w X) ∧ W1.heap.size < X.heap.size ∧ Hid (Pik X gq (.slice ra rl rc) rn rs rg rk rf) ∧ Hid (IsOps X ra rl rc ros)) ⟨O.pik_new _ _ _ _ _ _ _, hO.out.below (below_alloc _ _), hB.out.alloc (by have := hB.out.size; have := hg0.out; omega) _, by simp, hQ.out.call (below_alloc _ _), hRo.out.below (below_alloc _ _)⟩ ?_
  have hgw : g0 ≤ W1.heap.size := by have := hB.out.size; have := hg0.out; omega
  clear hO hB hQ hRo
  generalize W1.heap.size = gp at hgw hqp ⊢
  rintro W0 ⟨hP, hO, hB, hgp, hQ, hRo⟩
  go_wp2_with fail
  refine (inputs_is la ll lc _ (hI'.out.below hB.out (Nat.le_of_eq hg0.out) hB.out.size)).mono ?_
  rintro e W3 ⟨iu, is, rfl, hl25, hG, ho, b3⟩
  obtain ⟨ia, ic, rfl⟩ := own_len ho
  obtain ⟨qi, hrd, hq1, hq3, hq4⟩ := rdi_own ho (fun i hi => (hG i hi).lt) b3.size
  have hG' : Hid (∀ i ∈ is, Good i) := hG
  have hE : Hid (WE w W3 g0 gp (.slice ua os.length uc) ⟨os, pn, ps, pa, pk, pf⟩ qi (.slice ia is.length ic) is) := ⟨hP.out.call b3, hO.out.below b3, hrd, hB.out.trans (b3.mono (by omega)), hgw, by have := b3.size; omega, hq4⟩
  have hown : Hid (W3.ownsRow W0.heap.size 71 5 (.slice ia is.length ic) is.length (ins is)) := ho
  have hz3 : W0.heap.size ≤ W3.heap.size := b3.size
  replace hQ : Hid (Pik W3 gq (.slice ra rl rc) rn rs rg rk rf) := hQ.out.call b3
  replace hRo : Hid (IsOps W3 ra rl rc ros) := hRo.out.below b3
  clear hP hO hB hrd hG ho b3 hq3 hq4 hq1
  obtain ⟨m, hm⟩ : ∃ m, Hid (is.length = m) := ⟨_, rfl⟩
  rw [hm.out] at hl25 hE hown ⊢
  obtain ⟨hmI, hic, hic2⟩ := hE.out.I.caps
  clear hmI
  go_wp2_with fail
  refine (roomy_m (.slice ia m ic) qi is _ hE.out.I (by rw [hm.out]; omega)).mono ?_
  rintro e W4 ⟨u9, rfl, ho4, b4⟩
  have hfl : (F80 is).length = m + 80 := by rw [f80_len, hm.out]
  have hlabF : ∀ i ∈ F80 is, i.e.l < 18446744073709551616 := f80_lab (good_l hG'.out)
  obtain ⟨qf, hF, hz1, hz2, hqf⟩ := rdi_own ho4 hlabF b4.size
  obtain ⟨fa, fc, rfl⟩ := own_len ho4
  have hfc := hF.caps
  have hfl' : Hid ((F80 is).length = m + 80) := hfl
  have hT : Hid (TL w W4 g0 gp gq (.slice ua os.length uc) ⟨os, pn, ps, pa, pk, pf⟩ qi (.slice ia m ic) is ra rl rc rn rs rg rk rf ros qf (.slice fa (F80 is).length fc) (F80 is)) := ⟨hE.out.call b4, hQ.out.call b4, hRo.out.below b4, hF, hgq0⟩
  have hqf' : qf ≤ W4.heap.size := hqf
  have hzA : W0.heap.size ≤ W4.heap.size ∧ W3.heap.size ≤ W4.heap.size := by have := b4.size; omega
  replace hown : Hid (W4.ownsRow W0.heap.size 71 5 (.slice ia m ic) m (ins is)) := own_below hown.out b4
  have hownF : Hid (W4.ownsRow W3.heap.size 71 5 (.slice fa (F80 is).length fc) (F80 is).length (ins (F80 is))) := by
    exact ho4
  have htk : Hid ((F80 is).take m = is) := by
    have h : (F80 is).take m = is := f80_take is m hm.out
    exact h
  clear hE hQ hRo hF hz1 hz2 ho4 b4 hfl hlabF hqf
  have hfm : m ≤ fc := by have := hfl'.out; omega
  have hfm2 : m ≤ (F80 is).length := by have := hfl'.out; omega
  go_upto_region 4 with fail
  refine wp_region_held_drew (S := fun X => Below W4.heap.size W4 X) (by kernel_rfl) (Below.refl _ _).drew (fun hHeld => ?_)
  generalize W4.drew = V at hHeld ⊢
  refine take_at (i := 0) (v := O.pv (.slice ua os.length uc) pn ps pa pk pf) rfl rfl (by kernel_rfl) (by kernel_rfl) (by kernel_rfl) (fun _ _ _ h => h) (Or.inl ⟨by rfl, fun X hX => by have h := (hT.out.E.P).call hX; have c0 := h.c0; have c1 := h.c1; have c2 := h.c2; have c3 := h.c3; have c4 := h.c4; have c5 := h.c5; go_simp⟩) hHeld ?_
  try simp only [Act.put, List.setIfInBounds_toArray, List.set_cons_zero, List.set_cons_succ]
  refine take_at (i := 1) (v := .slice fa (F80 is).length fc) rfl rfl (by kernel_rfl) (by kernel_rfl) (by kernel_rfl) (fun _ _ _ h => h) (Or.inl ⟨by rfl, fun X _ => by go_simp⟩) hHeld ?_
  try simp only [Act.put, List.setIfInBounds_toArray, List.set_cons_zero, List.set_cons_succ]
  refine take_at (i := 2) (v := .slice ia m ic) rfl rfl (by kernel_rfl) (by kernel_rfl) (by kernel_rfl) (fun _ _ _ h => h) (Or.inl ⟨by rfl, fun X _ => by go_simp⟩) hHeld ?_
  try simp only [Act.put, List.setIfInBounds_toArray, List.set_cons_zero, List.set_cons_succ]
  refine take_at (i := 3) (v := .int .i64 (m : Int)) rfl rfl (by kernel_rfl) (by kernel_rfl) (by kernel_rfl) (fun _ _ _ h => h) (Or.inl ⟨by rfl, fun X _ => by go_simp⟩) hHeld ?_
  try simp only [Act.put, List.setIfInBounds_toArray, List.set_cons_zero, List.set_cons_succ]
  refine take_at (i := 4) (v := .slice fa m fc) rfl rfl (by kernel_rfl) (by kernel_rfl) (by kernel_rfl) (fun _ _ _ h => h) (Or.inl ⟨by rfl, fun X _ => by go_simp⟩) hHeld ?_
  try simp only [Act.put, List.setIfInBounds_toArray, List.set_cons_zero, List.set_cons_succ]
  refine wpAnyH_ready (rs := [5]) (by kernel_rfl) (by simp) ?_
  refine AllReadyH.cons rfl (fun K hK => ?_) AllReadyH.nil
  rw [if_pos (by rfl)]
  go_wp2_with fail
  refine (wrows_is (.slice ua os.length uc) ⟨os, pn, ps, pa, pk, pf⟩ (.slice fa m fc) qf (is) _ (hT.out.E.O.below hHeld) (small_new hS'.out).1 (small_new hS'.out).2.1 (by have h := hT.out.F.take (m := m) (by rw [f80_len, hm.out]; omega); rw [htk.out] at h; exact h.below hHeld) (by have := hHeld.size; have := hqf'; omega) (by rw [hm.out]; omega)).mono ?_
  rintro e V5 ⟨u10, rfl, hu10, hb⟩
  have hr10 : Hid (V5.ownsRow V.heap.size 45 5 u10 (rowsR ⟨os, pn, ps, pa, pk, pf⟩ r0 (is)).length (rcs (rowsR ⟨os, pn, ps, pa, pk, pf⟩ r0 (is)))) := hu10
  clear hu10
  have hHb := below_call hHeld hb
  clear hHeld hb
  go_wp2_with fail
  refine hK.out _ _ (hHb) (fun hHeld => ?_)
  clear hK K hHb
  try simp only [Act.put, List.setIfInBounds_toArray, List.set_cons_zero, List.set_cons_succ]
  refine take_at (i := 6) (v := u10) rfl rfl (by kernel_rfl) (by kernel_rfl) (by kernel_rfl) (fun _ _ _ h => h) (Or.inl ⟨by rfl, fun X _ => by go_simp⟩) hHeld ?_
  try simp only [Act.put, List.setIfInBounds_toArray, List.set_cons_zero, List.set_cons_succ]
  refine wpAnyH_done (by kernel_rfl) ?_ _
  have hT5 : Hid (TL w V5 g0 gp gq (.slice ua os.length uc) ⟨os, pn, ps, pa, pk, pf⟩ qi (.slice ia m ic) is ra rl rc rn rs rg rk rf ros qf (.slice fa (F80 is).length fc) (F80 is)) := hT.out.call hHeld
  have hzB : W0.heap.size ≤ V5.heap.size ∧ W3.heap.size ≤ V5.heap.size := by have := hHeld.size; omega
  replace hown : Hid (V5.ownsRow W0.heap.size 71 5 (.slice ia m ic) m (ins is)) := own_below hown.out hHeld
  replace hownF : Hid (V5.ownsRow W3.heap.size 71 5 (.slice fa (F80 is).length fc) (F80 is).length (ins (F80 is))) := own_below hownF.out hHeld
  clear hT hHeld htk
  have c0 := hT5.out.E.P.c0
  have c1 := hT5.out.E.P.c1
  have c2 := hT5.out.E.P.c2
  have c3 := hT5.out.E.P.c3
  have c4 := hT5.out.E.P.c4
  have c5 := hT5.out.E.P.c5
  go_wp2_with fail
  refine (wnew_is (.slice ua os.length uc) os pn ps pa pk pf _ hT5.out.E.O).mono ?_
  rintro e W6 ⟨rfl, b6⟩
  have hT6 : Hid (TL w W6 g0 gp gq (.slice ua os.length uc) ⟨os, pn, ps, pa, pk, pf⟩ qi (.slice ia m ic) is ra rl rc rn rs rg rk rf ros qf (.slice fa (F80 is).length fc) (F80 is)) := hT5.out.call b6
  replace hr10 : Hid (W6.ownsRow V.heap.size 45 5 u10 (rowsR ⟨os, pn, ps, pa, pk, pf⟩ r0 is).length (rcs (rowsR ⟨os, pn, ps, pa, pk, pf⟩ r0 is))) := own_below hr10.out b6
  have hzC : W0.heap.size ≤ W6.heap.size ∧ W3.heap.size ≤ W6.heap.size := by have := b6.size; omega
  replace hown : Hid (W6.ownsRow W0.heap.size 71 5 (.slice ia m ic) m (ins is)) := own_below hown.out b6
  replace hownF : Hid (W6.ownsRow W3.heap.size 71 5 (.slice fa (F80 is).length fc) (F80 is).length (ins (F80 is))) := own_below hownF.out b6
  clear hT5 b6 c0 c1 c2 c3 c4 c5
  go_upto_region 6 with fail
  refine world_gen (fun Y => Hid (Wk Y W6.heap.size (.slice ua os.length uc) pn ps pa pk pf 0 0 0 (.slice none 0 0)) ∧ Hid (Below W6.heap.size W6 Y)) ⟨wk_new W6 (.slice ua os.length uc) (.slice none 0 0) pn ps pa pk pf 0 0 0, below_alloc _ _⟩ ?_
  rintro Y ⟨hW, hB6⟩
  obtain ⟨gr, hgr⟩ : ∃ g, Hid (W6.heap.size = g) := ⟨_, rfl⟩
  rw [hgr.out] at hW hB6 hzC ⊢
  clear hzA hzB hz3
  go_wp2_with fail
  go_loopw [12, 32] (fun lb i wr => ∃ (j N : Nat) (r : Rs) (x : Value), j ≤ m ∧ i = .int .i64 j ∧ lb = .int .u64 (N : Nat) ∧ Hid (labs (is.take j) = N) ∧ Hid (stR ⟨os, pn, ps, pa, pk, pf⟩ r0 (is.take j) = r) ∧ Hid (Wk wr gr (.slice ua os.length uc) pn ps pa pk pf r.m r.l r.s x) ∧ Hid (wr.ownsRow gr 105 5 x r.L.length (qcs r.L)) ∧ Hid (Below gr W6 wr)) (fun _ i _ => m - (intOf i).toNat)
  case atStart => exact ⟨0, 0, r0, .slice none 0 0, Nat.zero_le _, rfl, rfl, rfl, rfl, hW, World.ownsRow_nil _ _ _ _, hB6⟩
  case round =>
    obtain ⟨j, N, r, x, hj, rfl, rfl, hN, hst, hW, hx, hBr⟩ := hrel
    have hBr2 : Hid (Below W6.heap.size W6 wr) := by
      have h : Below W6.heap.size W6 wr := by rw [hgr.out]; exact hBr.out
      exact h
    have hgrz : gr ≤ wr.heap.size := Nat.le_of_lt hW.out.lt
    by_cases hlt : j < m
    · have hjl : j < is.length := by rw [hm.out]; exact hlt
      obtain ⟨hl, hll, ao', cap', he', hlc, hcm', hcell⟩ := (hT6.out.E.I.below hBr2.out)
      injection he' with he1 he2 he3
      subst he1 he3
      obtain ⟨off, rfl, hgb, hrow⟩ := hcell (by omega)
      have hat := hrow j hjl
      have hel := hll _ (iAt_mem is j hjl)
      have hok := st_ok (p := ⟨os, pn, ps, pa, pk, pf⟩) (small_new hS'.out).2.2.2 (is := is.take j) (fun i hi => hll i (List.mem_of_mem_take hi)) (by rw [List.length_take]; omega)
      rw [hst.out] at hok
      have hok' : Hid _ := hok
      have hNl : Hid (N < 18446744073709551616) := by
        have h : N < 18446744073709551616 := by rw [← hN.out]; exact labs_lt _ (fun i hi => hll i (List.mem_of_mem_take hi))
        exact h
      have hs2 : Hid (stR ⟨os, pn, ps, pa, pk, pf⟩ r0 (is.take (j + 1)) = stepR ⟨os, pn, ps, pa, pk, pf⟩ r (iAt is j)) := by
        have h : stR ⟨os, pn, ps, pa, pk, pf⟩ r0 (is.take (j + 1)) = stepR ⟨os, pn, ps, pa, pk, pf⟩ r (iAt is j) := by rw [take_in is j hjl, stR_snoc, hst.out]
        exact h
      have hl2 : Hid (labs (is.take (j + 1)) = N ||| labI (iAt is j)) := by
        have h : labs (is.take (j + 1)) = N ||| labI (iAt is j) := by rw [take_in is j hjl, labs_snoc, hN.out]
        exact h
      obtain ⟨y, hy⟩ : ∃ y, Hid (iAt is j = y) := ⟨_, rfl⟩
      rw [hy.out] at hat hel hs2 hl2
      have hel' : Hid (y.e.l < 18446744073709551616) := hel
      clear hcell hrow hl hll hlc hcm' he2 hgb hy hel hok hst hN hjl
      obtain ⟨d0, d1, d2, d3, d4⟩ := hat
      go_upto_region 10 with fail
      clear d0 d1 d2 d3 d4
      refine world_gen (fun X => Hid (Ink X wr.heap.size y) ∧ Hid (Wk X gr (.slice ua os.length uc) pn ps pa pk pf r.m r.l r.s x) ∧ Hid (X.ownsRow gr 105 5 x r.L.length (qcs r.L)) ∧ Hid (Below gr W6 X)) ⟨ink_new _ _, hW.out.call (below_alloc _ _), hx.out.alloc _, hBr.out.alloc hgrz _⟩ ?_
      clear hW hx hBr hBr2
      rintro X ⟨hK, hW, hx, hBr⟩
      generalize wr.heap.size = gi at hK hgrz ⊢
      obtain ⟨rm, rl', rs', rL⟩ := r
      simp only at hW hx
      obtain ⟨c0, c1, c2, c3, c4⟩ := hK.out.c
      obtain ⟨e0, e1, e2, e3, e4, e5, e6, e7, e8, e9, e10, e11, e12⟩ := hW.out.c
      have hXz : gr ≤ X.heap.size := Nat.le_of_lt hW.out.lt
      have hBX : Hid (Below W6.heap.size W6 X) := by
        have h : Below W6.heap.size W6 X := by rw [hgr.out]; exact hBr.out
        exact h
      go_wp2_with fail
      refine (wtake_is (.slice ua os.length uc) x os pn ps pa pk pf rm rl' rs' rL y gr _ (hT6.out.E.O.below hBX.out) hx.out hXz hok'.out.1 hok'.out.2.1 hok'.out.2.2.1 (by have h := small_n hS'.out; have h2 := hS'.out.2.2; simp only at h h2; omega) hel'.out hok'.out.2.2.2.1 hok'.out.2.2.2.2.1).mono ?_
      rintro e W2 ⟨r', x', q, hrr, rfl, hx2, hq2, b2⟩
      have hrr' : Hid _ := hrr
      obtain ⟨qa, qc, rfl⟩ := own_len hq2
      obtain ⟨ya, yc, rfl⟩ := own_len hx2
      have hW2 : Hid (Wk W2 gr (.slice ua os.length uc) pn ps pa pk pf rm rl' rs' x) := hW.out.call b2
      have hK2 : Hid (Ink W2 gi y) := hK.out.call b2
      have hB2 : Hid (Below gr W6 W2) := hBr.out.trans (b2.mono hXz)
      have hx3 : Hid (W2.ownsRow gr 105 5 (.slice ya r'.L.length yc) r'.L.length (qcs r'.L)) := hx2
      have hgig : gr ≠ gi := by
        intro e; subst e
        have h1 := hK2.out; have h2 := hW2.out
        unfold Ink at h1; unfold Wk at h2
        rw [h1] at h2; simp at h2
      clear hW hx hBr hq2 hx2 b2 hrr hK hBX c0 c1 c2 c3 c4 e0 e1 e2 e3 e4 e5 e6 e7 e8 e9 e10 e11 e12
      obtain ⟨e0, e1, e2, e3, e4, e5, e6, e7, e8, e9, e10, e11, e12⟩ := hW2.out.c
      have f0 := hW2.out.free 0
      have f1 := hW2.out.free 1
      have f2 := hW2.out.free 2
      have f3 := hW2.out.free 3
      have f4 := hW2.out.free 4
      have f5 := hW2.out.free 5
      have f6 := hW2.out.free 6
      have f7 := hW2.out.free 7
      have f8 := hW2.out.free 8
      have f9 := hW2.out.free 9
      have f10 := hW2.out.free 10
      have f11 := hW2.out.free 11
      have f12 := hW2.out.free 12
      go_upto_region 11 with fail
      have hall := wk_all hW2.out (.slice ua os.length uc) (.slice ya r'.L.length yc) pn ps pa pk pf r'.m r'.l r'.s
      clear e0 e1 e2 e3 e4 e5 e6 e7 e8 e9 e10 e11 e12 f0 f1 f2 f3 f4 f5 f6 f7 f8 f9 f10 f11 f12
      generalize ((((((((((((W2.setCell ⟨gr, 0, none⟩ (.slice ua os.length uc)).setCell ⟨gr, 1, none⟩ (.int .i64 pn)).setCell ⟨gr, 2, none⟩ (.int .i64 ps)).setCell ⟨gr, 3, none⟩ (.int .i64 pa)).setCell ⟨gr, 4, none⟩ (.int .i64 pk)).setCell ⟨gr, 5, none⟩ (.int .i64 pf)).setCell ⟨gr, 6, none⟩ (.int .i64 r'.m)).setCell ⟨gr, 7, none⟩ (.int .i64 r'.l)).setCell ⟨gr, 8, none⟩ (.int .i64 r'.s)).setCell ⟨gr, 9, none⟩ (.int .i64 pn)).setCell ⟨gr, 10, none⟩ (.int .i64 ps)).setCell ⟨gr, 11, none⟩ (.int .i64 pa)).setCell ⟨gr, 12, none⟩ (.slice ya r'.L.length yc) = Z at hall ⊢
      obtain ⟨hz1, hz2, hz3, hz4⟩ := hall
      have hx9 : Hid (Z.ownsRow gr 105 5 (.slice ya r'.L.length yc) r'.L.length (qcs r'.L)) := own_blk hx3.out (Nat.le_of_eq hz3.symm) (fun q hq => hz2 q (own_typed hx3.out hW2.out (by decide) q hq))
      have hBZ : Hid (Below gr W6 Z) := hB2.out.trans (hz4 _ (Nat.le_refl _))
      have hWZ : Hid (Wk Z gr (.slice ua os.length uc) pn ps pa pk pf r'.m r'.l r'.s (.slice ya r'.L.length yc)) := hz1
      have hKZ : Hid (Ink Z gi y) := hK2.out.keep (hz2 gi (fun e => hgig e.symm))
      have hs9 : Hid (stR ⟨os, pn, ps, pa, pk, pf⟩ r0 (is.take (j + 1)) = r') := by
        have h : stR ⟨os, pn, ps, pa, pk, pf⟩ r0 (is.take (j + 1)) = r' := by rw [hs2.out]; exact hrr'.out
        exact h
      clear hz1 hz2 hz3 hz4 hx3 hB2 hW2 hK2 hs2 hrr' hok'
      obtain ⟨mk, ⟨et, ek, ev, el⟩⟩ := y
      obtain ⟨c0, c1, c2, c3, c4⟩ := hKZ.out.c
      simp only at c0 c1 c2 c3 c4
      cases mk with
      | true =>
        have hl9 : Hid (labs (is.take (j + 1)) = N) := by
          have h : labs (is.take (j + 1)) = N := by rw [hl2.out]; exact Nat.or_zero N
          exact h
        clear hl2
        go_wp2_with fail
        go_roundw
        case rel => exact ⟨j + 1, N, r', _, by omega, by go_num, rfl, hl9, hs9, hWZ, hx9, hBZ⟩
        case measure => simp [intOf]; omega
      | false =>
        have hl9 : Hid (labs (is.take (j + 1)) = N ||| el) := hl2
        clear hl2
        have hor := u64_or_nat N el hNl.out hel'.out
        go_wp2_with fail
        go_roundw
        case rel => exact ⟨j + 1, N ||| el, r', _, by omega, by go_num, by first | rfl | (rw [hor]), hl9, hs9, hWZ, hx9, hBZ⟩
        case measure => simp [intOf]; omega
    · obtain rfl : m = j := by omega
      rw [List.take_of_length_le (Nat.le_of_eq hm.out)] at hN hst
      have hT9 : Hid (TL w wr g0 gp gq (.slice ua os.length uc) ⟨os, pn, ps, pa, pk, pf⟩ qi (.slice ia m ic) is ra rl rc rn rs rg rk rf ros qf (.slice fa (F80 is).length fc) (F80 is)) := hT6.out.call hBr2.out
      replace hr10 : Hid (wr.ownsRow V.heap.size 45 5 u10 (rowsR ⟨os, pn, ps, pa, pk, pf⟩ r0 is).length (rcs (rowsR ⟨os, pn, ps, pa, pk, pf⟩ r0 is))) := own_below hr10.out hBr2.out
      replace hown : Hid (wr.ownsRow W0.heap.size 71 5 (.slice ia m ic) m (ins is)) := own_below hown.out hBr2.out
      replace hownF : Hid (wr.ownsRow W3.heap.size 71 5 (.slice fa (F80 is).length fc) (F80 is).length (ins (F80 is))) := own_below hownF.out hBr2.out
      clear hT6 hBr2
      obtain ⟨xa, xc, rfl⟩ := own_len hx.out
      have c0 := hT9.out.Q.c0
      have f0 := hT9.out.Q.free 0
      obtain ⟨kq, hkq⟩ : ∃ kq : Nat, Hid (kq = min rl 9) := ⟨_, rfl⟩
      have hkq2 : kq ≤ rl ∧ kq ≤ 9 := by have := hkq.out; omega
      have hkc : kq ≤ rc := by omega
      have hgg : gp ≠ gq := by omega
      have hzz0 : W0.heap.size ≤ wr.heap.size := by omega
      have hzz3 : W3.heap.size ≤ wr.heap.size := by omega
      have hBe : Hid (Below g0 w wr) := hT9.out.E.B
      have hset : Hid (wr.setCell ⟨gq, 0, none⟩ (.slice ra kq rc) = wr.setCell ⟨gq, 0, none⟩ (.slice ra kq rc)) := rfl
      have hX : Hid (Pik (wr.setCell ⟨gq, 0, none⟩ (.slice ra kq rc)) gq (.slice ra kq rc) rn rs rg rk rf ∧ Pik (wr.setCell ⟨gq, 0, none⟩ (.slice ra kq rc)) gp (.slice ua os.length uc) pn ps pa pk pf ∧ OpsIn (wr.setCell ⟨gq, 0, none⟩ (.slice ra kq rc)) (.slice ua os.length uc) os ∧ (wr.setCell ⟨gq, 0, none⟩ (.slice ra kq rc)).ownsRow W0.heap.size 71 5 (.slice ia m ic) m (ins is) ∧ (wr.setCell ⟨gq, 0, none⟩ (.slice ra kq rc)).ownsRow W3.heap.size 71 5 (.slice fa (F80 is).length fc) (F80 is).length (ins (F80 is)) ∧ (wr.setCell ⟨gq, 0, none⟩ (.slice ra kq rc)).ownsRow V.heap.size 45 5 u10 (rowsR ⟨os, pn, ps, pa, pk, pf⟩ r0 is).length (rcs (rowsR ⟨os, pn, ps, pa, pk, pf⟩ r0 is)) ∧ Wk (wr.setCell ⟨gq, 0, none⟩ (.slice ra kq rc)) gr (.slice ua os.length uc) pn ps pa pk pf r.m r.l r.s (.slice xa r.L.length xc) ∧ Below g0 w (wr.setCell ⟨gq, 0, none⟩ (.slice ra kq rc)) ∧ wr.heap.size ≤ (wr.setCell ⟨gq, 0, none⟩ (.slice ra kq rc)).heap.size) := by
        have hQb := hT9.out.Q
        have hgrq : gr ≠ gq := by
          intro e; subst e
          have h1 := hQb; have h2 := hW.out
          unfold Pik at h1; unfold Wk at h2
          rw [h1] at h2; simp at h2
        refine ⟨hQb.set0 _, (keep_set hgg).trans hT9.out.E.P, hT9.out.E.O.keep (fun q hq _ => keep_set (own_typed hT9.out.E.O.1 hQb (by decide) q hq)), own_blk hown.out (Nat.le_of_eq size_set.symm) (fun q hq => keep_set (own_typed hown.out hQb (by decide) q hq)), own_blk hownF.out (Nat.le_of_eq size_set.symm) (fun q hq => keep_set (own_typed hownF.out hQb (by decide) q hq)), own_blk hr10.out (Nat.le_of_eq size_set.symm) (fun q hq => keep_set (own_typed hr10.out hQb (by decide) q hq)), hW.out.keep (keep_set hgrq), hBe.out.setCell (show g0 ≤ gq from hgq0) _, Nat.le_of_eq size_set.symm⟩
      clear hset
      have hgpg : g0 ≤ gq := hgq0
      go_upto_region 14 with fail
      go_cut [57] (fun q wx => Hid (Pik wx gq (.slice ra kq rc) rn rs rg rk rf ∧ Pik wx gp (.slice ua os.length uc) pn ps pa pk pf ∧ OpsIn wx (.slice ua os.length uc) os ∧ wx.ownsRow W0.heap.size 71 5 (.slice ia m ic) m (ins is) ∧ wx.ownsRow W3.heap.size 71 5 (.slice fa (F80 is).length fc) (F80 is).length (ins (F80 is)) ∧ wx.ownsRow V.heap.size 45 5 u10 (rowsR ⟨os, pn, ps, pa, pk, pf⟩ r0 is).length (rcs (rowsR ⟨os, pn, ps, pa, pk, pf⟩ r0 is)) ∧ Wk wx gr (.slice ua os.length uc) pn ps pa pk pf r.m r.l r.s (.slice xa r.L.length xc) ∧ Below g0 w wx ∧ wr.heap.size ≤ wx.heap.size))
      case first =>
        by_cases h9 : rl ≤ 9
        · obtain rfl : kq = rl := by have := hkq.out; omega
          have hm9 : min (kq : Int) 9 = (kq : Int) := by omega
          have hn9 : ¬ (9 : Int) < (kq : Int) := by omega
          go_wp2_with fail
          go_meet
          exact hX
        · obtain rfl : kq = 9 := by have := hkq.out; omega
          have hm9 : min (rl : Int) 9 = (9 : Int) := by omega
          have hn9 : (9 : Int) < (rl : Int) := by omega
          go_wp2_with fail
          go_meet
          exact hX
      case rest =>
        obtain ⟨V2, hV2⟩ : ∃ X, X = wc := ⟨_, rfl⟩
        subst hV2
        obtain ⟨q1, q2, q3, q4, q5, q6, q7, q8, q9⟩ := hcut.out
        have hQ9 : Hid (Pik V2 gq (.slice ra kq rc) rn rs rg rk rf) := q1
        have hP9 : Hid (Pik V2 gp (.slice ua os.length uc) pn ps pa pk pf) := q2
        have hO9 : Hid (OpsIn V2 (.slice ua os.length uc) os) := q3
        have hI9 : Hid (V2.ownsRow W0.heap.size 71 5 (.slice ia m ic) m (ins is)) := q4
        have hF9 : Hid (V2.ownsRow W3.heap.size 71 5 (.slice fa (F80 is).length fc) (F80 is).length (ins (F80 is))) := q5
        have hA9 : Hid (RdR V2 u10 (rowsR ⟨os, pn, ps, pa, pk, pf⟩ r0 is)) := rdr_own q6
        have hW9 : Hid (Wk V2 gr (.slice ua os.length uc) pn ps pa pk pf r.m r.l r.s (.slice xa r.L.length xc)) := q7
        have hB9 : Hid (Below g0 w V2) := q8
        have hbw : Hid (Below w.heap.size w V2) := by
          have h : Below w.heap.size w V2 := by rw [hg0.out]; exact q8
          exact h
        have hrd : Hid (RdO V2 (.slice ra kq rc) (ros.take kq)) := (h2'.out.below hbw.out).rd kq hkq2.1
        have hV2z : g0 ≤ V2.heap.size := by have := hP9.out.lt; omega
        have hlabi : Hid (∀ i ∈ is, i.e.l < 18446744073709551616) := good_l hG'.out
        have hlabF : Hid (∀ i ∈ F80 is, i.e.l < 18446744073709551616) := f80_lab hlabi.out
        have hz0 : W0.heap.size ≤ V2.heap.size ∧ W3.heap.size ≤ V2.heap.size := by
          have h1 := hT9.out.E.hp
          refine ⟨?_, ?_⟩
          · have := hzz0; omega
          · have := hzz3; omega
        obtain ⟨qa1, hIr, hz1, hz2, hqa1⟩ := rdi_own hI9.out hlabi.out hz0.1
        obtain ⟨qb1, hFr, hz3', hz4', hqb1⟩ := rdi_own hF9.out hlabF.out hz0.2
        have hI8 : Hid (RdI V2 (.slice ia m ic) qa1 is) := hIr
        have hF8 : Hid (RdI V2 (.slice fa (F80 is).length fc) qb1 (F80 is)) := hFr
        clear hz1 hz2 hz3' hz4' hIr hFr hcut q1 q2 q3 q4 q5 q6 q7 q8 q9 hX hT9 hr10 hown hownF hI9 hF9 hBe hW hx hBr f0 c0
        have hNN := hN.out
        subst hNN
        have hrr := hst.out
        subst hrr
        generalize hzP : decide ((stR ⟨os, pn, ps, pa, pk, pf⟩ r0 is).L = []) = zP
        have hzP' : Hid (decide ((stR ⟨os, pn, ps, pa, pk, pf⟩ r0 is).L = []) = zP) := hzP
        have hzL : (((stR ⟨os, pn, ps, pa, pk, pf⟩ r0 is).L.length : Int) == 0) = zP := by
          rw [← hzP]
          cases hL : (stR ⟨os, pn, ps, pa, pk, pf⟩ r0 is).L with
          | nil => rfl
          | cons a b => simp; omega
        clear hzP
        have hzL' : Hid ((((stR ⟨os, pn, ps, pa, pk, pf⟩ r0 is).L.length : Int) == 0) = zP) := hzL
        clear hzL hN hst
        have d0 := hQ9.out.c0
        have d1 := hQ9.out.c1
        have d2 := hQ9.out.c2
        have d3 := hQ9.out.c3
        have d4 := hQ9.out.c4
        have d5 := hQ9.out.c5
        obtain ⟨zr, hzr⟩ : ∃ z, Hid (rightP ⟨ros.take kq, rn, rs, rg, rk, rf⟩ = z) := ⟨_, rfl⟩
        go_wp2_with fail
        refine (O.rpright_is (.slice ra kq rc) (ros.take kq) rn rs rg rk rf zr _ hrd.out hzr.out).mono ?_
        rintro e W10 ⟨rfl, b10⟩
        have hTV : Hid (TT w V2 g0 gp gr (.slice ua os.length uc) ⟨os, pn, ps, pa, pk, pf⟩ (.slice xa (stR ⟨os, pn, ps, pa, pk, pf⟩ r0 is).L.length xc) is qa1 (.slice ia m ic) qb1 (.slice fa (F80 is).length fc) (F80 is) u10) := ⟨hP9.out, hO9.out, hI8.out, hF8.out, hA9.out, hW9.out, hB9.out, hqa1, hqb1, hV2z⟩
        clear hP9 hO9 hI8 hF8 hA9 hW9 hB9 d0 d1 d2 d3 d4 d5
        have hTA : Hid (TT w W10 g0 gp gr (.slice ua os.length uc) ⟨os, pn, ps, pa, pk, pf⟩ (.slice xa (stR ⟨os, pn, ps, pa, pk, pf⟩ r0 is).L.length xc) is qa1 (.slice ia m ic) qb1 (.slice fa (F80 is).length fc) (F80 is) u10) := hTV.out.call b10
        cases zr with
        | true =>
          clear hTV hrd b10 hQ9
          go_upto_region 17 with fail
          refine wp_region_held_drew (S := fun X => Below W10.heap.size W10 X) (by kernel_rfl) (Below.refl _ _).drew (fun hHeld => ?_)
          generalize W10.drew = V9 at hHeld ⊢
          refine take_at (i := 0) (v := u10) rfl rfl (by kernel_rfl) (by kernel_rfl) (by kernel_rfl) (fun _ _ _ h => h) (Or.inl ⟨by rfl, fun X _ => by go_simp⟩) hHeld ?_
          try simp only [Act.put, List.setIfInBounds_toArray, List.set_cons_zero, List.set_cons_succ]
          refine take_at (i := 1) (v := O.pv (.slice ua os.length uc) pn ps pa pk pf) rfl rfl (by kernel_rfl) (by kernel_rfl) (by kernel_rfl) (fun _ _ _ h => h) (Or.inl ⟨by rfl, fun X hX => by have h := (hTA.out.P).call hX; have c0 := h.c0; have c1 := h.c1; have c2 := h.c2; have c3 := h.c3; have c4 := h.c4; have c5 := h.c5; go_simp⟩) hHeld ?_
          try simp only [Act.put, List.setIfInBounds_toArray, List.set_cons_zero, List.set_cons_succ]
          refine take_at (i := 2) (v := .slice ia m ic) rfl rfl (by kernel_rfl) (by kernel_rfl) (by kernel_rfl) (fun _ _ _ h => h) (Or.inl ⟨by rfl, fun X _ => by go_simp⟩) hHeld ?_
          try simp only [Act.put, List.setIfInBounds_toArray, List.set_cons_zero, List.set_cons_succ]
          refine wpAnyH_ready (rs := [3]) (by kernel_rfl) (by simp) ?_
          refine AllReadyH.cons rfl (fun K hK => ?_) AllReadyH.nil
          rw [if_pos (by rfl)]
          go_wp2_with fail
          refine (wwhole_is (.slice ua os.length uc) ⟨os, pn, ps, pa, pk, pf⟩ (.slice ia m ic) qa1 is _ (hTA.out.O.below hHeld) (small_new hS'.out).2.2.2 (by have h := small_n hS'.out; have h2 := hS'.out.2.2; simp only at h h2; show -1099511627776 ≤ pn ∧ pn ≤ 1099511627776; omega) (hTA.out.I.below hHeld) (by have := hHeld.size; have := hTA.out.qi; omega) (by rw [hm.out]; omega)).mono ?_
          rintro e X3 ⟨u3, rfl, hu3, hb⟩
          have hr3 := rdr_own hu3
          clear hu3
          have hHb := below_call hHeld hb
          clear hHeld hb
          go_wp2_with fail
          refine hK.out _ _ (hHb) (fun hHeld => ?_)
          clear hK K hHb
          try simp only [Act.put, List.setIfInBounds_toArray, List.set_cons_zero, List.set_cons_succ]
          refine wpAnyH_ready (rs := [4]) (by kernel_rfl) (by simp) ?_
          refine AllReadyH.cons rfl (fun K hK => ?_) AllReadyH.nil
          rw [if_pos (by rfl)]
          go_wp2_with fail
          refine (same_r u10 u3 (rowsR ⟨os, pn, ps, pa, pk, pf⟩ r0 is) _ (hTA.out.A.below hHeld) hr3).mono ?_
          rintro e X4 ⟨rfl, hb⟩
          have hHb := below_call hHeld hb
          clear hHeld hb
          go_wp2_with fail
          refine hK.out _ _ (hHb) (fun hHeld => ?_)
          clear hK K hHb
          try simp only [Act.put, List.setIfInBounds_toArray, List.set_cons_zero, List.set_cons_succ]
          refine take_at (i := 5) (v := .bool true) rfl rfl (by kernel_rfl) (by kernel_rfl) (by kernel_rfl) (fun _ _ _ h => h) (Or.inl ⟨by rfl, fun X _ => by go_simp⟩) hHeld ?_
          try simp only [Act.put, List.setIfInBounds_toArray, List.set_cons_zero, List.set_cons_succ]
          refine take_at (i := 6) (v := O.pv (.slice ua os.length uc) pn ps pa pk pf) rfl rfl (by kernel_rfl) (by kernel_rfl) (by kernel_rfl) (fun _ _ _ h => h) (Or.inl ⟨by rfl, fun X hX => by have h := (hTA.out.P).call hX; have c0 := h.c0; have c1 := h.c1; have c2 := h.c2; have c3 := h.c3; have c4 := h.c4; have c5 := h.c5; go_simp⟩) hHeld ?_
          try simp only [Act.put, List.setIfInBounds_toArray, List.set_cons_zero, List.set_cons_succ]
          refine take_at (i := 7) (v := .slice ia m ic) rfl rfl (by kernel_rfl) (by kernel_rfl) (by kernel_rfl) (fun _ _ _ h => h) (Or.inl ⟨by rfl, fun X _ => by go_simp⟩) hHeld ?_
          try simp only [Act.put, List.setIfInBounds_toArray, List.set_cons_zero, List.set_cons_succ]
          refine take_at (i := 9) (v := .pointer (some ⟨gr, 9, none⟩)) rfl rfl (by kernel_rfl) (by kernel_rfl) (by kernel_rfl) (fun _ _ _ h => h) (Or.inl ⟨by rfl, fun X _ => by go_simp⟩) hHeld ?_
          try simp only [Act.put, List.setIfInBounds_toArray, List.set_cons_zero, List.set_cons_succ]
          refine take_at (i := 10) (v := .pointer (some ⟨gr, 12, none⟩)) rfl rfl (by kernel_rfl) (by kernel_rfl) (by kernel_rfl) (fun _ _ _ h => h) (Or.inl ⟨by rfl, fun X _ => by go_simp⟩) hHeld ?_
          try simp only [Act.put, List.setIfInBounds_toArray, List.set_cons_zero, List.set_cons_succ]
          refine take_at (i := 11) (v := (.slice xa (stR ⟨os, pn, ps, pa, pk, pf⟩ r0 is).L.length xc)) rfl rfl (by kernel_rfl) (by kernel_rfl) (by kernel_rfl) (fun _ _ _ h => h) (Or.inl ⟨by rfl, fun X hX => by have h := (hTA.out.wk.call hX).c; obtain ⟨e0, e1, e2, e3, e4, e5, e6, e7, e8, e9, e10, e11, e12⟩ := h; go_simp⟩) hHeld ?_
          try simp only [Act.put, List.setIfInBounds_toArray, List.set_cons_zero, List.set_cons_succ]
          refine take_at (i := 12) (v := .int .i64 ((stR ⟨os, pn, ps, pa, pk, pf⟩ r0 is).L.length : Int)) rfl rfl (by kernel_rfl) (by kernel_rfl) (by kernel_rfl) (fun _ _ _ h => h) (Or.inl ⟨by rfl, fun X _ => by go_simp⟩) hHeld ?_
          try simp only [Act.put, List.setIfInBounds_toArray, List.set_cons_zero, List.set_cons_succ]
          refine take_at (i := 13) (v := .bool zP) rfl rfl (by kernel_rfl) (by kernel_rfl) (by kernel_rfl) (fun _ _ _ h => h) (Or.inl ⟨by rfl, fun X _ => by have e := hzL'.out; go_simp⟩) hHeld ?_
          try simp only [Act.put, List.setIfInBounds_toArray, List.set_cons_zero, List.set_cons_succ]
          refine wpAnyH_ready (rs := [8]) (by kernel_rfl) (by simp) ?_
          refine AllReadyH.cons rfl (fun K hK => ?_) AllReadyH.nil
          rw [if_pos (by rfl)]
          go_wp2_with fail
          refine (wpast_is (.slice ua os.length uc) ⟨os, pn, ps, pa, pk, pf⟩ (.slice ia m ic) qa1 is zP _ (hTA.out.O.below hHeld) (small_new hS'.out).1 (small_new hS'.out).2.1 (hTA.out.I.below hHeld) (by have := hHeld.size; have := hTA.out.qi; omega) (by rw [hm.out]; omega) hzP'.out).mono ?_
          rintro e X8 ⟨rfl, hb⟩
          have hHb := below_call hHeld hb
          clear hHeld hb
          go_wp2_with fail
          refine hK.out _ _ (hHb) (fun hHeld => ?_)
          clear hK K hHb
          try simp only [Act.put, List.setIfInBounds_toArray, List.set_cons_zero, List.set_cons_succ]
          refine take_at (i := 14) (v := .bool true) rfl rfl (by kernel_rfl) (by kernel_rfl) (by kernel_rfl) (fun _ _ _ h => h) (Or.inl ⟨by rfl, fun X _ => by go_simp⟩) hHeld ?_
          try simp only [Act.put, List.setIfInBounds_toArray, List.set_cons_zero, List.set_cons_succ]
          refine take_at (i := 15) (v := .bool true) rfl rfl (by kernel_rfl) (by kernel_rfl) (by kernel_rfl) (fun _ _ _ h => h) (Or.inl ⟨by rfl, fun X _ => by go_simp⟩) hHeld ?_
          try simp only [Act.put, List.setIfInBounds_toArray, List.set_cons_zero, List.set_cons_succ]
          refine take_at (i := 16) (v := .bool true) rfl rfl (by kernel_rfl) (by kernel_rfl) (by kernel_rfl) (fun _ _ _ h => h) (Or.inl ⟨by rfl, fun X _ => by go_simp⟩) hHeld ?_
          try simp only [Act.put, List.setIfInBounds_toArray, List.set_cons_zero, List.set_cons_succ]
          refine take_at (i := 17) (v := .slice ia m ic) rfl rfl (by kernel_rfl) (by kernel_rfl) (by kernel_rfl) (fun _ _ _ h => h) (Or.inl ⟨by rfl, fun X _ => by go_simp⟩) hHeld ?_
          try simp only [Act.put, List.setIfInBounds_toArray, List.set_cons_zero, List.set_cons_succ]
          refine take_at (i := 19) (v := .int .u64 ((labs is : Nat) : Int)) rfl rfl (by kernel_rfl) (by kernel_rfl) (by kernel_rfl) (fun _ _ _ h => h) (Or.inl ⟨by rfl, fun X _ => by go_simp⟩) hHeld ?_
          try simp only [Act.put, List.setIfInBounds_toArray, List.set_cons_zero, List.set_cons_succ]
          refine wpAnyH_ready (rs := [18]) (by kernel_rfl) (by simp) ?_
          refine AllReadyH.cons rfl (fun K hK => ?_) AllReadyH.nil
          rw [if_pos (by rfl)]
          go_wp2_with fail
          refine (labels_is (.slice ia m ic) qa1 is _ (hTA.out.I.below hHeld)).mono ?_
          rintro e X18 ⟨rfl, hb⟩
          have hHb := below_call hHeld hb
          clear hHeld hb
          go_wp2_with fail
          refine hK.out _ _ (hHb) (fun hHeld => ?_)
          clear hK K hHb
          try simp only [Act.put, List.setIfInBounds_toArray, List.set_cons_zero, List.set_cons_succ]
          refine take_at (i := 20) (v := .bool true) rfl rfl (by kernel_rfl) (by kernel_rfl) (by kernel_rfl) (fun _ _ _ h => h) (Or.inl ⟨by rfl, fun X _ => by go_simp⟩) hHeld ?_
          try simp only [Act.put, List.setIfInBounds_toArray, List.set_cons_zero, List.set_cons_succ]
          refine take_at (i := 21) (v := .bool true) rfl rfl (by kernel_rfl) (by kernel_rfl) (by kernel_rfl) (fun _ _ _ h => h) (Or.inl ⟨by rfl, fun X _ => by go_simp⟩) hHeld ?_
          try simp only [Act.put, List.setIfInBounds_toArray, List.set_cons_zero, List.set_cons_succ]
          refine take_at (i := 22) (v := .bool true) rfl rfl (by kernel_rfl) (by kernel_rfl) (by kernel_rfl) (fun _ _ _ h => h) (Or.inl ⟨by rfl, fun X _ => by go_simp⟩) hHeld ?_
          try simp only [Act.put, List.setIfInBounds_toArray, List.set_cons_zero, List.set_cons_succ]
          refine take_at (i := 23) (v := .slice fa (F80 is).length fc) rfl rfl (by kernel_rfl) (by kernel_rfl) (by kernel_rfl) (fun _ _ _ h => h) (Or.inl ⟨by rfl, fun X _ => by go_simp⟩) hHeld ?_
          try simp only [Act.put, List.setIfInBounds_toArray, List.set_cons_zero, List.set_cons_succ]
          refine take_at (i := 24) (v := .slice ia m ic) rfl rfl (by kernel_rfl) (by kernel_rfl) (by kernel_rfl) (fun _ _ _ h => h) (Or.inl ⟨by rfl, fun X _ => by go_simp⟩) hHeld ?_
          try simp only [Act.put, List.setIfInBounds_toArray, List.set_cons_zero, List.set_cons_succ]
          refine take_at (i := 25) (v := .agg #[.bool true, .int .i64 0, .int .i64 0, .int .i64 0, .int .u64 0]) rfl rfl (by kernel_rfl) (by kernel_rfl) (by kernel_rfl) (fun _ _ _ h => h) (Or.inl ⟨by rfl, fun X _ => by go_simp⟩) hHeld ?_
          try simp only [Act.put, List.setIfInBounds_toArray, List.set_cons_zero, List.set_cons_succ]
          refine wpAnyH_ready (rs := [26]) (by kernel_rfl) (by simp) ?_
          refine AllReadyH.cons rfl (fun K hK => ?_) AllReadyH.nil
          rw [if_pos (by rfl)]
          go_wp2_with fail
          refine (intact_m (.slice fa (F80 is).length fc) (.slice ia m ic) qb1 qa1 is _ (hTA.out.F.below hHeld) (hTA.out.I.below hHeld) (by rw [hm.out]; omega)).mono ?_
          rintro e X26 ⟨rfl, hb⟩
          have hHb := below_call hHeld hb
          clear hHeld hb
          go_wp2_with fail
          refine hK.out _ _ (hHb) (fun hHeld => ?_)
          clear hK K hHb
          try simp only [Act.put, List.setIfInBounds_toArray, List.set_cons_zero, List.set_cons_succ]
          refine take_at (i := 27) (v := .bool true) rfl rfl (by kernel_rfl) (by kernel_rfl) (by kernel_rfl) (fun _ _ _ h => h) (Or.inl ⟨by rfl, fun X _ => by go_simp⟩) hHeld ?_
          try simp only [Act.put, List.setIfInBounds_toArray, List.set_cons_zero, List.set_cons_succ]
          refine take_at (i := 28) (v := .bool true) rfl rfl (by kernel_rfl) (by kernel_rfl) (by kernel_rfl) (fun _ _ _ h => h) (Or.inl ⟨by rfl, fun X _ => by go_simp⟩) hHeld ?_
          try simp only [Act.put, List.setIfInBounds_toArray, List.set_cons_zero, List.set_cons_succ]
          refine wpAnyH_ready (rs := [29]) (by kernel_rfl) (by simp) ?_
          refine AllReadyH.cons rfl (fun K hK => ?_) AllReadyH.nil
          rw [if_pos (by rfl)]
          go_wp2_with fail
          refine (wholeRuns_walk _).mono ?_
          rintro e X29 ⟨rfl, hb⟩
          have hHb := below_call hHeld hb
          clear hHeld hb
          go_wp2_with fail
          refine hK.out _ _ (hHb) (fun hHeld => ?_)
          clear hK K hHb
          try simp only [Act.put, List.setIfInBounds_toArray, List.set_cons_zero, List.set_cons_succ]
          refine take_at (i := 30) (v := .bool true) rfl rfl (by kernel_rfl) (by kernel_rfl) (by kernel_rfl) (fun _ _ _ h => h) (Or.inl ⟨by rfl, fun X _ => by go_simp⟩) hHeld ?_
          try simp only [Act.put, List.setIfInBounds_toArray, List.set_cons_zero, List.set_cons_succ]
          refine take_at (i := 31) (v := .bool true) rfl rfl (by kernel_rfl) (by kernel_rfl) (by kernel_rfl) (fun _ _ _ h => h) (Or.inl ⟨by rfl, fun X _ => by go_simp⟩) hHeld ?_
          try simp only [Act.put, List.setIfInBounds_toArray, List.set_cons_zero, List.set_cons_succ]
          refine wpAnyH_done (by kernel_rfl) ?_ _
          go_wp2_with fail
          go_ret
          exact ⟨rfl, by rw [hg0.out]; exact hTA.out.B.trans (hHeld.mono hTA.out.z)⟩
        | false =>
          have hrd10 : Hid (RdO W10 (.slice ra kq rc) (ros.take kq)) := hrd.out.call b10
          have hQ10 : Hid (Pik W10 gq (.slice ra kq rc) rn rs rg rk rf) := hQ9.out.call b10
          clear hTV hrd b10 hQ9
          have d0 := hQ10.out.c0
          have d1 := hQ10.out.c1
          have d2 := hQ10.out.c2
          have d3 := hQ10.out.c3
          have d4 := hQ10.out.c4
          have d5 := hQ10.out.c5
          go_wp2_with fail
          refine (wrows_no2 (.slice ra kq rc) (ros.take kq) rn rs rg rk rf _ _ hrd10.out hzr.out).mono ?_
          rintro e W11 ⟨rfl, b11⟩
          have hTB : Hid (TT w W11 g0 gp gr (.slice ua os.length uc) ⟨os, pn, ps, pa, pk, pf⟩ (.slice xa (stR ⟨os, pn, ps, pa, pk, pf⟩ r0 is).L.length xc) is qa1 (.slice ia m ic) qb1 (.slice fa (F80 is).length fc) (F80 is) u10) := hTA.out.call b11
          have hrd11 : Hid (RdO W11 (.slice ra kq rc) (ros.take kq)) := hrd10.out.call b11
          have hQ11 : Hid (Pik W11 gq (.slice ra kq rc) rn rs rg rk rf) := hQ10.out.call b11
          clear hTA hrd10 hQ10 b11 d0 d1 d2 d3 d4 d5
          have d0 := hQ11.out.c0
          have d1 := hQ11.out.c1
          have d2 := hQ11.out.c2
          have d3 := hQ11.out.c3
          have d4 := hQ11.out.c4
          have d5 := hQ11.out.c5
          go_wp2_with fail
          refine (wpast_no2 (.slice ra kq rc) (ros.take kq) rn rs rg rk rf _ _ hrd11.out hzr.out).mono ?_
          rintro e W12 ⟨rfl, b12⟩
          have hTA : Hid (TT w W12 g0 gp gr (.slice ua os.length uc) ⟨os, pn, ps, pa, pk, pf⟩ (.slice xa (stR ⟨os, pn, ps, pa, pk, pf⟩ r0 is).L.length xc) is qa1 (.slice ia m ic) qb1 (.slice fa (F80 is).length fc) (F80 is) u10) := hTB.out.call b12
          clear hTB hrd11 hQ11 b12 d0 d1 d2 d3 d4 d5
          go_upto_region 17 with fail
          refine wp_region_held_drew (S := fun X => Below W12.heap.size W12 X) (by kernel_rfl) (Below.refl _ _).drew (fun hHeld => ?_)
          generalize W12.drew = V9 at hHeld ⊢
          refine take_at (i := 0) (v := u10) rfl rfl (by kernel_rfl) (by kernel_rfl) (by kernel_rfl) (fun _ _ _ h => h) (Or.inl ⟨by rfl, fun X _ => by go_simp⟩) hHeld ?_
          try simp only [Act.put, List.setIfInBounds_toArray, List.set_cons_zero, List.set_cons_succ]
          refine take_at (i := 1) (v := O.pv (.slice ua os.length uc) pn ps pa pk pf) rfl rfl (by kernel_rfl) (by kernel_rfl) (by kernel_rfl) (fun _ _ _ h => h) (Or.inl ⟨by rfl, fun X hX => by have h := (hTA.out.P).call hX; have c0 := h.c0; have c1 := h.c1; have c2 := h.c2; have c3 := h.c3; have c4 := h.c4; have c5 := h.c5; go_simp⟩) hHeld ?_
          try simp only [Act.put, List.setIfInBounds_toArray, List.set_cons_zero, List.set_cons_succ]
          refine take_at (i := 2) (v := .slice ia m ic) rfl rfl (by kernel_rfl) (by kernel_rfl) (by kernel_rfl) (fun _ _ _ h => h) (Or.inl ⟨by rfl, fun X _ => by go_simp⟩) hHeld ?_
          try simp only [Act.put, List.setIfInBounds_toArray, List.set_cons_zero, List.set_cons_succ]
          refine wpAnyH_ready (rs := [3]) (by kernel_rfl) (by simp) ?_
          refine AllReadyH.cons rfl (fun K hK => ?_) AllReadyH.nil
          rw [if_pos (by rfl)]
          go_wp2_with fail
          refine (wwhole_is (.slice ua os.length uc) ⟨os, pn, ps, pa, pk, pf⟩ (.slice ia m ic) qa1 is _ (hTA.out.O.below hHeld) (small_new hS'.out).2.2.2 (by have h := small_n hS'.out; have h2 := hS'.out.2.2; simp only at h h2; show -1099511627776 ≤ pn ∧ pn ≤ 1099511627776; omega) (hTA.out.I.below hHeld) (by have := hHeld.size; have := hTA.out.qi; omega) (by rw [hm.out]; omega)).mono ?_
          rintro e X3 ⟨u3, rfl, hu3, hb⟩
          have hr3 := rdr_own hu3
          clear hu3
          have hHb := below_call hHeld hb
          clear hHeld hb
          go_wp2_with fail
          refine hK.out _ _ (hHb) (fun hHeld => ?_)
          clear hK K hHb
          try simp only [Act.put, List.setIfInBounds_toArray, List.set_cons_zero, List.set_cons_succ]
          refine wpAnyH_ready (rs := [4]) (by kernel_rfl) (by simp) ?_
          refine AllReadyH.cons rfl (fun K hK => ?_) AllReadyH.nil
          rw [if_pos (by rfl)]
          go_wp2_with fail
          refine (same_r u10 u3 (rowsR ⟨os, pn, ps, pa, pk, pf⟩ r0 is) _ (hTA.out.A.below hHeld) hr3).mono ?_
          rintro e X4 ⟨rfl, hb⟩
          have hHb := below_call hHeld hb
          clear hHeld hb
          go_wp2_with fail
          refine hK.out _ _ (hHb) (fun hHeld => ?_)
          clear hK K hHb
          try simp only [Act.put, List.setIfInBounds_toArray, List.set_cons_zero, List.set_cons_succ]
          refine take_at (i := 5) (v := .bool true) rfl rfl (by kernel_rfl) (by kernel_rfl) (by kernel_rfl) (fun _ _ _ h => h) (Or.inl ⟨by rfl, fun X _ => by go_simp⟩) hHeld ?_
          try simp only [Act.put, List.setIfInBounds_toArray, List.set_cons_zero, List.set_cons_succ]
          refine take_at (i := 6) (v := O.pv (.slice ua os.length uc) pn ps pa pk pf) rfl rfl (by kernel_rfl) (by kernel_rfl) (by kernel_rfl) (fun _ _ _ h => h) (Or.inl ⟨by rfl, fun X hX => by have h := (hTA.out.P).call hX; have c0 := h.c0; have c1 := h.c1; have c2 := h.c2; have c3 := h.c3; have c4 := h.c4; have c5 := h.c5; go_simp⟩) hHeld ?_
          try simp only [Act.put, List.setIfInBounds_toArray, List.set_cons_zero, List.set_cons_succ]
          refine take_at (i := 7) (v := .slice ia m ic) rfl rfl (by kernel_rfl) (by kernel_rfl) (by kernel_rfl) (fun _ _ _ h => h) (Or.inl ⟨by rfl, fun X _ => by go_simp⟩) hHeld ?_
          try simp only [Act.put, List.setIfInBounds_toArray, List.set_cons_zero, List.set_cons_succ]
          refine take_at (i := 9) (v := .pointer (some ⟨gr, 9, none⟩)) rfl rfl (by kernel_rfl) (by kernel_rfl) (by kernel_rfl) (fun _ _ _ h => h) (Or.inl ⟨by rfl, fun X _ => by go_simp⟩) hHeld ?_
          try simp only [Act.put, List.setIfInBounds_toArray, List.set_cons_zero, List.set_cons_succ]
          refine take_at (i := 10) (v := .pointer (some ⟨gr, 12, none⟩)) rfl rfl (by kernel_rfl) (by kernel_rfl) (by kernel_rfl) (fun _ _ _ h => h) (Or.inl ⟨by rfl, fun X _ => by go_simp⟩) hHeld ?_
          try simp only [Act.put, List.setIfInBounds_toArray, List.set_cons_zero, List.set_cons_succ]
          refine take_at (i := 11) (v := (.slice xa (stR ⟨os, pn, ps, pa, pk, pf⟩ r0 is).L.length xc)) rfl rfl (by kernel_rfl) (by kernel_rfl) (by kernel_rfl) (fun _ _ _ h => h) (Or.inl ⟨by rfl, fun X hX => by have h := (hTA.out.wk.call hX).c; obtain ⟨e0, e1, e2, e3, e4, e5, e6, e7, e8, e9, e10, e11, e12⟩ := h; go_simp⟩) hHeld ?_
          try simp only [Act.put, List.setIfInBounds_toArray, List.set_cons_zero, List.set_cons_succ]
          refine take_at (i := 12) (v := .int .i64 ((stR ⟨os, pn, ps, pa, pk, pf⟩ r0 is).L.length : Int)) rfl rfl (by kernel_rfl) (by kernel_rfl) (by kernel_rfl) (fun _ _ _ h => h) (Or.inl ⟨by rfl, fun X _ => by go_simp⟩) hHeld ?_
          try simp only [Act.put, List.setIfInBounds_toArray, List.set_cons_zero, List.set_cons_succ]
          refine take_at (i := 13) (v := .bool zP) rfl rfl (by kernel_rfl) (by kernel_rfl) (by kernel_rfl) (fun _ _ _ h => h) (Or.inl ⟨by rfl, fun X _ => by have e := hzL'.out; go_simp⟩) hHeld ?_
          try simp only [Act.put, List.setIfInBounds_toArray, List.set_cons_zero, List.set_cons_succ]
          refine wpAnyH_ready (rs := [8]) (by kernel_rfl) (by simp) ?_
          refine AllReadyH.cons rfl (fun K hK => ?_) AllReadyH.nil
          rw [if_pos (by rfl)]
          go_wp2_with fail
          refine (wpast_is (.slice ua os.length uc) ⟨os, pn, ps, pa, pk, pf⟩ (.slice ia m ic) qa1 is zP _ (hTA.out.O.below hHeld) (small_new hS'.out).1 (small_new hS'.out).2.1 (hTA.out.I.below hHeld) (by have := hHeld.size; have := hTA.out.qi; omega) (by rw [hm.out]; omega) hzP'.out).mono ?_
          rintro e X8 ⟨rfl, hb⟩
          have hHb := below_call hHeld hb
          clear hHeld hb
          go_wp2_with fail
          refine hK.out _ _ (hHb) (fun hHeld => ?_)
          clear hK K hHb
          try simp only [Act.put, List.setIfInBounds_toArray, List.set_cons_zero, List.set_cons_succ]
          refine take_at (i := 14) (v := .bool true) rfl rfl (by kernel_rfl) (by kernel_rfl) (by kernel_rfl) (fun _ _ _ h => h) (Or.inl ⟨by rfl, fun X _ => by go_simp⟩) hHeld ?_
          try simp only [Act.put, List.setIfInBounds_toArray, List.set_cons_zero, List.set_cons_succ]
          refine take_at (i := 15) (v := .bool true) rfl rfl (by kernel_rfl) (by kernel_rfl) (by kernel_rfl) (fun _ _ _ h => h) (Or.inl ⟨by rfl, fun X _ => by go_simp⟩) hHeld ?_
          try simp only [Act.put, List.setIfInBounds_toArray, List.set_cons_zero, List.set_cons_succ]
          refine take_at (i := 16) (v := .bool true) rfl rfl (by kernel_rfl) (by kernel_rfl) (by kernel_rfl) (fun _ _ _ h => h) (Or.inl ⟨by rfl, fun X _ => by go_simp⟩) hHeld ?_
          try simp only [Act.put, List.setIfInBounds_toArray, List.set_cons_zero, List.set_cons_succ]
          refine take_at (i := 17) (v := .slice ia m ic) rfl rfl (by kernel_rfl) (by kernel_rfl) (by kernel_rfl) (fun _ _ _ h => h) (Or.inl ⟨by rfl, fun X _ => by go_simp⟩) hHeld ?_
          try simp only [Act.put, List.setIfInBounds_toArray, List.set_cons_zero, List.set_cons_succ]
          refine take_at (i := 19) (v := .int .u64 ((labs is : Nat) : Int)) rfl rfl (by kernel_rfl) (by kernel_rfl) (by kernel_rfl) (fun _ _ _ h => h) (Or.inl ⟨by rfl, fun X _ => by go_simp⟩) hHeld ?_
          try simp only [Act.put, List.setIfInBounds_toArray, List.set_cons_zero, List.set_cons_succ]
          refine wpAnyH_ready (rs := [18]) (by kernel_rfl) (by simp) ?_
          refine AllReadyH.cons rfl (fun K hK => ?_) AllReadyH.nil
          rw [if_pos (by rfl)]
          go_wp2_with fail
          refine (labels_is (.slice ia m ic) qa1 is _ (hTA.out.I.below hHeld)).mono ?_
          rintro e X18 ⟨rfl, hb⟩
          have hHb := below_call hHeld hb
          clear hHeld hb
          go_wp2_with fail
          refine hK.out _ _ (hHb) (fun hHeld => ?_)
          clear hK K hHb
          try simp only [Act.put, List.setIfInBounds_toArray, List.set_cons_zero, List.set_cons_succ]
          refine take_at (i := 20) (v := .bool true) rfl rfl (by kernel_rfl) (by kernel_rfl) (by kernel_rfl) (fun _ _ _ h => h) (Or.inl ⟨by rfl, fun X _ => by go_simp⟩) hHeld ?_
          try simp only [Act.put, List.setIfInBounds_toArray, List.set_cons_zero, List.set_cons_succ]
          refine take_at (i := 21) (v := .bool true) rfl rfl (by kernel_rfl) (by kernel_rfl) (by kernel_rfl) (fun _ _ _ h => h) (Or.inl ⟨by rfl, fun X _ => by go_simp⟩) hHeld ?_
          try simp only [Act.put, List.setIfInBounds_toArray, List.set_cons_zero, List.set_cons_succ]
          refine take_at (i := 22) (v := .bool true) rfl rfl (by kernel_rfl) (by kernel_rfl) (by kernel_rfl) (fun _ _ _ h => h) (Or.inl ⟨by rfl, fun X _ => by go_simp⟩) hHeld ?_
          try simp only [Act.put, List.setIfInBounds_toArray, List.set_cons_zero, List.set_cons_succ]
          refine take_at (i := 23) (v := .slice fa (F80 is).length fc) rfl rfl (by kernel_rfl) (by kernel_rfl) (by kernel_rfl) (fun _ _ _ h => h) (Or.inl ⟨by rfl, fun X _ => by go_simp⟩) hHeld ?_
          try simp only [Act.put, List.setIfInBounds_toArray, List.set_cons_zero, List.set_cons_succ]
          refine take_at (i := 24) (v := .slice ia m ic) rfl rfl (by kernel_rfl) (by kernel_rfl) (by kernel_rfl) (fun _ _ _ h => h) (Or.inl ⟨by rfl, fun X _ => by go_simp⟩) hHeld ?_
          try simp only [Act.put, List.setIfInBounds_toArray, List.set_cons_zero, List.set_cons_succ]
          refine take_at (i := 25) (v := .agg #[.bool true, .int .i64 0, .int .i64 0, .int .i64 0, .int .u64 0]) rfl rfl (by kernel_rfl) (by kernel_rfl) (by kernel_rfl) (fun _ _ _ h => h) (Or.inl ⟨by rfl, fun X _ => by go_simp⟩) hHeld ?_
          try simp only [Act.put, List.setIfInBounds_toArray, List.set_cons_zero, List.set_cons_succ]
          refine wpAnyH_ready (rs := [26]) (by kernel_rfl) (by simp) ?_
          refine AllReadyH.cons rfl (fun K hK => ?_) AllReadyH.nil
          rw [if_pos (by rfl)]
          go_wp2_with fail
          refine (intact_m (.slice fa (F80 is).length fc) (.slice ia m ic) qb1 qa1 is _ (hTA.out.F.below hHeld) (hTA.out.I.below hHeld) (by rw [hm.out]; omega)).mono ?_
          rintro e X26 ⟨rfl, hb⟩
          have hHb := below_call hHeld hb
          clear hHeld hb
          go_wp2_with fail
          refine hK.out _ _ (hHb) (fun hHeld => ?_)
          clear hK K hHb
          try simp only [Act.put, List.setIfInBounds_toArray, List.set_cons_zero, List.set_cons_succ]
          refine take_at (i := 27) (v := .bool true) rfl rfl (by kernel_rfl) (by kernel_rfl) (by kernel_rfl) (fun _ _ _ h => h) (Or.inl ⟨by rfl, fun X _ => by go_simp⟩) hHeld ?_
          try simp only [Act.put, List.setIfInBounds_toArray, List.set_cons_zero, List.set_cons_succ]
          refine take_at (i := 28) (v := .bool true) rfl rfl (by kernel_rfl) (by kernel_rfl) (by kernel_rfl) (fun _ _ _ h => h) (Or.inl ⟨by rfl, fun X _ => by go_simp⟩) hHeld ?_
          try simp only [Act.put, List.setIfInBounds_toArray, List.set_cons_zero, List.set_cons_succ]
          refine wpAnyH_ready (rs := [29]) (by kernel_rfl) (by simp) ?_
          refine AllReadyH.cons rfl (fun K hK => ?_) AllReadyH.nil
          rw [if_pos (by rfl)]
          go_wp2_with fail
          refine (wholeRuns_walk _).mono ?_
          rintro e X29 ⟨rfl, hb⟩
          have hHb := below_call hHeld hb
          clear hHeld hb
          go_wp2_with fail
          refine hK.out _ _ (hHb) (fun hHeld => ?_)
          clear hK K hHb
          try simp only [Act.put, List.setIfInBounds_toArray, List.set_cons_zero, List.set_cons_succ]
          refine take_at (i := 30) (v := .bool true) rfl rfl (by kernel_rfl) (by kernel_rfl) (by kernel_rfl) (fun _ _ _ h => h) (Or.inl ⟨by rfl, fun X _ => by go_simp⟩) hHeld ?_
          try simp only [Act.put, List.setIfInBounds_toArray, List.set_cons_zero, List.set_cons_succ]
          refine take_at (i := 31) (v := .bool true) rfl rfl (by kernel_rfl) (by kernel_rfl) (by kernel_rfl) (fun _ _ _ h => h) (Or.inl ⟨by rfl, fun X _ => by go_simp⟩) hHeld ?_
          try simp only [Act.put, List.setIfInBounds_toArray, List.set_cons_zero, List.set_cons_succ]
          refine wpAnyH_done (by kernel_rfl) ?_ _
          go_wp2_with fail
          go_ret
          exact ⟨rfl, by rw [hg0.out]; exact hTA.out.B.trans (hHeld.mono hTA.out.z)⟩
end Go.Proofs.Ytombgbdplafooaa
/- WholeTells: for every input the Go function WholeTells of the landed commit's statements returns true and leaves its arguments as they were. Conditions: none but the row's own. -/
namespace Go.Proofs.Ytombgbdplafooaa
open Go.ChangeShapes Go.WideShapes Go.ChangeAt Go.RowKit
set_option linter.unusedVariables false

set_option maxRecDepth 100000 in
theorem wholeTells_lifted (os : Os) (started : os.Started) (H : Type) (enc : TypeId × Value → H) :
    ReturnsInHanded {} Try.checked os 7 .any (Rows.wholeTellsSpec.pre6 enc Try.prog Try.f7 Rows.wholeTellsRow.domain false) (Rows.wholeTellsSpec.post enc Try.prog Try.f7 false true false false) := by
  refine returnsInHanded_of_change (C := Try.checked) own started (by kernel_rfl) Try.func7
    (ChangeSpec.witness6 (enc := enc) (C := Try.checked) false ⟨#[], #[kin ⟨none, 0, 0, none, 0, 0, 0, 0, 0, 0, 0⟩, .slice none 0 0, pin ⟨none, 0, 0, 0, 0, 0, 0, 0⟩], []⟩ 8 (by kernel_rfl) (by kernel_rfl) (by kernel_rfl) (by kernel_rfl)) ?_
  intro W base args ds gs before hval0 hW hcnd _
  have hval : ∀ (j : Nat) t v, Try.f7.params[j]? = some t → args[j]? = some v → Value.okWide Try.prog W .any base t v := hval0
  have hW' := hW
  obtain ⟨p, q, hA0, hV, rfl, hfz, hnd⟩ := hW
  have hA : DataW.TrodAll enc Try.prog W 0 (fun _ => true) true Try.f7.params.toList args.toList ds p := hA0
  rw [Try.params7] at hA hval
  obtain ⟨v0, vs0, d0, ds0, p0, q0, hargs, rfl, rfl, h0, r0⟩ := trodAll_cons hA
  obtain ⟨v1, vs1, d1, ds1, p1, q1, rfl, rfl, rfl, h1, r1⟩ := trodAll_cons r0
  obtain ⟨v2, vs2, d2, ds2, p2, q2, rfl, rfl, rfl, h2, r2⟩ := trodAll_cons r1
  obtain ⟨rfl, rfl, rfl⟩ := trodAll_nil r2
  obtain rfl : args = #[v0, v1, v2] := by cases args; simp_all
  obtain ⟨rfl, rfl⟩ := trodVars_none hV
  have k0 := h0
  have lt0 : ∀ x ∈ p0, x.block < W.heap.size := by obtain ⟨m, hm⟩ := k0; exact DataW.trod_lt m _ _ _ hm
  obtain ⟨a0, rfl, w0⟩ := open_keep (hval 0 53 v0 rfl rfl) h0
  obtain ⟨a1, len1, cap1, rfl⟩ := okWide_slice Try.underlying54 (hval 1 54 v1 rfl rfl)
  have k1 := h1
  have lt1 : ∀ x ∈ p1, x.block < W.heap.size := by obtain ⟨m, hm⟩ := k1; exact DataW.trod_lt m _ _ _ hm
  have w1 : Ins4 W a1 len1 cap1 := by
    obtain ⟨fuel, hf⟩ := h1
    exact open_ins hf
  have k2 := h2
  have lt2 : ∀ x ∈ p2, x.block < W.heap.size := by obtain ⟨m, hm⟩ := k2; exact DataW.trod_lt m _ _ _ hm
  obtain ⟨a2, rfl, w2⟩ := open_pipe (hval 2 58 v2 rfl rfl) h2
  clear hA0 hval0
  refine (wholeTells_walk a0 a1 len1 cap1 a2 W w0 w1 w2).mono fun e W' ⟨he, bel⟩ => ?_
  subst he
  exact ⟨_, rfl, _, _, _, [], _, [], hW', trodAll_mk1 (shut_bool Try.underlying4 _), (trodAll_cons_mk (Below.trod laidOut (by kernel_rfl) (of_decide_eq_true (by kernel_rfl)) k0 bel lt0) (trodAll_cons_mk (Below.trod laidOut (by kernel_rfl) (of_decide_eq_true (by kernel_rfl)) k1 bel lt1) (trodAll_cons_mk (Below.trod laidOut (by kernel_rfl) (of_decide_eq_true (by kernel_rfl)) k2 bel lt2) trodAll_mk0))), rfl, bel.frame _, fun h => by cases h⟩

theorem wholeTells_proved : Rows.WholeTellsSaid :=
  OpenClaim.holds_of_wide 7 Try.f7 rfl rfl rfl rfl rfl rfl rfl ⟨rfl, rfl, rfl, rfl, rfl⟩ rfl rfl rfl rfl rfl (by kernel_rfl) Try.func7 (by kernel_rfl)
    (of_decide_eq_true (by kernel_rfl)) (by unfold Func.isWrapper; first | (rw [if_pos (by decide +kernel)]; kernel_rfl) | (rw [if_neg (by decide +kernel)]; exact ⟨rfl, rfl⟩))
    (fun os started H enc _ => wholeTells_lifted os started H enc)
#print axioms wholeTells_proved
end Go.Proofs.Ytombgbdplafooaa
