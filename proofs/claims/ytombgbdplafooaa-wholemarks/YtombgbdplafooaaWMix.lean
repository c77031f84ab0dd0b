/- Two lists of the call's own that inputs are put behind, beside the pipe and a block with an input. -/
import Derived.Test.YtombgbdplafooaaWOrd
import Derived.OneCell
import Derived.Deep.QuietTactic
import Derived.BigQuiet
namespace Go.Proofs.Ytombgbdplafooaa
open Go.RowKit M
open O (RdO Kpk Pik Small Ints)
open O.MO (Oq Pq rightP)
set_option linter.unusedVariables false
set_option linter.unusedSimpArgs false

theorem Ink.set1 {w : World} {b : Nat} {i : Inp} (h : Ink w b i) (y : Int) : Ink (w.setCell ⟨b, 1, none⟩ (.int .i64 y)) b ⟨i.mrk, ⟨y, i.e.k, i.e.v, i.e.l⟩⟩ := by
  unfold Ink at *
  simp [World.setCell, Array.getElem?_modify, h]
structure MR (w0 X : World) (g0 gp gi B : Nat) (U : Value) (p : Pq) (qi : Nat) (iv : Value) (is : List Inp) (x : Inp) (u v : Value) (ms ps : List Inp) : Prop where
  T : Two X B 71 5 u v ms.length ps.length (ins ms) (ins ps)
  E : WE w0 X g0 gp U p qi iv is
  K : Ink X gi x
  zB : B ≤ gi
  z : gi < X.heap.size
  hu : ∀ k, u.ownBlock = some k → k ≠ gi
  hv : ∀ k, v.ownBlock = some k → k ≠ gi
  gB : gp < B
  qB : qi < B
  UB : ∀ k, U.ownBlock = some k → k < B
section
variable {w0 X X' : World} {g0 gp gi B : Nat} {U : Value} {p : Pq} {qi : Nat} {iv : Value} {is : List Inp} {x : Inp} {u v u' v' : Value} {ms ps ns : List Inp} {n' : Nat} {xs' : List Value}
theorem MR.held (h : MR w0 X g0 gp gi B U p qi iv is x u v ms ps) : Ink X gi x ∧ Pik X gp U p.n p.s p.a p.k p.f := ⟨h.K, h.E.P⟩
theorem MR.call (h : MR w0 X g0 gp gi B U p qi iv is x u v ms ps) (hb : Below X.heap.size X X') : MR w0 X' g0 gp gi B U p qi iv is x u v ms ps :=
  ⟨h.T.below hb, h.E.call hb, h.K.call hb, h.zB, Nat.lt_of_lt_of_le h.z hb.size, h.hu, h.hv, h.gB, h.qB, h.UB⟩
theorem MR.alloc (h : MR w0 X g0 gp gi B U p qi iv is x u v ms ps) (o : Obj) : MR w0 (X.alloc o) g0 gp gi B U p qi iv is x u v ms ps := h.call (below_alloc _ _)
theorem MR.left (h : MR w0 X g0 gp gi B U p qi iv is x u v ms ps) (ho : X'.ownsRow B 71 5 u' (ms.length + ns.length) (ins ms ++ ins ns)) (hb : Below B X X') (hg : X.grownBy X' u.ownBlock) (hf : ∀ k, u'.ownBlock = some k → u.ownBlock = some k ∨ X.heap.size ≤ k) : MR w0 X' g0 gp gi B U p qi iv is x u' v (ms ++ ns) ps := by
  have hz := h.z
  have hzB := h.zB
  refine ⟨h.T.left (by rw [ins_append, List.length_append]; exact ho) hg hf, h.E.keep hb hb.size h.gB h.UB h.qB (by omega), h.K.keep (hg.block gi hz (fun e => h.hu gi e.symm rfl)), h.zB, Nat.lt_of_lt_of_le hz hb.size, fun k hk => ?_, h.hv, h.gB, h.qB, h.UB⟩
  rcases hf k hk with h1 | h1
  · exact h.hu k h1
  · omega
theorem MR.right (h : MR w0 X g0 gp gi B U p qi iv is x u v ms ps) (ho : X'.ownsRow B 71 5 v' (ps.length + ns.length) (ins ps ++ ins ns)) (hb : Below B X X') (hg : X.grownBy X' v.ownBlock) (hf : ∀ k, v'.ownBlock = some k → v.ownBlock = some k ∨ X.heap.size ≤ k) : MR w0 X' g0 gp gi B U p qi iv is x u v' ms (ps ++ ns) := by
  have hz := h.z
  have hzB := h.zB
  refine ⟨h.T.right (by rw [ins_append, List.length_append]; exact ho) hg hf, h.E.keep hb hb.size h.gB h.UB h.qB (by omega), h.K.keep (hg.block gi hz (fun e => h.hv gi e.symm rfl)), h.zB, Nat.lt_of_lt_of_le hz hb.size, h.hu, fun k hk => ?_, h.gB, h.qB, h.UB⟩
  rcases hf k hk with h1 | h1
  · exact h.hv k h1
  · omega
/-- A literal of one input, told apart from the first list. -/
theorem MR.lit (h : MR w0 X g0 gp gi B U p qi iv is x u v ms ps) : (∀ k, (Value.slice (some ⟨X.heap.size, 0, none⟩) 1 1).ownBlock = some k → u.ownBlock ≠ some k) ∧ (∀ k, (Value.slice (some ⟨X.heap.size, 0, none⟩) 1 1).ownBlock = some k → v.ownBlock ≠ some k) :=
  ⟨fun k hk hk2 => own_apart_new h.T.hu k hk2 hk, fun k hk hk2 => own_apart_new h.T.hv k hk2 hk⟩
/-- The input's time turned. -/
theorem MR.time (h : MR w0 X g0 gp gi B U p qi iv is x u v ms ps) (y : Int) : MR w0 (X.setCell ⟨gi, 1, none⟩ (.int .i64 y)) g0 gp gi B U p qi iv is ⟨x.mrk, ⟨y, x.e.k, x.e.v, x.e.l⟩⟩ u v ms ps := by
  have hzB := h.zB
  have hz := h.z
  have hb : Below gi X (X.setCell ⟨gi, 1, none⟩ (.int .i64 y)) := (Below.refl gi X).setCell (show gi ≤ (⟨gi, 1, none⟩ : Addr).block from Nat.le_refl gi) _
  have hs : (X.setCell ⟨gi, 1, none⟩ (.int .i64 y)).heap.size = X.heap.size := by simp [World.setCell]
  refine ⟨⟨ownsRow_setCell_other h.T.hu (fun e => h.hu gi e rfl) _, ownsRow_setCell_other h.T.hv (fun e => h.hv gi e rfl) _, h.T.ne⟩, h.E.keep hb hb.size (Nat.lt_of_lt_of_le h.gB hzB) (fun k hk => Nat.lt_of_lt_of_le (h.UB k hk) hzB) (Nat.lt_of_lt_of_le h.qB hzB) (by omega), Ink.set1 h.K y, h.zB, by rw [hs]; exact hz, h.hu, h.hv, h.gB, h.qB, h.UB⟩
end
end Go.Proofs.Ytombgbdplafooaa
