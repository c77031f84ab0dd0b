/- Pipes: what may be; what the small functions of package pipe, and the document's own, tell of it. -/
import Derived.Test.YtimeglhoiibhdaaOpsOf
import Derived.Test.YtimeglhoiibhdaaGet
import Derived.Test.YtimeglhoiibhdaaPut
import Derived.ArgAppend
import Derived.Deep.Cut
import Derived.Deep.CutBlock
import Derived.Deep.DeepCutAuto
namespace Go.Proofs.Ytimeglhoiibhdaa
open Go.RowKit
namespace M
structure Pq where
  os : List Oq
  n : Int
  s : Int
  a : Int
  k : Int
  f : Int
def sinkB (x : Int) : Bool := decide (-1 ≤ x ∧ x ≤ 3)
def rightP (p : Pq) : Bool := rightL p.os && (rightB p.n p.s && (decide (1 ≤ p.a ∧ p.a ≤ 4) && (sinkB p.k && sinkB p.f)))
def opInts (os : List Oq) : List Int := os.flatMap fun o => [o.k, o.n]
/-- The ints of a pipe, in the order in which they are written. -/
def nums (p : Pq) : List Int := [p.n, p.s, p.a, p.k, p.f, (p.os.length : Int)] ++ opInts p.os
end M
open M
theorem world_gen {P : Program} {c : Code} {Q : Exit → Act → World → Prop} {a : Act} {W : World} (R : World → Prop) (h : R W) (k : ∀ W2, R W2 → c.wp P Q a W2) : c.wp P Q a W := k W h
theorem new_cell {w : World} {b j : Nat} {cs : Array Value} {T : TypeId} {v : Value} (hb : b = w.heap.size) (h : cs[j]? = some v) : (w.alloc (.cells cs T)).cell? ⟨b, j, none⟩ = some v := by
  subst hb; simp [h]
theorem bstep {a w w1 : World} {o : Obj} (h : Below a.heap.size a w) (b : Below (w.alloc o).heap.size (w.alloc o) w1) : Below a.heap.size a w1 :=
  (h.alloc h.size o).trans (b.mono (Nat.le_trans h.size (by simp)))
theorem bcall {a w w1 : World} (h : Below a.heap.size a w) (b : Below w.heap.size w w1) : Below a.heap.size a w1 := h.trans (b.mono h.size)
theorem bnew {a w : World} (h : Below a.heap.size a w) (o : Obj) : Below a.heap.size a (w.alloc o) := h.alloc h.size o
theorem RdO.call {w w' : World} {v : Value} {os : List Oq} (h : RdO w v os) (hb : Below w.heap.size w w') : RdO w' v os := h.below hb (Nat.le_refl _) hb.size

abbrev pv (v : Value) (n s a k f : Int) : Value := .agg #[v, .int .i64 n, .int .i64 s, .int .i64 a, .int .i64 k, .int .i64 f]
/-- A pipe's block whole. -/
def Pik (w : World) (b : Nat) (v : Value) (n s a k f : Int) : Prop := w.heap[b]? = some (.cells #[v, .int .i64 n, .int .i64 s, .int .i64 a, .int .i64 k, .int .i64 f] 26 (0, 0))
section
variable {w w' : World} {b : Nat} {v : Value} {n s a k f : Int}
theorem Pik.c0 (h : Pik w b v n s a k f) : w.cell? ⟨b, 0, none⟩ = some v := by unfold Pik at h; simp [World.cell?, h]
theorem Pik.c1 (h : Pik w b v n s a k f) : w.cell? ⟨b, 1, none⟩ = some (.int .i64 n) := by unfold Pik at h; simp [World.cell?, h]
theorem Pik.c2 (h : Pik w b v n s a k f) : w.cell? ⟨b, 2, none⟩ = some (.int .i64 s) := by unfold Pik at h; simp [World.cell?, h]
theorem Pik.c3 (h : Pik w b v n s a k f) : w.cell? ⟨b, 3, none⟩ = some (.int .i64 a) := by unfold Pik at h; simp [World.cell?, h]
theorem Pik.c4 (h : Pik w b v n s a k f) : w.cell? ⟨b, 4, none⟩ = some (.int .i64 k) := by unfold Pik at h; simp [World.cell?, h]
theorem Pik.c5 (h : Pik w b v n s a k f) : w.cell? ⟨b, 5, none⟩ = some (.int .i64 f) := by unfold Pik at h; simp [World.cell?, h]
theorem Pik.free (h : Pik w b v n s a k f) (i : Nat) : w.frozen? ⟨b, i, none⟩ = false := by unfold Pik at h; simp [World.frozen?, h]
theorem Pik.lt (h : Pik w b v n s a k f) : b < w.heap.size := (Array.getElem?_eq_some_iff.1 h).1
theorem Pik.below {B : Nat} (h : Pik w b v n s a k f) (hb : Below B w w') (hB : b < B) : Pik w' b v n s a k f := (hb.block b hB).trans h
theorem Pik.call (h : Pik w b v n s a k f) (hb : Below w.heap.size w w') : Pik w' b v n s a k f := h.below hb h.lt
theorem Pik.alloc (h : Pik w b v n s a k f) (o : Obj) : Pik (w.alloc o) b v n s a k f := h.below (below_alloc w o) h.lt
end
theorem pik_new (w : World) (v : Value) (n s a k f : Int) : Pik (w.alloc (.cells #[v, .int .i64 n, .int .i64 s, .int .i64 a, .int .i64 k, .int .i64 f] 26)) w.heap.size v n s a k f := by
  show (w.heap.push _)[w.heap.size]? = _
  simp

/-- pipe.sinkOrNone. -/
theorem sink_is (x : Int) (p : Bool) (w : World) (hp : sinkB x = p) :
    Calls Try.prog 35 #[.int .i64 x] w fun e w' => e = .returned (.bool p) ∧ w' = w := by
  subst hp
  by_cases h1 : x = -1
  · subst h1
    go_enter Try.func35, Try.ntmps35
    go_wp2
    go_ret
    exact ⟨rfl, rfl⟩
  · have h1' : (x == -1) = false := by simpa using h1
    by_cases h0 : 0 ≤ x
    · go_enter Try.func35, Try.ntmps35
      go_wp2
      go_ret
      exact ⟨ret_bool (by unfold sinkB; rw [Bool.eq_iff_iff]; simp; omega), rfl⟩
    · go_enter Try.func35, Try.ntmps35
      go_wp2
      go_ret
      exact ⟨ret_bool (by unfold sinkB; simp; omega), rfl⟩

set_option maxHeartbeats 1000000 in
set_option maxRecDepth 100000 in
/-- pipe.Right. -/
theorem pright_is (v : Value) (os : List Oq) (n s a k f : Int) (r : Bool) (w : World) (hv : RdO w v os) (hr : rightP ⟨os, n, s, a, k, f⟩ = r) :
    Calls Try.prog 16 #[pv v n s a k f] w fun e w' => e = .returned (.bool r) ∧ Below w.heap.size w w' := by
  obtain ⟨r1, h1⟩ : ∃ r1, Hid (rightL os = r1) := ⟨_, rfl⟩
  obtain ⟨r2, h2⟩ : ∃ r2, Hid (rightB n s = r2) := ⟨_, rfl⟩
  obtain ⟨r3, h3⟩ : ∃ r3, Hid (decide (1 ≤ a ∧ a ≤ 4) = r3) := ⟨_, rfl⟩
  obtain ⟨r4, h4⟩ : ∃ r4, Hid (sinkB k = r4) := ⟨_, rfl⟩
  obtain ⟨r5, h5⟩ : ∃ r5, Hid (sinkB f = r5) := ⟨_, rfl⟩
  have hR : Hid ((r1 && (r2 && (r3 && (r4 && r5)))) = r) := by
    have h : (r1 && (r2 && (r3 && (r4 && r5)))) = r := by
      rw [← hr, ← h1.out, ← h2.out, ← h3.out, ← h4.out, ← h5.out]; rfl
    exact h
  clear hr
  go_enter Try.func16, Try.ntmps16
  go_upto_region 1 with fail
  refine world_gen (fun W => Pik W w.heap.size v n s a k f ∧ RdO W v os ∧ Below w.heap.size w W) ⟨pik_new _ _ _ _ _ _ _, hv.call (below_alloc _ _), below_alloc _ _⟩ ?_
  clear hv
  rintro W0 ⟨k0, hv, b0⟩
  obtain ⟨g, hg⟩ : ∃ g, Hid (w.heap.size = g) := ⟨_, rfl⟩
  rw [hg.out] at k0 ⊢
  have c0 := k0.c0
  go_wp2_with fail
  refine (right_any v os r1 _ hv h1.out).mono ?_
  rintro e w1 ⟨rfl, b1⟩
  have k1 := k0.call b1
  have bb := bcall b0 b1
  clear c0 hv k0 b0 b1
  cases r1
  · go_wp2
    go_ret
    exact ⟨ret_bool hR.out, hg.out ▸ bb⟩
  have c1 := k1.c1
  have c2 := k1.c2
  have c3 := k1.c3
  have c4 := k1.c4
  have c5 := k1.c5
  go_wp2_with fail
  refine (wright_is n s r2 _ h2.out).mono ?_
  rintro e w' ⟨rfl, he⟩; obtain rfl := he.symm; clear he
  cases r2
  · go_wp2
    go_ret
    exact ⟨ret_bool hR.out, hg.out ▸ bb⟩
  go_wp2_with fail
  refine (aright_is a r3 _ h3.out).mono ?_
  rintro e w' ⟨rfl, he⟩; obtain rfl := he.symm; clear he
  cases r3
  · go_wp2
    go_ret
    exact ⟨ret_bool hR.out, hg.out ▸ bb⟩
  go_wp2_with fail
  refine (sink_is k r4 _ h4.out).mono ?_
  rintro e w' ⟨rfl, he⟩; obtain rfl := he.symm; clear he
  cases r4
  · go_wp2
    go_ret
    exact ⟨ret_bool hR.out, hg.out ▸ bb⟩
  go_wp2_with fail
  refine (sink_is f r5 _ h5.out).mono ?_
  rintro e w' ⟨rfl, he⟩; obtain rfl := he.symm; clear he
  go_wp2
  go_ret
  exact ⟨ret_bool hR.out, hg.out ▸ bb⟩

abbrev av (n s a k f : Int) : Value := .agg #[.int .i64 n, .int .i64 s, .int .i64 a, .int .i64 k, .int .i64 f]
/-- pipe.numbers. -/
theorem numbers_is (v : Value) (n s a k f : Int) (w : World) :
    Calls Try.prog 23 #[pv v n s a k f] w fun e w' => e = .returned (av n s a k f) ∧ Below w.heap.size w w' := by
  go_enter Try.func23, Try.ntmps23
  go_wp2
  exact bodyPost_ret (v := av n s a k f) (by simp [results, Try.results23, go_sem]) rfl ⟨rfl, (below_alloc _ _).alloc (by simp) _⟩
end Go.Proofs.Ytimeglhoiibhdaa
