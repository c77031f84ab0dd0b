/- AggRuns walked. -/
import Derived.Test.YtbopojolmmnokaaMerge
namespace Go.Proofs.Ytbopojolmmnokaa
open Go.RowKit M
set_option linter.unusedVariables false

/-- One more call behind what is kept. -/
theorem keep_call {B : Nat} {a w w' : World} (h : Below B a w) (b : Below w.heap.size w w') (hB : B ≤ w.heap.size) : Below B a w' := h.trans (b.mono hB)
theorem keep_but {B b : Nat} {a w w' : World} (h : Below B a w) (hb : But b w w') (hB : B ≤ b) : Below B a w' := h.trans (hb.below.mono hB)
theorem agl_make (w : World) (k : Int) (g : Nat) (hg : w.heap.size = g) : Agl (w.alloc (.cells #[.int .i64 0, .int .i64 k, .int .i64 0] 25)) g k [] := by
  subst hg
  unfold Agl
  rw [val_nil]
  exact agk_make w 0 k 0
theorem Agl.alloc {w : World} {b : Nat} {k : Int} {l : List Int} (h : Agl w b k l) (o : Obj) : Agl (w.alloc o) b k l := h.below (below_alloc w o) h.lt
theorem Agl.call {w w' : World} {b : Nat} {k : Int} {l : List Int} (h : Agl w b k l) (hb : Below w.heap.size w w') : Agl w' b k l := h.below hb h.lt

theorem run1 : val 2 [2, 3] = 5 := by rw [val2]; show wrap64 5 = 5; unfold wrap64; omega
theorem run2 : val 3 [4, -1, 7] = -1 := by rw [val3]; rfl
theorem run3 : val 1 [9, 9] = 2 := by rw [val1]; show wrap64 2 = 2; unfold wrap64; omega
theorem size2 (w : World) (o : Obj) : (w.alloc o).heap.size = w.heap.size + 1 := by simp
theorem size3 (w : World) (o p : Obj) : ((w.alloc o).alloc p).heap.size = w.heap.size + 1 + 1 := by simp
theorem size4 (w : World) (o p q : Obj) : (((w.alloc o).alloc p).alloc q).heap.size = w.heap.size + 1 + 1 + 1 := by simp

set_option maxHeartbeats 1000000 in
set_option maxRecDepth 100000 in
theorem runs_any (w : World) : Calls Try.prog 3 #[] w fun e w' => e = .returned (.bool true) ∧ Below w.heap.size w w' := by
  go_enter Try.func3, Try.ntmps3
  go_wp2_with fail
  refine (new_any 2 _).mono ?_
  rintro e w1 ⟨rfl, b1⟩
  go_wp2_with fail
  refine (new_any 3 _).mono ?_
  rintro e w2 ⟨rfl, b2⟩
  go_wp2_with fail
  refine (new_any 1 _).mono ?_
  rintro e w3 ⟨rfl, b3⟩
  have t3 := keep_call (keep_call b1 b2 b1.size) b3 (keep_call b1 b2 b1.size).size
  clear b1 b2 b3
  go_upto_region 2 with fail
  have hs := t3.size
  refine world_gen (fun W => Agl W w3.heap.size 2 [] ∧ Agl W (w3.heap.size + 1) 3 [] ∧ Agl W (w3.heap.size + 1 + 1) 1 [] ∧ Below w.heap.size w W)
    ⟨((agl_make w3 2 _ rfl).alloc _).alloc _, (agl_make (w3.alloc _) 3 _ (size2 _ _)).alloc _, agl_make ((w3.alloc _).alloc _) 1 _ (size3 _ _ _), ((t3.alloc hs _).alloc (by simp; omega) _).alloc (by simp; omega) _⟩ ?_
  clear t3
  generalize hg3 : w3.heap.size + 1 + 1 = g3
  generalize hg2 : w3.heap.size + 1 = g2
  generalize w3.heap.size = g1 at *
  rintro W ⟨k1, k2, k3, hb⟩
  go_wp2_with fail
  refine (add_any g1 2 [] [2, 3] _ _ (k1.alloc _) (rd_lit (k := .i64) (e := 3) W [2, 3] (by decide)) (apart_some (Nat.ne_of_gt k1.lt)) (by decide)).mono ?_
  rintro e W1 ⟨rfl, j1, b1⟩
  have t1 := keep_but (hb.alloc hb.size _) b1 hs
  have j2 := b1.agl (k2.alloc _) (by omega)
  have j3 := b1.agl (k3.alloc _) (by omega)
  clear b1 k1 k2 k3 hb
  go_wp2_with fail
  refine (add_any g2 3 [] [4, -1, 7] _ _ (j2.alloc _) (rd_lit (k := .i64) (e := 3) W1 [4, -1, 7] (by decide)) (apart_some (Nat.ne_of_gt j2.lt)) (by decide)).mono ?_
  rintro e W2 ⟨rfl, i2, b2⟩
  have t2 := keep_but (t1.alloc t1.size _) b2 (by omega)
  have i1 := b2.agl (j1.alloc _) (by omega)
  have i3 := b2.agl (j3.alloc _) (by omega)
  clear b2 j1 j2 j3 t1
  go_wp2_with fail
  refine (add_any g3 1 [] [9, 9] _ _ (i3.alloc _) (rd_lit (k := .i64) (e := 3) W2 [9, 9] (by decide)) (apart_some (Nat.ne_of_gt i3.lt)) (by decide)).mono ?_
  rintro e W3 ⟨rfl, h3, b3⟩
  have t3 := keep_but (t2.alloc t2.size _) b3 (by omega)
  have h1 := b3.agl (i1.alloc _) (by omega)
  have h2 := b3.agl (i2.alloc _) (by omega)
  clear b3 i1 i2 i3 t2
  have c1 : W3.cell? ⟨g1, 0, none⟩ = some (.int .i64 2) := Agk.c0 h1
  have c2 : W3.cell? ⟨g1, 2, none⟩ = some (.int .i64 5) := by have := Agk.c2 h1; rw [List.nil_append, run1] at this; exact this
  have c3 : W3.cell? ⟨g2, 0, none⟩ = some (.int .i64 3) := Agk.c0 h2
  have c4 : W3.cell? ⟨g2, 2, none⟩ = some (.int .i64 (-1)) := by have := Agk.c2 h2; rw [List.nil_append, run2] at this; exact this
  have c5 : W3.cell? ⟨g3, 2, none⟩ = some (.int .i64 2) := by have := Agk.c2 h3; rw [List.nil_append, run3] at this; exact this
  clear h1 h2 h3
  go_wp2
  go_ret
  exact ⟨rfl, t3⟩
theorem aggRuns_walk (w : World) : Calls Try.prog 3 #[] w fun e w' => e = .returned (.bool true) ∧ Below w.heap.size w w' := runs_any w
end Go.Proofs.Ytbopojolmmnokaa
