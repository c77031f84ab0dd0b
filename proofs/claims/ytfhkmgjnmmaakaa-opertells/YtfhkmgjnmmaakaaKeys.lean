/- The statement OperKeys, for every memory. -/
import Derived.Test.YtfhkmgjnmmaakaaRuns
import Derived.Test.YtfhkmgjnmmaakaaFrame
import Derived.Test.YtfhkmgjnmmaakaaMath2
namespace Go.Proofs.Ytfhkmgjnmmaakaa
open Go.RowKit M

/-- An operation's block. -/
def Opk (w : World) (b : Nat) (o : Oq) : Prop := w.heap[b]? = some (.cells #[.int .i64 o.k, .int .i64 o.n] 28 (0, 0))
theorem Opk.c0 {w : World} {b : Nat} {e : Oq} (h : Opk w b e) : w.cell? ⟨b, 0, none⟩ = some (.int .i64 e.k) := by unfold Opk at h; simp [World.cell?, h]
theorem Opk.c1 {w : World} {b : Nat} {e : Oq} (h : Opk w b e) : w.cell? ⟨b, 1, none⟩ = some (.int .i64 e.n) := by unfold Opk at h; simp [World.cell?, h]
theorem Opk.lt {w : World} {b : Nat} {e : Oq} (h : Opk w b e) : b < w.heap.size := (Array.getElem?_eq_some_iff.1 h).1
theorem Opk.below {w w' : World} {b B : Nat} {e : Oq} (h : Opk w b e) (hb : Below B w w') (hB : b < B) : Opk w' b e := (hb.block b hB).trans h
theorem Opk.alloc {w : World} {b : Nat} {e : Oq} (h : Opk w b e) (o : Obj) : Opk (w.alloc o) b e := h.below (below_alloc w o) h.lt
theorem opk_new (w : World) (k n : Int) : Opk (w.alloc (.cells #[.int .i64 k, .int .i64 n] 28)) w.heap.size ⟨k, n⟩ := by
  show (w.heap.push _)[w.heap.size]? = _
  simp
theorem Opk.step {w w1 : World} {b : Nat} {e : Oq} {o : Obj} (h : Opk w b e) (hb : Below (w.alloc o).heap.size (w.alloc o) w1) : Opk w1 b e := (h.alloc o).below hb (Nat.lt_of_lt_of_le h.lt (by simp))
theorem Opk.call {w w1 : World} {b : Nat} {e : Oq} (h : Opk w b e) (hb : Below w.heap.size w w1) : Opk w1 b e := h.below hb h.lt

set_option maxHeartbeats 1000000 in
set_option maxRecDepth 100000 in
theorem keys_core (v n k y : Int) (w : World) (hv : I64 v) (hy : y ≤ 9223372036854775807) :
    Calls Try.prog 6 #[.int .i64 v, .int .i64 n, .int .i64 k, .int .i64 y] w fun e w' => e = .returned (.bool true) ∧ Below w.heap.size w w' := by
  have hV : Hid (I64 v) := hv
  have hY : Hid (y ≤ 9223372036854775807) := hy
  clear hv hy
  go_enter Try.func6, Try.ntmps6
  go_wp2_with fail
  refine (within_any n 1 256 _ (by decide) (by decide) (by decide)).mono ?_
  rintro e w' ⟨⟨m, hm1, hm2, rfl⟩, he⟩
  obtain rfl := he.symm
  clear he
  go_wp2_with fail
  refine (within_any v (-1099511627776) 1099511627776 _ (by decide) (by decide) (by decide)).mono ?_
  rintro e w' ⟨⟨x, hx1, hx2, rfl⟩, he⟩
  obtain rfl := he.symm
  clear he
  go_wp2_with fail
  refine (within_any k (-1000) 1000 _ (by decide) (by decide) (by decide)).mono ?_
  rintro e w' ⟨⟨j, hj1, hj2, rfl⟩, he⟩
  obtain rfl := he.symm
  clear he
  obtain ⟨hp1, hp2⟩ := mul_bd j m hm1 hm2 hj1 hj2
  obtain ⟨hr1, hr2⟩ := key_in x m hm1
  have hq : Hid (app ⟨3, m⟩ ⟨0, 0, x, 1⟩ = (⟨0, rem0 x m, x, 1⟩, true)) := app_key x m 1 hm1
  have hq2 : Hid (app ⟨3, m⟩ ⟨0, 0, x + j * m, 1⟩ = (⟨0, rem0 x m, x + j * m, 1⟩, true)) := by
    rw [app_key _ m 1 hm1, key_apart x m j hm1]; rfl
  have hrest : Hid ((x - rem0 x m).tmod m = 0) := key_rest x m hm1
  generalize rem0 x m = r at hr1 hr2 hq hq2 hrest
  go_upto_region 5 with fail
  refine world_gen (fun W => Opk W w.heap.size ⟨3, m⟩ ∧ Below w.heap.size w W) ⟨opk_new _ _ _, bnew (Below.refl _ _) _⟩ ?_
  rintro W ⟨k0, h0⟩
  obtain ⟨g, hg⟩ : ∃ g, Hid (w.heap.size = g) := ⟨_, rfl⟩
  rw [hg.out] at k0 ⊢
  have c0 := k0.c0
  have c1 := k0.c1
  simp only at c0 c1
  go_wp2_with fail
  refine (apply_is 3 m 0 0 x 1 (⟨0, r, x, 1⟩, true) _ (by omega) hq.out).mono ?_
  rintro e w1 ⟨rfl, b1⟩
  have h1 := bcall h0 b1
  have k1 := k0.call b1
  clear b1 h0 k0 c0 c1
  go_upto_region 6 with fail
  refine world_gen (fun W => Opk W g ⟨3, m⟩ ∧ Evk W w1.heap.size ⟨0, r, x, 1⟩ ∧ Below w.heap.size w W) ⟨k1.alloc _, evk_new _ _ _ _ _, bnew h1 _⟩ ?_
  clear h1 k1
  rintro W1 ⟨k1, a1, h1⟩
  generalize w1.heap.size = g1 at a1 ⊢
  have c0 := k1.c0
  have c1 := k1.c1
  simp only at c0 c1
  go_wp2_with fail
  refine (apply_is 3 m 0 0 (x + j * m) 1 (⟨0, r, x + j * m, 1⟩, true) _ (by omega) hq2.out).mono ?_
  rintro e w2 ⟨rfl, b2⟩
  have h2 := bcall h1 b2
  have k2 := k1.call b2
  have a2 := a1.call b2
  clear b2 h1 k1 a1 c0 c1 hq hq2
  generalize x + j * m = z
  go_upto_region 7 with fail
  refine world_gen (fun W => Opk W g ⟨3, m⟩ ∧ Evk W g1 ⟨0, r, x, 1⟩ ∧ Evk W w2.heap.size ⟨0, r, z, 1⟩ ∧ Below w.heap.size w W) ⟨k2.alloc _, a2.alloc _, evk_new _ _ _ _ _, bnew h2 _⟩ ?_
  clear h2 k2 a2
  rintro W2 ⟨k2, a2, d2, h2⟩
  generalize w2.heap.size = g2 at d2 ⊢
  have c0 := k2.c0
  have c1 := k2.c1
  simp only at c0 c1
  go_wp2_with fail
  refine (run_is 0 0 x 0 _ [⟨2, 0⟩, ⟨3, m⟩] (⟨0, 0, 0, 0⟩, true) _ (rd_2 W2 2 0 3 m (by decide) (by omega)) (run_nought x m hm1)).mono ?_
  rintro e w3 ⟨rfl, b3⟩
  have h3 := bstep h2 b3
  have a3 := a2.step b3
  have d3 := d2.step b3
  clear b3 h2 k2 a2 d2 c0 c1
  go_upto_region 8 with fail
  refine world_gen (fun W => Evk W g1 ⟨0, r, x, 1⟩ ∧ Evk W g2 ⟨0, r, z, 1⟩ ∧ Evk W w3.heap.size ⟨0, 0, 0, 0⟩ ∧ Below w.heap.size w W) ⟨a3.alloc _, d3.alloc _, evk_new _ _ _ _ _, bnew h3 _⟩ ?_
  clear h3 a3 d3
  rintro W3 ⟨a3, d3, f3, h3⟩
  generalize w3.heap.size = g3 at f3 ⊢
  go_wp2_with fail
  refine (run_is 0 0 9223372036854775807 0 _ [⟨1, 1⟩] (⟨0, 0, -9223372036854775808, 0⟩, true) _ (rd_1 W3 1 1 (by decide)) run_round).mono ?_
  rintro e w4 ⟨rfl, b4⟩
  have h4 := bstep h3 b4
  have a4 := a3.step b4
  have d4 := d3.step b4
  have f4 := f3.step b4
  clear b4 h3 a3 d3 f3
  go_upto_region 9 with fail
  refine world_gen (fun W => Evk W g1 ⟨0, r, x, 1⟩ ∧ Evk W g2 ⟨0, r, z, 1⟩ ∧ Evk W g3 ⟨0, 0, 0, 0⟩ ∧ Evk W w4.heap.size ⟨0, 0, -9223372036854775808, 0⟩ ∧ Below w.heap.size w W) ⟨a4.alloc _, d4.alloc _, f4.alloc _, evk_new _ _ _ _ _, bnew h4 _⟩ ?_
  clear h4 a4 d4 f4
  rintro W4 ⟨a4, d4, f4, i4, h4⟩
  generalize w4.heap.size = g4 at i4 ⊢
  go_wp2_with fail
  refine (run_is 0 0 v 0 _ [⟨1, y⟩, ⟨2, -1⟩, ⟨1, y⟩, ⟨2, -1⟩] (⟨0, 0, v, 0⟩, true) _ (rd_4 W4 1 y 2 (-1) 1 y 2 (-1) hY.out (by decide) hY.out (by decide)) (run_back v y hV.out)).mono ?_
  rintro e w5 ⟨rfl, b5⟩
  have h5 := bstep h4 b5
  have a5 := a4.step b5
  have d5 := d4.step b5
  have f5 := f4.step b5
  have i5 := i4.step b5
  clear b5 h4 a4 d4 f4 i4
  go_upto_region 10 with fail
  refine world_gen (fun W => Evk W g1 ⟨0, r, x, 1⟩ ∧ Evk W g2 ⟨0, r, z, 1⟩ ∧ Evk W g3 ⟨0, 0, 0, 0⟩ ∧ Evk W g4 ⟨0, 0, -9223372036854775808, 0⟩ ∧ Evk W w5.heap.size ⟨0, 0, v, 0⟩ ∧ Below w.heap.size w W) ⟨a5.alloc _, d5.alloc _, f5.alloc _, i5.alloc _, evk_new _ _ _ _ _, bnew h5 _⟩ ?_
  clear h5 a5 d5 f5 i5
  rintro W5 ⟨a5, d5, f5, i5, l5, h5⟩
  generalize w5.heap.size = g5 at l5 ⊢
  have p1 := a5.c1
  have p2 := d5.c1
  have p3 := f5.c1
  have p4 := f5.c2
  have p5 := i5.c2
  have p6 := l5.c2
  simp only at p1 p2 p3 p4 p5 p6
  have hre := hrest.out
  go_wp2_with fail
  refine (operRuns_walk W5).mono ?_
  rintro e w6 ⟨rfl, b6⟩
  go_wp2
  go_ret
  exact ⟨rfl, bcall h5 b6⟩
theorem operKeys_walk (v n k y : Int) (w : World) (w0 : (Lit.int .i64 v).wf = true) (_ : (Lit.int .i64 n).wf = true) (_ : (Lit.int .i64 k).wf = true) (w3 : (Lit.int .i64 y).wf = true) :
    Calls Try.prog 6 #[.int .i64 v, .int .i64 n, .int .i64 k, .int .i64 y] w fun e w' => e = .returned (.bool true) ∧ Below w.heap.size w w' :=
  keys_core v n k y w (bounds_i64 w0) (bounds_i64 w3).2
end Go.Proofs.Ytfhkmgjnmmaakaa
