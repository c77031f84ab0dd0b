/- The statement OperFilters, for every memory. -/
import Derived.Test.YtfhkmgjnmmaakaaKeys
namespace Go.Proofs.Ytfhkmgjnmmaakaa
open Go.RowKit M

theorem opk_at {b : Nat} (w : World) (hb : b = w.heap.size) (k n : Int) : Opk (w.alloc (.cells #[.int .i64 k, .int .i64 n] 28)) b ⟨k, n⟩ := by
  subst hb; exact opk_new w k n
/-- What an event is behind three filters. -/
def pass3 (t k v l : Int) (F G H : Bool) : Ev × Bool := if (F && G && H) = true then (⟨t, k, v, l⟩, true) else (zeroE, false)
theorem filt1 (t k v l a b n : Int) : run [⟨4, a⟩, ⟨5, b⟩, ⟨6, n⟩] ⟨t, k, v, l⟩ = pass3 t k v l (decide (a < v)) (decide (v < b)) (k == n) := by
  by_cases h1 : a < v <;> by_cases h2 : v < b <;> by_cases h3 : k = n <;> simp [run, app, pass3, h1, h2, h3]
theorem filt2 (t k v l a b n : Int) : run [⟨6, n⟩, ⟨5, b⟩, ⟨4, a⟩] ⟨t, k, v, l⟩ = pass3 t k v l (decide (a < v)) (decide (v < b)) (k == n) := by
  by_cases h1 : a < v <;> by_cases h2 : v < b <;> by_cases h3 : k = n <;> simp [run, app, pass3, h1, h2, h3]
theorem app4 (t k v l a : Int) : (app ⟨4, a⟩ ⟨t, k, v, l⟩).2 = decide (a < v) := by by_cases h : a < v <;> simp [app, h]
theorem app5 (t k v l a : Int) : (app ⟨5, a⟩ ⟨t, k, v, l⟩).2 = decide (v < a) := by by_cases h : v < a <;> simp [app, h]
theorem app6 (t k v l a : Int) : (app ⟨6, a⟩ ⟨t, k, v, l⟩).2 = (k == a) := by by_cases h : k = a <;> simp [app, h]
theorem right3 (a b n : Int) (h0 : 0 ≤ n) (h1 : n ≤ 255) : rightL [⟨4, a⟩, ⟨5, b⟩, ⟨6, n⟩] = true := by simp [rightL, rightO, h0, h1]

set_option maxHeartbeats 4000000 in
set_option maxRecDepth 100000 in
theorem filters_core (t k v l a b c : Int) (w : World) (ha : a ≤ 9223372036854775807) (hb : b ≤ 9223372036854775807) :
    Calls Try.prog 7 #[evv t k v l, .int .i64 a, .int .i64 b, .int .i64 c] w fun e w' => e = .returned (.bool true) ∧ Below w.heap.size w w' := by
  have hA : Hid (a ≤ 9223372036854775807) := ha
  have hB : Hid (b ≤ 9223372036854775807) := hb
  clear ha hb
  go_enter Try.func7, Try.ntmps7
  go_wp2_with fail
  refine (within_any c 0 255 _ (by decide) (by decide) (by decide)).mono ?_
  rintro e w' ⟨⟨n, hn1, hn2, rfl⟩, he⟩
  obtain rfl := he.symm
  clear he
  go_upto_region 2 with fail
  refine world_gen (fun W => Evk W w.heap.size ⟨t, k, v, l⟩ ∧ Opk W (w.heap.size + 1) ⟨4, a⟩ ∧ Opk W (w.heap.size + 1 + 1) ⟨5, b⟩ ∧ Opk W (w.heap.size + 1 + 1 + 1) ⟨6, n⟩ ∧ Below w.heap.size w W)
    ⟨(((evk_new _ _ _ _ _).alloc _).alloc _).alloc _, ((opk_at _ (by simp) _ _).alloc _).alloc _, (opk_at _ (by simp) _ _).alloc _, opk_at _ (by simp) _ _, bnew (bnew (bnew (bnew (Below.refl _ _) _) _) _) _⟩ ?_
  rintro W0 ⟨e0, x0, y0, z0, h0⟩
  obtain ⟨g, hg⟩ : ∃ g, Hid (w.heap.size = g) := ⟨_, rfl⟩
  rw [hg.out] at e0 x0 y0 z0 ⊢
  generalize g + 1 + 1 + 1 = gz at z0 ⊢
  generalize g + 1 + 1 = gy at y0 ⊢
  generalize g + 1 = gx at x0 ⊢
  obtain ⟨⟨⟨pt, pk, pv, pl⟩, pi⟩, hP⟩ : ∃ P, Hid (pass3 t k v l (decide (a < v)) (decide (v < b)) (k == n) = P) := ⟨_, rfl⟩
  obtain ⟨⟨⟨xt, xk, xv, xl⟩, F⟩, hF⟩ : ∃ P, Hid (app ⟨4, a⟩ ⟨t, k, v, l⟩ = P) := ⟨_, rfl⟩
  obtain ⟨⟨⟨yt, yk, yv, yl⟩, G⟩, hG⟩ : ∃ P, Hid (app ⟨5, b⟩ ⟨t, k, v, l⟩ = P) := ⟨_, rfl⟩
  obtain ⟨⟨⟨zt, zk, zv, zl⟩, H⟩, hH⟩ : ∃ P, Hid (app ⟨6, n⟩ ⟨t, k, v, l⟩ = P) := ⟨_, rfl⟩
  have q0 := e0.c0
  have q1 := e0.c1
  have q2 := e0.c2
  have q3 := e0.c3
  have q4 := x0.c0
  have q5 := x0.c1
  have q6 := y0.c0
  have q7 := y0.c1
  have q8 := z0.c0
  have q9 := z0.c1
  simp only at q0 q1 q2 q3 q4 q5 q6 q7 q8 q9
  go_wp2_with fail
  refine (run_is t k v l _ [⟨4, a⟩, ⟨5, b⟩, ⟨6, n⟩] (⟨pt, pk, pv, pl⟩, pi) _ (rd_3 W0 4 a 5 b 6 n hA.out hB.out (by omega)) ((filt1 _ _ _ _ _ _ _).trans hP.out)).mono ?_
  rintro e w1 ⟨rfl, b⟩
  have h1 := bstep h0 b
  have e1 := e0.step b
  have x1 := x0.step b
  have y1 := y0.step b
  have z1 := z0.step b
  clear b h0 e0 x0 y0 z0  q0 q1 q2 q3 q4 q5 q6 q7 q8 q9
  go_upto_region 3 with fail
  refine world_gen (fun W => Evk W g ⟨t, k, v, l⟩ ∧ Opk W gx ⟨4, a⟩ ∧ Opk W gy ⟨5, b⟩ ∧ Opk W gz ⟨6, n⟩ ∧ Evk W w1.heap.size ⟨pt, pk, pv, pl⟩ ∧ Below w.heap.size w W)
    ⟨e1.alloc _, x1.alloc _, y1.alloc _, z1.alloc _, evk_new _ _ _ _ _, bnew h1 _⟩ ?_
  clear h1 e1 x1 y1 z1 
  rintro W1 ⟨e1, x1, y1, z1, p1, h1⟩
  generalize w1.heap.size = g1 at p1 ⊢
  have q0 := e1.c0
  have q1 := e1.c1
  have q2 := e1.c2
  have q3 := e1.c3
  have q4 := x1.c0
  have q5 := x1.c1
  have q6 := y1.c0
  have q7 := y1.c1
  have q8 := z1.c0
  have q9 := z1.c1
  simp only at q0 q1 q2 q3 q4 q5 q6 q7 q8 q9
  go_wp2_with fail
  refine (run_is t k v l _ [⟨6, n⟩, ⟨5, b⟩, ⟨4, a⟩] (⟨pt, pk, pv, pl⟩, pi) _ (rd_3 W1 6 n 5 b 4 a (by omega) hB.out hA.out) ((filt2 _ _ _ _ _ _ _).trans hP.out)).mono ?_
  rintro e w2 ⟨rfl, b⟩
  have h2 := bstep h1 b
  have e2 := e1.step b
  have x2 := x1.step b
  have y2 := y1.step b
  have z2 := z1.step b
  have p2 := p1.step b
  clear b h1 e1 x1 y1 z1 p1 q0 q1 q2 q3 q4 q5 q6 q7 q8 q9
  go_upto_region 4 with fail
  refine world_gen (fun W => Evk W g ⟨t, k, v, l⟩ ∧ Opk W gx ⟨4, a⟩ ∧ Opk W gy ⟨5, b⟩ ∧ Opk W gz ⟨6, n⟩ ∧ Evk W g1 ⟨pt, pk, pv, pl⟩ ∧ Evk W w2.heap.size ⟨pt, pk, pv, pl⟩ ∧ Below w.heap.size w W)
    ⟨e2.alloc _, x2.alloc _, y2.alloc _, z2.alloc _, p2.alloc _, evk_new _ _ _ _ _, bnew h2 _⟩ ?_
  clear h2 e2 x2 y2 z2 p2
  rintro W2 ⟨e2, x2, y2, z2, p2, r2, h2⟩
  generalize w2.heap.size = g2 at r2 ⊢
  have q0 := e2.c0
  have q1 := e2.c1
  have q2 := e2.c2
  have q3 := e2.c3
  have q4 := x2.c0
  have q5 := x2.c1
  have q6 := y2.c0
  have q7 := y2.c1
  have q8 := z2.c0
  have q9 := z2.c1
  simp only at q0 q1 q2 q3 q4 q5 q6 q7 q8 q9
  go_wp2_with fail
  refine (apply_is 4 a t k v l (⟨xt, xk, xv, xl⟩, F) _ hA.out hF.out).mono ?_
  rintro e w3 ⟨rfl, b⟩
  have h3 := bcall h2 b
  have e3 := e2.call b
  have x3 := x2.call b
  have y3 := y2.call b
  have z3 := z2.call b
  have p3 := p2.call b
  have r3 := r2.call b
  clear b h2 e2 x2 y2 z2 p2 r2 q0 q1 q2 q3 q4 q5 q6 q7 q8 q9
  go_upto_region 5 with fail
  refine world_gen (fun W => Evk W g ⟨t, k, v, l⟩ ∧ Opk W gx ⟨4, a⟩ ∧ Opk W gy ⟨5, b⟩ ∧ Opk W gz ⟨6, n⟩ ∧ Evk W g1 ⟨pt, pk, pv, pl⟩ ∧ Evk W g2 ⟨pt, pk, pv, pl⟩ ∧ Below w.heap.size w W)
    ⟨e3.alloc _, x3.alloc _, y3.alloc _, z3.alloc _, p3.alloc _, r3.alloc _, bnew h3 _⟩ ?_
  clear h3 e3 x3 y3 z3 p3 r3
  rintro W3 ⟨e3, x3, y3, z3, p3, r3, h3⟩
  generalize w3.heap.size = g3
  have q0 := e3.c0
  have q1 := e3.c1
  have q2 := e3.c2
  have q3 := e3.c3
  have q4 := x3.c0
  have q5 := x3.c1
  have q6 := y3.c0
  have q7 := y3.c1
  have q8 := z3.c0
  have q9 := z3.c1
  simp only at q0 q1 q2 q3 q4 q5 q6 q7 q8 q9
  go_wp2_with fail
  refine (apply_is 5 b t k v l (⟨yt, yk, yv, yl⟩, G) _ hB.out hG.out).mono ?_
  rintro e w4 ⟨rfl, b⟩
  have h4 := bcall h3 b
  have e4 := e3.call b
  have x4 := x3.call b
  have y4 := y3.call b
  have z4 := z3.call b
  have p4 := p3.call b
  have r4 := r3.call b
  clear b h3 e3 x3 y3 z3 p3 r3 q0 q1 q2 q3 q4 q5 q6 q7 q8 q9
  go_upto_region 6 with fail
  refine world_gen (fun W => Evk W g ⟨t, k, v, l⟩ ∧ Opk W gx ⟨4, a⟩ ∧ Opk W gy ⟨5, b⟩ ∧ Opk W gz ⟨6, n⟩ ∧ Evk W g1 ⟨pt, pk, pv, pl⟩ ∧ Evk W g2 ⟨pt, pk, pv, pl⟩ ∧ Below w.heap.size w W)
    ⟨e4.alloc _, x4.alloc _, y4.alloc _, z4.alloc _, p4.alloc _, r4.alloc _, bnew h4 _⟩ ?_
  clear h4 e4 x4 y4 z4 p4 r4
  rintro W4 ⟨e4, x4, y4, z4, p4, r4, h4⟩
  generalize w4.heap.size = g4
  have q0 := e4.c0
  have q1 := e4.c1
  have q2 := e4.c2
  have q3 := e4.c3
  have q4 := x4.c0
  have q5 := x4.c1
  have q6 := y4.c0
  have q7 := y4.c1
  have q8 := z4.c0
  have q9 := z4.c1
  simp only at q0 q1 q2 q3 q4 q5 q6 q7 q8 q9
  go_wp2_with fail
  refine (apply_is 6 n t k v l (⟨zt, zk, zv, zl⟩, H) _ (by omega) hH.out).mono ?_
  rintro e w5 ⟨rfl, b⟩
  have h5 := bcall h4 b
  have e5 := e4.call b
  have x5 := x4.call b
  have y5 := y4.call b
  have z5 := z4.call b
  have p5 := p4.call b
  have r5 := r4.call b
  clear b h4 e4 x4 y4 z4 p4 r4 q0 q1 q2 q3 q4 q5 q6 q7 q8 q9
  go_upto_region 7 with fail
  refine world_gen (fun W => Evk W g ⟨t, k, v, l⟩ ∧ Opk W gx ⟨4, a⟩ ∧ Opk W gy ⟨5, b⟩ ∧ Opk W gz ⟨6, n⟩ ∧ Evk W g1 ⟨pt, pk, pv, pl⟩ ∧ Evk W g2 ⟨pt, pk, pv, pl⟩ ∧ Below w.heap.size w W)
    ⟨e5.alloc _, x5.alloc _, y5.alloc _, z5.alloc _, p5.alloc _, r5.alloc _, bnew h5 _⟩ ?_
  clear h5 e5 x5 y5 z5 p5 r5
  rintro W5 ⟨e5, x5, y5, z5, p5, r5, h5⟩
  generalize w5.heap.size = g5
  have hF2 : Hid (F = decide (a < v)) := by rw [← app4 t k v l a, hF.out]; rfl
  have hG2 : Hid (G = decide (v < b)) := by rw [← app5 t k v l b, hG.out]; rfl
  have hH2 : Hid (H = (k == n)) := by rw [← app6 t k v l n, hH.out]; rfl
  clear hF hG hH
  have hP2 : Hid (pass3 t k v l F G H = (⟨pt, pk, pv, pl⟩, pi)) := by rw [hF2.out, hG2.out, hH2.out]; exact hP.out
  clear hP
  have r0 := p5.c0
  have r1 := p5.c1
  have r2 := p5.c2
  have r3 := p5.c3
  have s0 := r5.c0
  have s1 := r5.c1
  have s2 := r5.c2
  have s3 := r5.c3
  have q0 := e5.c0
  have q1 := e5.c1
  have q2 := e5.c2
  have q3 := e5.c3
  have q4 := x5.c0
  have q5 := x5.c1
  have q6 := y5.c0
  have q7 := y5.c1
  have q8 := z5.c0
  have q9 := z5.c1
  simp only at q0 q1 q2 q3 q4 q5 q6 q7 q8 q9
  simp only at r0 r1 r2 r3 s0 s1 s2 s3
  clear e5 x5 y5 z5 p5 r5
  cases F <;> cases G <;> cases H
  case true.true.true =>
    have d1 : a < v := of_decide_eq_true hF2.out.symm
    have d2 : v < b := of_decide_eq_true hG2.out.symm
    have d3 : k = n := by have := hH2.out; simpa using this.symm
    subst d3
    have hx : (⟨t, k, v, l⟩, true) = ((⟨pt, pk, pv, pl⟩, pi) : Ev × Bool) := hP2.out
    simp only [Prod.mk.injEq, Ev.mk.injEq] at hx
    obtain ⟨⟨rfl, rfl, rfl, rfl⟩, rfl⟩ := hx
    clear hF2 hG2 hH2 hP2
    go_wp2_with fail
    refine (right_any _ [⟨4, a⟩, ⟨5, b⟩, ⟨6, k⟩] true _ (rd_3 W5 4 a 5 b 6 k hA.out hB.out (by omega)) (right3 a b k hn1 hn2)).mono ?_
    rintro e w6 ⟨rfl, b6⟩
    have h6 := bstep h5 b6
    go_wp2_with fail
    refine (operRuns_walk w6).mono ?_
    rintro e w7 ⟨rfl, b7⟩
    go_wp2
    go_ret
    exact ⟨rfl, bcall h6 b7⟩
  all_goals
    have hx : (zeroE, false) = ((⟨pt, pk, pv, pl⟩, pi) : Ev × Bool) := hP2.out
    simp only [Prod.mk.injEq, Ev.mk.injEq] at hx
    obtain ⟨⟨rfl, rfl, rfl, rfl⟩, rfl⟩ := hx
    have d1 := hF2.out.symm
    have d2 := hG2.out.symm
    have d3 := hH2.out.symm
    clear hF2 hG2 hH2 hP2
    go_wp2_with fail
    refine (right_any _ [⟨4, a⟩, ⟨5, b⟩, ⟨6, n⟩] true _ (rd_3 W5 4 a 5 b 6 n hA.out hB.out (by omega)) (right3 a b n hn1 hn2)).mono ?_
    rintro e w6 ⟨rfl, b6⟩
    have h6 := bstep h5 b6
    go_wp2_with fail
    refine (operRuns_walk w6).mono ?_
    rintro e w7 ⟨rfl, b7⟩
    go_wp2
    go_ret
    exact ⟨rfl, bcall h6 b7⟩
theorem operFilters_walk (x : Ev) (a b c : Int) (w : World) (_ : I64 x.v) (w1 : (Lit.int .i64 a).wf = true) (w2 : (Lit.int .i64 b).wf = true) (_ : (Lit.int .i64 c).wf = true) :
    Calls Try.prog 7 #[ev x, .int .i64 a, .int .i64 b, .int .i64 c] w fun e w' => e = .returned (.bool true) ∧ Below w.heap.size w w' :=
  filters_core x.t x.k x.v x.l a b c w (bounds_i64 w1).2 (bounds_i64 w2).2
end Go.Proofs.Ytfhkmgjnmmaakaa
