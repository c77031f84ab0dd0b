/- The statement PipeEdges, for every memory. -/
import Derived.Test.YtimeglhoiibhdaaRuns
import Derived.Test.YtimeglhoiibhdaaRoomyO
import Derived.Test.YtimeglhoiibhdaaFrame
namespace Go.Proofs.Ytimeglhoiibhdaa
open Go.RowKit M
theorem Pik.set2 {w : World} {b : Nat} {v : Value} {n s a k f : Int} (h : Pik w b v n s a k f) (x : Int) : Pik (w.setCell ⟨b, 2, none⟩ (.int .i64 x)) b v n x a k f := by
  unfold Pik at *
  simp [World.setCell, Array.getElem?_modify, h]
theorem Pik.set3 {w : World} {b : Nat} {v : Value} {n s a k f : Int} (h : Pik w b v n s a k f) (x : Int) : Pik (w.setCell ⟨b, 3, none⟩ (.int .i64 x)) b v n s x k f := by
  unfold Pik at *
  simp [World.setCell, Array.getElem?_modify, h]
theorem Pik.set4 {w : World} {b : Nat} {v : Value} {n s a k f : Int} (h : Pik w b v n s a k f) (x : Int) : Pik (w.setCell ⟨b, 4, none⟩ (.int .i64 x)) b v n s a x f := by
  unfold Pik at *
  simp [World.setCell, Array.getElem?_modify, h]
theorem Pik.set5 {w : World} {b : Nat} {v : Value} {n s a k f : Int} (h : Pik w b v n s a k f) (x : Int) : Pik (w.setCell ⟨b, 5, none⟩ (.int .i64 x)) b v n s a k x := by
  unfold Pik at *
  simp [World.setCell, Array.getElem?_modify, h]
/-- A list of operations hangs on its own block alone. -/
theorem RdO.block {w w' : World} {g off L c : Nat} {os : List Oq} (h : RdO w (.slice (some ⟨g, off, none⟩) L c) os) (hh : w'.heap[g]? = w.heap[g]?) (hs : w.heap.size ≤ w'.heap.size) : RdO w' (.slice (some ⟨g, off, none⟩) L c) os := by
  obtain ⟨h1, h2, ao, cap, he, h3, h4, h5⟩ := h
  injection he with e1 e2 e3
  subst e1 e2 e3
  refine ⟨h1, h2, _, _, rfl, h3, h4, fun h0 => ?_⟩
  obtain ⟨b, o, hb, hlt, hc⟩ := h5 h0
  injection hb with hb
  injection hb with hb1 hb2
  subst hb1 hb2
  refine ⟨g, off, rfl, Nat.lt_of_lt_of_le hlt hs, fun j hj => ?_⟩
  obtain ⟨c0, c1⟩ := hc j hj
  exact ⟨by simpa only [World.cell?, hh] using c0, by simpa only [World.cell?, hh] using c1⟩
theorem opl_cons (x : Oq) (s : List Oq) : opl (x :: s) = .int .i64 x.k :: .int .i64 x.n :: opl s := rfl
theorem opl_set : ∀ (os : List Oq) (j : Nat) (c m : Int), j < os.length → ((opl os).set (j * 2) (.int .i64 c)).set (j * 2 + 1) (.int .i64 m) = opl (os.set j ⟨c, m⟩)
  | [], j, _, _, h => by simp at h
  | x :: s, 0, c, m, _ => by simp [opl_cons]
  | x :: s, j + 1, c, m, h => by
    rw [opl_cons, List.set_cons_succ, opl_cons, show (j + 1) * 2 = j * 2 + 1 + 1 by omega, show j * 2 + 1 + 1 + 1 = (j * 2 + 1) + 1 + 1 by omega]
    simp only [List.set_cons_succ]
    rw [opl_set s j c m (by simpa using h)]
theorem wrong_s {os : List Oq} {n s a k f : Int} (h : rightB n s = false) : rightP ⟨os, n, s, a, k, f⟩ = false := by
  simp only [rightP, h, Bool.false_and, Bool.and_false]
theorem wrong_a {os : List Oq} {n s a k f : Int} (h : ¬ (1 ≤ a ∧ a ≤ 4)) : rightP ⟨os, n, s, a, k, f⟩ = false := by
  simp only [rightP, decide_eq_false h, Bool.false_and, Bool.and_false]
theorem wrong_k {os : List Oq} {n s a k f : Int} (h : ¬ (-1 ≤ k ∧ k ≤ 3)) : rightP ⟨os, n, s, a, k, f⟩ = false := by
  simp only [rightP, sinkB, decide_eq_false h, Bool.false_and, Bool.and_false]
theorem wrong_f {os : List Oq} {n s a k f : Int} (h : ¬ (-1 ≤ f ∧ f ≤ 3)) : rightP ⟨os, n, s, a, k, f⟩ = false := by
  simp only [rightP, sinkB, decide_eq_false h, Bool.and_false]
theorem wrong_o {os : List Oq} {n s a k f : Int} (h : rightL os = false) : rightP ⟨os, n, s, a, k, f⟩ = false := by
  simp only [rightP, h, Bool.false_and]
theorem rightB_no {n s : Int} (h : s < 1 ∨ n < s ∨ 1048576 < n) : rightB n s = false := by
  rw [Bool.eq_false_iff]
  intro h'
  have := right_of h'
  omega
theorem enc_len {p : Pq} (h : rightP p = true) : (enc p).length ≠ 0 := by
  rw [enc_of h]
  show (put (p.n :: _)).length ≠ 0
  rw [put_cons, List.length_append]
  have := leb_pos (zz p.n)
  omega
set_option maxHeartbeats 4000000 in
set_option maxRecDepth 100000 in
theorem edges_core (ao : Option Addr) (lo co : Nat) (an : Option Addr) (ln cn : Nat) (n s a k f x1 x2 : Int) (w : World) (ho : Ints w ao lo co) (hn : Ints w an ln cn) :
    Calls Try.prog 6 #[kv (.slice ao lo co) (.slice an ln cn) n s a k f, .int .i64 x1, .int .i64 x2] w fun e w' => e = .returned (.bool true) ∧ Below w.heap.size w w' := by
  obtain ⟨i0, hi, hz0, hz1, hz2⟩ := info_parts Try.info23
  go_enter Try.func6, Try.ntmps6
  go_upto_region 1 with fail
  refine world_gen (fun W => Kpk W w.heap.size (.slice ao lo co) (.slice an ln cn) n s a k f ∧ Ints W ao lo co ∧ Ints W an ln cn ∧ Below w.heap.size w W)
    ⟨kpk_new _ _ _ _ _ _ _ _, ho.call (below_alloc _ _), hn.call (below_alloc _ _), below_alloc _ _⟩ ?_
  clear ho hn
  rintro W0 ⟨k0, ho, hn, b0⟩
  generalize hg : w.heap.size = g at k0 ⊢
  rw [hg] at b0
  have c0 := k0.c0
  have c1 := k0.c1
  have c2 := k0.c2
  have c3 := k0.c3
  have c4 := k0.c4
  have c5 := k0.c5
  have c6 := k0.c6
  go_wp2_with fail
  refine (keep_any ao lo co an ln cn n s a k f _ ho hn).mono ?_
  rintro e w1 ⟨⟨os, n1, s1, a1, k1, f1⟩, u, hsm, rfl, o1, _, b1⟩
  simp only at o1
  have hr : Hid (rightP ⟨os, n1, s1, a1, k1, f1⟩ = true) := small_right hsm
  have hf : Hid (PFits ⟨os, n1, s1, a1, k1, f1⟩) := small_fits hsm
  have rd1 : Hid (RdO w1 u os) := rd_opl o1 rfl hf.out.1
  obtain ⟨_, hso, hs1, hs2, hn1, hn2, ha1, ha2, hk1, hk2, hf1, hf2⟩ := hsm
  simp only at hs1 hs2 hn1 hn2 ha1 ha2 hk1 hk2 hf1 hf2
  obtain ⟨ua, uc, rfl⟩ := own_some2 o1
  obtain ⟨L, hL⟩ : ∃ L, Hid (os.length = L) := ⟨_, rfl⟩
  rw [hL.out] at rd1 ⊢
  have bb : Below g w w1 := b0.trans (b1.mono (hg ▸ b0.size))
  clear o1 hso c0 c1 c2 c3 c4 c5 c6 k0 ho hn b0 b1
  go_upto_region 2 with fail
  refine world_gen (fun W => Pik W w1.heap.size (.slice ua L uc) n1 s1 a1 k1 f1 ∧ Below w1.heap.size w1 W) ⟨pik_new _ _ _ _ _ _ _, below_alloc _ _⟩ ?_
  rintro W1 ⟨p1, bw⟩
  obtain ⟨gp, hgp⟩ : ∃ gp, Hid (w1.heap.size = gp) := ⟨_, rfl⟩
  rw [hgp.out] at p1 bw ⊢
  have rdW : Hid (RdO W1 (.slice ua L uc) os) := rd1.out.below (hgp.out ▸ bw) (Nat.le_refl _) (by rw [hgp.out]; exact hgp.out ▸ bw.size)
  have bbW : Below g w W1 := bb.trans (bw.mono (hgp.out ▸ (hg ▸ bb.size)))
  go_wp2_with fail
  refine (within_any x2 0 1099511627776 _ (by omega) (by omega) (by omega)).mono ?_
  rintro e w' ⟨⟨m, hm1, hm2, rfl⟩, he⟩; obtain rfl := he.symm; clear he
  have c0 := p1.c0
  have c1 := p1.c1
  have c2 := p1.c2
  have c3 := p1.c3
  have c4 := p1.c4
  have c5 := p1.c5
  go_wp2_with fail
  refine (pright_is _ os n1 s1 a1 k1 f1 true _ rdW.out hr.out).mono ?_
  rintro e w2 ⟨rfl, b2⟩
  have p2 := p1.call b2
  have rd2 : Hid (RdO w2 (.slice ua L uc) os) := rdW.out.call b2
  have bw2 : Below gp w1 w2 := bw.trans (b2.mono (Nat.le_of_lt p1.lt))
  clear c0 c1 c2 c3 c4 c5 p1 rdW bbW bw
  have c0 := p2.c0
  have c1 := p2.c1
  have c2 := p2.c2
  have c3 := p2.c3
  have c4 := p2.c4
  have c5 := p2.c5
  go_wp2_with fail
  refine (enc_any _ ⟨os, n1, s1, a1, k1, f1⟩ _ rd2.out hf.out).mono ?_
  rintro e w3 ⟨ub, rfl, o3, b3⟩
  have p3 := p2.call b3
  have bw3 : Below gp w1 w3 := bw2.trans (b3.mono (Nat.le_of_lt p2.lt))
  have hE := enc_len hr.out
  obtain ⟨va, vc, rfl⟩ := own_some1 o3
  obtain ⟨E, hEe⟩ : ∃ E, Hid ((enc ⟨os, n1, s1, a1, k1, f1⟩).length = E) := ⟨_, rfl⟩
  rw [hEe.out] at hE ⊢
  have hE' : ((E : Int) == 0) = false := by simp; omega
  clear c0 c1 c2 c3 c4 c5 p2 rd2 bw2 b2 b3 o3
  go_wp2_with fail
  refine (within_any x1 0 10 _ (by omega) (by omega) (by omega)).mono ?_
  rintro e w' ⟨⟨q, hq1, hq2, rfl⟩, he⟩; obtain rfl := he.symm; clear he hE hE'
  have hfr0 := p3.free 0
  have hfr1 := p3.free 1
  have hfr2 := p3.free 2
  have hfr3 := p3.free 3
  have hfr4 := p3.free 4
  have hfr5 := p3.free 5
  have c0 := p3.c0
  have c1 := p3.c1
  have c2 := p3.c2
  have c3 := p3.c3
  have c4 := p3.c4
  have c5 := p3.c5
  have hgle : w1.heap.size ≤ gp := Nat.le_of_eq hgp.out
  obtain rfl | rfl | rfl | rfl | rfl | rfl | rfl | rfl | rfl | rfl | rfl : q = 0 ∨ q = 1 ∨ q = 2 ∨ q = 3 ∨ q = 4 ∨ q = 5 ∨ q = 6 ∨ q = 7 ∨ q = 8 ∨ q = 9 ∨ q = 10 := by omega
  · have hw : Hid (rightP ⟨os, s1 - (1 + m), s1, a1, k1, f1⟩ = false) := wrong_s (rightB_no (by omega))
    go_upto_region 32 with fail
    refine world_gen (fun W => Pik W gp (.slice ua L uc) (s1 - (1 + m)) (s1) (a1) (k1) (f1) ∧ Below gp w1 W) ⟨p3.set1 _, bw3.setCell (Nat.le_refl _) _⟩ ?_
    clear c0 c1 c2 c3 c4 c5 hfr0 hfr1 hfr2 hfr3 hfr4 hfr5 p3 bw3
    rintro W4 ⟨p4, bw4⟩
    have rd4 : Hid (RdO W4 (.slice ua L uc) os) := rd1.out.below bw4 hgle bw4.size
    have bb4 : Below g w W4 := bb.trans (bw4.mono (Nat.le_trans (hg ▸ bb.size) hgle))
    have c0 := p4.c0
    have c1 := p4.c1
    have c2 := p4.c2
    have c3 := p4.c3
    have c4 := p4.c4
    have c5 := p4.c5
    go_wp2_with fail
    refine (pright_is _ os _ _ _ _ _ false _ rd4.out hw.out).mono ?_
    rintro e w5 ⟨rfl, b5⟩
    have p5 := p4.call b5
    have rd5 := rd4.out.call b5
    have bb5 := bb4.trans (b5.mono (hg ▸ bb4.size))
    clear c0 c1 c2 c3 c4 c5 p4 rd4 b5 bb4
    have c0 := p5.c0
    have c1 := p5.c1
    have c2 := p5.c2
    have c3 := p5.c3
    have c4 := p5.c4
    have c5 := p5.c5
    go_wp2_with fail
    refine (enc_no _ os _ _ _ _ _ _ rd5 hw.out).mono ?_
    rintro e w6 ⟨rfl, b6⟩
    have bb6 := bb5.trans (b6.mono (hg ▸ bb5.size))
    clear c0 c1 c2 c3 c4 c5 p5 rd5 b6 bb5
    go_wp2_with fail
    refine (pipeRuns_walk w6).mono ?_
    rintro e w7 ⟨rfl, b7⟩
    go_wp2
    go_ret
    exact ⟨rfl, by rw [hg]; exact bb6.trans (b7.mono (hg ▸ bb6.size))⟩
  · have hw : Hid (rightP ⟨os, n1, 1 - (1 + m), a1, k1, f1⟩ = false) := wrong_s (rightB_no (by omega))
    go_upto_region 32 with fail
    refine world_gen (fun W => Pik W gp (.slice ua L uc) (n1) (1 - (1 + m)) (a1) (k1) (f1) ∧ Below gp w1 W) ⟨p3.set2 _, bw3.setCell (Nat.le_refl _) _⟩ ?_
    clear c0 c1 c2 c3 c4 c5 hfr0 hfr1 hfr2 hfr3 hfr4 hfr5 p3 bw3
    rintro W4 ⟨p4, bw4⟩
    have rd4 : Hid (RdO W4 (.slice ua L uc) os) := rd1.out.below bw4 hgle bw4.size
    have bb4 : Below g w W4 := bb.trans (bw4.mono (Nat.le_trans (hg ▸ bb.size) hgle))
    have c0 := p4.c0
    have c1 := p4.c1
    have c2 := p4.c2
    have c3 := p4.c3
    have c4 := p4.c4
    have c5 := p4.c5
    go_wp2_with fail
    refine (pright_is _ os _ _ _ _ _ false _ rd4.out hw.out).mono ?_
    rintro e w5 ⟨rfl, b5⟩
    have p5 := p4.call b5
    have rd5 := rd4.out.call b5
    have bb5 := bb4.trans (b5.mono (hg ▸ bb4.size))
    clear c0 c1 c2 c3 c4 c5 p4 rd4 b5 bb4
    have c0 := p5.c0
    have c1 := p5.c1
    have c2 := p5.c2
    have c3 := p5.c3
    have c4 := p5.c4
    have c5 := p5.c5
    go_wp2_with fail
    refine (enc_no _ os _ _ _ _ _ _ rd5 hw.out).mono ?_
    rintro e w6 ⟨rfl, b6⟩
    have bb6 := bb5.trans (b6.mono (hg ▸ bb5.size))
    clear c0 c1 c2 c3 c4 c5 p5 rd5 b6 bb5
    go_wp2_with fail
    refine (pipeRuns_walk w6).mono ?_
    rintro e w7 ⟨rfl, b7⟩
    go_wp2
    go_ret
    exact ⟨rfl, by rw [hg]; exact bb6.trans (b7.mono (hg ▸ bb6.size))⟩
  · have hw : Hid (rightP ⟨os, 1048576 + (1 + m), s1, a1, k1, f1⟩ = false) := wrong_s (rightB_no (by omega))
    go_upto_region 32 with fail
    refine world_gen (fun W => Pik W gp (.slice ua L uc) (1048576 + (1 + m)) (s1) (a1) (k1) (f1) ∧ Below gp w1 W) ⟨p3.set1 _, bw3.setCell (Nat.le_refl _) _⟩ ?_
    clear c0 c1 c2 c3 c4 c5 hfr0 hfr1 hfr2 hfr3 hfr4 hfr5 p3 bw3
    rintro W4 ⟨p4, bw4⟩
    have rd4 : Hid (RdO W4 (.slice ua L uc) os) := rd1.out.below bw4 hgle bw4.size
    have bb4 : Below g w W4 := bb.trans (bw4.mono (Nat.le_trans (hg ▸ bb.size) hgle))
    have c0 := p4.c0
    have c1 := p4.c1
    have c2 := p4.c2
    have c3 := p4.c3
    have c4 := p4.c4
    have c5 := p4.c5
    go_wp2_with fail
    refine (pright_is _ os _ _ _ _ _ false _ rd4.out hw.out).mono ?_
    rintro e w5 ⟨rfl, b5⟩
    have p5 := p4.call b5
    have rd5 := rd4.out.call b5
    have bb5 := bb4.trans (b5.mono (hg ▸ bb4.size))
    clear c0 c1 c2 c3 c4 c5 p4 rd4 b5 bb4
    have c0 := p5.c0
    have c1 := p5.c1
    have c2 := p5.c2
    have c3 := p5.c3
    have c4 := p5.c4
    have c5 := p5.c5
    go_wp2_with fail
    refine (enc_no _ os _ _ _ _ _ _ rd5 hw.out).mono ?_
    rintro e w6 ⟨rfl, b6⟩
    have bb6 := bb5.trans (b6.mono (hg ▸ bb5.size))
    clear c0 c1 c2 c3 c4 c5 p5 rd5 b6 bb5
    go_wp2_with fail
    refine (pipeRuns_walk w6).mono ?_
    rintro e w7 ⟨rfl, b7⟩
    go_wp2
    go_ret
    exact ⟨rfl, by rw [hg]; exact bb6.trans (b7.mono (hg ▸ bb6.size))⟩
  · have hw : Hid (rightP ⟨os, n1, s1, 1 - (1 + m), k1, f1⟩ = false) := wrong_a (by omega)
    go_upto_region 32 with fail
    refine world_gen (fun W => Pik W gp (.slice ua L uc) (n1) (s1) (1 - (1 + m)) (k1) (f1) ∧ Below gp w1 W) ⟨p3.set3 _, bw3.setCell (Nat.le_refl _) _⟩ ?_
    clear c0 c1 c2 c3 c4 c5 hfr0 hfr1 hfr2 hfr3 hfr4 hfr5 p3 bw3
    rintro W4 ⟨p4, bw4⟩
    have rd4 : Hid (RdO W4 (.slice ua L uc) os) := rd1.out.below bw4 hgle bw4.size
    have bb4 : Below g w W4 := bb.trans (bw4.mono (Nat.le_trans (hg ▸ bb.size) hgle))
    have c0 := p4.c0
    have c1 := p4.c1
    have c2 := p4.c2
    have c3 := p4.c3
    have c4 := p4.c4
    have c5 := p4.c5
    go_wp2_with fail
    refine (pright_is _ os _ _ _ _ _ false _ rd4.out hw.out).mono ?_
    rintro e w5 ⟨rfl, b5⟩
    have p5 := p4.call b5
    have rd5 := rd4.out.call b5
    have bb5 := bb4.trans (b5.mono (hg ▸ bb4.size))
    clear c0 c1 c2 c3 c4 c5 p4 rd4 b5 bb4
    have c0 := p5.c0
    have c1 := p5.c1
    have c2 := p5.c2
    have c3 := p5.c3
    have c4 := p5.c4
    have c5 := p5.c5
    go_wp2_with fail
    refine (enc_no _ os _ _ _ _ _ _ rd5 hw.out).mono ?_
    rintro e w6 ⟨rfl, b6⟩
    have bb6 := bb5.trans (b6.mono (hg ▸ bb5.size))
    clear c0 c1 c2 c3 c4 c5 p5 rd5 b6 bb5
    go_wp2_with fail
    refine (pipeRuns_walk w6).mono ?_
    rintro e w7 ⟨rfl, b7⟩
    go_wp2
    go_ret
    exact ⟨rfl, by rw [hg]; exact bb6.trans (b7.mono (hg ▸ bb6.size))⟩
  · have hw : Hid (rightP ⟨os, n1, s1, 4 + (1 + m), k1, f1⟩ = false) := wrong_a (by omega)
    go_upto_region 32 with fail
    refine world_gen (fun W => Pik W gp (.slice ua L uc) (n1) (s1) (4 + (1 + m)) (k1) (f1) ∧ Below gp w1 W) ⟨p3.set3 _, bw3.setCell (Nat.le_refl _) _⟩ ?_
    clear c0 c1 c2 c3 c4 c5 hfr0 hfr1 hfr2 hfr3 hfr4 hfr5 p3 bw3
    rintro W4 ⟨p4, bw4⟩
    have rd4 : Hid (RdO W4 (.slice ua L uc) os) := rd1.out.below bw4 hgle bw4.size
    have bb4 : Below g w W4 := bb.trans (bw4.mono (Nat.le_trans (hg ▸ bb.size) hgle))
    have c0 := p4.c0
    have c1 := p4.c1
    have c2 := p4.c2
    have c3 := p4.c3
    have c4 := p4.c4
    have c5 := p4.c5
    go_wp2_with fail
    refine (pright_is _ os _ _ _ _ _ false _ rd4.out hw.out).mono ?_
    rintro e w5 ⟨rfl, b5⟩
    have p5 := p4.call b5
    have rd5 := rd4.out.call b5
    have bb5 := bb4.trans (b5.mono (hg ▸ bb4.size))
    clear c0 c1 c2 c3 c4 c5 p4 rd4 b5 bb4
    have c0 := p5.c0
    have c1 := p5.c1
    have c2 := p5.c2
    have c3 := p5.c3
    have c4 := p5.c4
    have c5 := p5.c5
    go_wp2_with fail
    refine (enc_no _ os _ _ _ _ _ _ rd5 hw.out).mono ?_
    rintro e w6 ⟨rfl, b6⟩
    have bb6 := bb5.trans (b6.mono (hg ▸ bb5.size))
    clear c0 c1 c2 c3 c4 c5 p5 rd5 b6 bb5
    go_wp2_with fail
    refine (pipeRuns_walk w6).mono ?_
    rintro e w7 ⟨rfl, b7⟩
    go_wp2
    go_ret
    exact ⟨rfl, by rw [hg]; exact bb6.trans (b7.mono (hg ▸ bb6.size))⟩
  · have hw : Hid (rightP ⟨os, n1, s1, a1, -1 - (1 + m), f1⟩ = false) := wrong_k (by omega)
    go_upto_region 32 with fail
    refine world_gen (fun W => Pik W gp (.slice ua L uc) (n1) (s1) (a1) (-1 - (1 + m)) (f1) ∧ Below gp w1 W) ⟨p3.set4 _, bw3.setCell (Nat.le_refl _) _⟩ ?_
    clear c0 c1 c2 c3 c4 c5 hfr0 hfr1 hfr2 hfr3 hfr4 hfr5 p3 bw3
    rintro W4 ⟨p4, bw4⟩
    have rd4 : Hid (RdO W4 (.slice ua L uc) os) := rd1.out.below bw4 hgle bw4.size
    have bb4 : Below g w W4 := bb.trans (bw4.mono (Nat.le_trans (hg ▸ bb.size) hgle))
    have c0 := p4.c0
    have c1 := p4.c1
    have c2 := p4.c2
    have c3 := p4.c3
    have c4 := p4.c4
    have c5 := p4.c5
    go_wp2_with fail
    refine (pright_is _ os _ _ _ _ _ false _ rd4.out hw.out).mono ?_
    rintro e w5 ⟨rfl, b5⟩
    have p5 := p4.call b5
    have rd5 := rd4.out.call b5
    have bb5 := bb4.trans (b5.mono (hg ▸ bb4.size))
    clear c0 c1 c2 c3 c4 c5 p4 rd4 b5 bb4
    have c0 := p5.c0
    have c1 := p5.c1
    have c2 := p5.c2
    have c3 := p5.c3
    have c4 := p5.c4
    have c5 := p5.c5
    go_wp2_with fail
    refine (enc_no _ os _ _ _ _ _ _ rd5 hw.out).mono ?_
    rintro e w6 ⟨rfl, b6⟩
    have bb6 := bb5.trans (b6.mono (hg ▸ bb5.size))
    clear c0 c1 c2 c3 c4 c5 p5 rd5 b6 bb5
    go_wp2_with fail
    refine (pipeRuns_walk w6).mono ?_
    rintro e w7 ⟨rfl, b7⟩
    go_wp2
    go_ret
    exact ⟨rfl, by rw [hg]; exact bb6.trans (b7.mono (hg ▸ bb6.size))⟩
  · have hw : Hid (rightP ⟨os, n1, s1, a1, 3 + (1 + m), f1⟩ = false) := wrong_k (by omega)
    go_upto_region 32 with fail
    refine world_gen (fun W => Pik W gp (.slice ua L uc) (n1) (s1) (a1) (3 + (1 + m)) (f1) ∧ Below gp w1 W) ⟨p3.set4 _, bw3.setCell (Nat.le_refl _) _⟩ ?_
    clear c0 c1 c2 c3 c4 c5 hfr0 hfr1 hfr2 hfr3 hfr4 hfr5 p3 bw3
    rintro W4 ⟨p4, bw4⟩
    have rd4 : Hid (RdO W4 (.slice ua L uc) os) := rd1.out.below bw4 hgle bw4.size
    have bb4 : Below g w W4 := bb.trans (bw4.mono (Nat.le_trans (hg ▸ bb.size) hgle))
    have c0 := p4.c0
    have c1 := p4.c1
    have c2 := p4.c2
    have c3 := p4.c3
    have c4 := p4.c4
    have c5 := p4.c5
    go_wp2_with fail
    refine (pright_is _ os _ _ _ _ _ false _ rd4.out hw.out).mono ?_
    rintro e w5 ⟨rfl, b5⟩
    have p5 := p4.call b5
    have rd5 := rd4.out.call b5
    have bb5 := bb4.trans (b5.mono (hg ▸ bb4.size))
    clear c0 c1 c2 c3 c4 c5 p4 rd4 b5 bb4
    have c0 := p5.c0
    have c1 := p5.c1
    have c2 := p5.c2
    have c3 := p5.c3
    have c4 := p5.c4
    have c5 := p5.c5
    go_wp2_with fail
    refine (enc_no _ os _ _ _ _ _ _ rd5 hw.out).mono ?_
    rintro e w6 ⟨rfl, b6⟩
    have bb6 := bb5.trans (b6.mono (hg ▸ bb5.size))
    clear c0 c1 c2 c3 c4 c5 p5 rd5 b6 bb5
    go_wp2_with fail
    refine (pipeRuns_walk w6).mono ?_
    rintro e w7 ⟨rfl, b7⟩
    go_wp2
    go_ret
    exact ⟨rfl, by rw [hg]; exact bb6.trans (b7.mono (hg ▸ bb6.size))⟩
  · have hw : Hid (rightP ⟨os, n1, s1, a1, k1, 3 + (1 + m)⟩ = false) := wrong_f (by omega)
    go_upto_region 32 with fail
    refine world_gen (fun W => Pik W gp (.slice ua L uc) (n1) (s1) (a1) (k1) (3 + (1 + m)) ∧ Below gp w1 W) ⟨p3.set5 _, bw3.setCell (Nat.le_refl _) _⟩ ?_
    clear c0 c1 c2 c3 c4 c5 hfr0 hfr1 hfr2 hfr3 hfr4 hfr5 p3 bw3
    rintro W4 ⟨p4, bw4⟩
    have rd4 : Hid (RdO W4 (.slice ua L uc) os) := rd1.out.below bw4 hgle bw4.size
    have bb4 : Below g w W4 := bb.trans (bw4.mono (Nat.le_trans (hg ▸ bb.size) hgle))
    have c0 := p4.c0
    have c1 := p4.c1
    have c2 := p4.c2
    have c3 := p4.c3
    have c4 := p4.c4
    have c5 := p4.c5
    go_wp2_with fail
    refine (pright_is _ os _ _ _ _ _ false _ rd4.out hw.out).mono ?_
    rintro e w5 ⟨rfl, b5⟩
    have p5 := p4.call b5
    have rd5 := rd4.out.call b5
    have bb5 := bb4.trans (b5.mono (hg ▸ bb4.size))
    clear c0 c1 c2 c3 c4 c5 p4 rd4 b5 bb4
    have c0 := p5.c0
    have c1 := p5.c1
    have c2 := p5.c2
    have c3 := p5.c3
    have c4 := p5.c4
    have c5 := p5.c5
    go_wp2_with fail
    refine (enc_no _ os _ _ _ _ _ _ rd5 hw.out).mono ?_
    rintro e w6 ⟨rfl, b6⟩
    have bb6 := bb5.trans (b6.mono (hg ▸ bb5.size))
    clear c0 c1 c2 c3 c4 c5 p5 rd5 b6 bb5
    go_wp2_with fail
    refine (pipeRuns_walk w6).mono ?_
    rintro e w7 ⟨rfl, b7⟩
    go_wp2
    go_ret
    exact ⟨rfl, by rw [hg]; exact bb6.trans (b7.mono (hg ▸ bb6.size))⟩
  · have hw : Hid (rightP ⟨os, n1, s1, a1, k1, -1 - (1 + m)⟩ = false) := wrong_f (by omega)
    go_upto_region 32 with fail
    refine world_gen (fun W => Pik W gp (.slice ua L uc) (n1) (s1) (a1) (k1) (-1 - (1 + m)) ∧ Below gp w1 W) ⟨p3.set5 _, bw3.setCell (Nat.le_refl _) _⟩ ?_
    clear c0 c1 c2 c3 c4 c5 hfr0 hfr1 hfr2 hfr3 hfr4 hfr5 p3 bw3
    rintro W4 ⟨p4, bw4⟩
    have rd4 : Hid (RdO W4 (.slice ua L uc) os) := rd1.out.below bw4 hgle bw4.size
    have bb4 : Below g w W4 := bb.trans (bw4.mono (Nat.le_trans (hg ▸ bb.size) hgle))
    have c0 := p4.c0
    have c1 := p4.c1
    have c2 := p4.c2
    have c3 := p4.c3
    have c4 := p4.c4
    have c5 := p4.c5
    go_wp2_with fail
    refine (pright_is _ os _ _ _ _ _ false _ rd4.out hw.out).mono ?_
    rintro e w5 ⟨rfl, b5⟩
    have p5 := p4.call b5
    have rd5 := rd4.out.call b5
    have bb5 := bb4.trans (b5.mono (hg ▸ bb4.size))
    clear c0 c1 c2 c3 c4 c5 p4 rd4 b5 bb4
    have c0 := p5.c0
    have c1 := p5.c1
    have c2 := p5.c2
    have c3 := p5.c3
    have c4 := p5.c4
    have c5 := p5.c5
    go_wp2_with fail
    refine (enc_no _ os _ _ _ _ _ _ rd5 hw.out).mono ?_
    rintro e w6 ⟨rfl, b6⟩
    have bb6 := bb5.trans (b6.mono (hg ▸ bb5.size))
    clear c0 c1 c2 c3 c4 c5 p5 rd5 b6 bb5
    go_wp2_with fail
    refine (pipeRuns_walk w6).mono ?_
    rintro e w7 ⟨rfl, b7⟩
    go_wp2
    go_ret
    exact ⟨rfl, by rw [hg]; exact bb6.trans (b7.mono (hg ▸ bb6.size))⟩
  · have hw : Hid (rightP ⟨[⟨3, 1 - (1 + m)⟩], n1, s1, a1, k1, f1⟩ = false) := wrong_o (by simp [rightL, rightO]; omega)
    have hne : w3.heap.size ≠ gp := by have := p3.lt; omega
    have hne' : ¬ gp = w3.heap.size := Ne.symm hne
    have cc := (p3.alloc (.cells #[.int .i64 3, .int .i64 (1 - (1 + m))] 23)).c0
    have ff := (p3.alloc (.cells #[.int .i64 3, .int .i64 (1 - (1 + m))] 23)).free 0
    go_upto_region 32 with fail
    refine world_gen (fun W => Pik W gp (.slice (some ⟨w3.heap.size, 0, none⟩) 1 1) n1 s1 a1 k1 f1 ∧ Hid (RdO W (.slice (some ⟨w3.heap.size, 0, none⟩) 1 1) [⟨3, 1 - (1 + m)⟩]) ∧ Below gp w1 W) ⟨(p3.alloc _).set0 _, (rdo_1 w3 3 (1 - (1 + m)) (by omega)).block (Below.heap_setCell _ _ _ _ hne) (by simp [World.setCell]), (bw3.alloc (Nat.le_of_lt p3.lt) _).setCell (Nat.le_refl _) _⟩ ?_
    clear c0 c1 c2 c3 c4 c5 hfr0 hfr1 hfr2 hfr3 hfr4 hfr5 p3 bw3 hne hne' cc ff
    rintro W4 ⟨p4, rd4, bw4⟩
    generalize w3.heap.size = gn at p4 rd4 ⊢
    have bb4 : Below g w W4 := bb.trans (bw4.mono (Nat.le_trans (hg ▸ bb.size) hgle))
    have c0 := p4.c0
    have c1 := p4.c1
    have c2 := p4.c2
    have c3 := p4.c3
    have c4 := p4.c4
    have c5 := p4.c5
    go_wp2_with fail
    refine (pright_is _ [⟨3, 1 - (1 + m)⟩] _ _ _ _ _ false _ rd4.out hw.out).mono ?_
    rintro e w5 ⟨rfl, b5⟩
    have p5 := p4.call b5
    have rd5 := rd4.out.call b5
    have bb5 := bb4.trans (b5.mono (hg ▸ bb4.size))
    clear c0 c1 c2 c3 c4 c5 p4 rd4 b5 bb4
    have c0 := p5.c0
    have c1 := p5.c1
    have c2 := p5.c2
    have c3 := p5.c3
    have c4 := p5.c4
    have c5 := p5.c5
    go_wp2_with fail
    refine (enc_no _ [⟨3, 1 - (1 + m)⟩] _ _ _ _ _ _ rd5 hw.out).mono ?_
    rintro e w6 ⟨rfl, b6⟩
    have bb6 := bb5.trans (b6.mono (hg ▸ bb5.size))
    clear c0 c1 c2 c3 c4 c5 p5 rd5 b6 bb5
    go_wp2_with fail
    refine (pipeRuns_walk w6).mono ?_
    rintro e w7 ⟨rfl, b7⟩
    go_wp2
    go_ret
    exact ⟨rfl, by rw [hg]; exact bb6.trans (b7.mono (hg ▸ bb6.size))⟩
  · have hne : w3.heap.size ≠ gp := by have := p3.lt; omega
    go_upto_region 7 with (at_make; refine wpList_make_full _ rfl _ _ 24 rfl w3.heap.size 23 i0 (.agg #[.int .i64 0, .int .i64 0]) 2 Try.underlying24 hi hz0 hz1 _ _ _ _ 7 rfl rfl (by omega) (by omega) (by rw [hz2]; omega) (by unfold maxLen; omega) (Nat.le_refl _) ?_; intro w0 hown0 hgrow0; have hb0 : Below w3.heap.size w3 w0 := (Below.refl _ _).grown hgrow0 (Nat.le_refl _) (fun k hk => by cases hk); have p4 := p3.call hb0; have cc0 := p4.c0; have ff0 := p4.free 0)
    replace hown0 : w0.ownsRow w3.heap.size 23 2 (.slice (some ⟨w3.heap.size, 0, none⟩) 7 7) 7 (opl (List.replicate 7 ⟨0, 0⟩)) := by
      rw [opl_nought]
      have h := hown0
      rw [show (madeCells (Value.agg #[Value.int .i64 0, Value.int .i64 0]).cells (7 * 2)).toList = List.replicate (7 * 2) (Value.int .i64 0) from made_nought _] at h
      exact h
    refine world_gen (fun W => Pik W gp (.slice (some ⟨w3.heap.size, 0, none⟩) 7 7) n1 s1 a1 k1 f1 ∧ W.ownsRow w3.heap.size 23 2 (.slice (some ⟨w3.heap.size, 0, none⟩) 7 7) 7 (opl (List.replicate 7 ⟨0, 0⟩)) ∧ Below gp w1 W) ⟨p4.set0 _, own_heap hown0 (fun k hk => Below.heap_setCell _ _ _ _ (show k ≠ gp by have := p3.lt; omega)), (bw3.trans (hb0.mono (Nat.le_of_lt p3.lt))).setCell (Nat.le_refl _) _⟩ ?_
    have hlt3 := p3.lt
    clear c0 c1 c2 c3 c4 c5 hfr0 hfr1 hfr2 hfr3 hfr4 hfr5 p3 bw3 p4 cc0 ff0 hb0 hgrow0 hown0
    rintro W4 ⟨p4, o4, bw4⟩
    generalize w3.heap.size = gn at p4 o4 hne hlt3 ⊢
    have c0 := p4.c0
    go_wp2_with fail
    go_loopw [31] (fun i wr => ∃ (j : Nat) (os' : List Oq), j ≤ 7 ∧ i = .int .i64 j ∧ Hid (os'.length = 7) ∧ Hid (OFits os') ∧ Pik wr gp (.slice (some ⟨gn, 0, none⟩) 7 7) n1 s1 a1 k1 f1 ∧ wr.ownsRow gn 23 2 (.slice (some ⟨gn, 0, none⟩) 7 7) 7 (opl os') ∧ Below gp w1 wr) (fun i _ => 7 - (intOf i).toNat)
    case atStart =>
      refine ⟨0, List.replicate 7 ⟨0, 0⟩, by decide, rfl, rfl, ?_, p4, o4, bw4⟩
      intro o ho
      rw [List.eq_of_mem_replicate ho]
      exact ⟨⟨by decide, by decide⟩, ⟨by decide, by decide⟩⟩
    case round =>
      clear p4 o4 bw4 c0
      obtain ⟨j, os', hj, rfl, hlen, hfit, p4, o4, bw4⟩ := hrel
      by_cases hlt : j < 7
      · have hl14 : (opl os').length = 14 := by rw [opl_len, hlen.out]
        obtain ⟨c, hc⟩ : ∃ c, wr.cell? ⟨gn, j * 2, none⟩ = some c := by
          have := o4.cellAt (j * 2) (by omega)
          rw [this]
          exact ⟨_, List.getElem?_eq_getElem (by omega)⟩
        obtain ⟨c', hc1⟩ : ∃ c, wr.cell? ⟨gn, j * 2 + 1, none⟩ = some c := by
          have := o4.cellAt (j * 2 + 1) (by omega)
          rw [this]
          exact ⟨_, List.getElem?_eq_getElem (by omega)⟩
        have hf0 := o4.frozenAt (j * 2)
        have hf9 := o4.frozenAt (j * 2 + 1)
        have hst := (o4.stored (j * 2) (.int .i64 1)).1.stored (j * 2 + 1) (.int .i64 0)
        have hset := opl_set os' j 1 0 (by have := hlen.out; omega)
        rw [hset] at hst
        have hst' : Hid (((wr.setCell ⟨gn, j * 2, none⟩ (.int .i64 1)).setCell ⟨gn, j * 2 + 1, none⟩ (.int .i64 0)).ownsRow gn 23 2 (.slice (some ⟨gn, 0, none⟩) 7 7) 7 (opl (os'.set j ⟨1, 0⟩))) := hst.1
        have p5 : Pik ((wr.setCell ⟨gn, j * 2, none⟩ (.int .i64 1)).setCell ⟨gn, j * 2 + 1, none⟩ (.int .i64 0)) gp (.slice (some ⟨gn, 0, none⟩) 7 7) n1 s1 a1 k1 f1 := p4.heap ((Below.heap_setCell _ _ _ _ (Ne.symm hne)).trans (Below.heap_setCell _ _ _ _ (Ne.symm hne)))
        have bw5 : Below gp w1 ((wr.setCell ⟨gn, j * 2, none⟩ (.int .i64 1)).setCell ⟨gn, j * 2 + 1, none⟩ (.int .i64 0)) := (bw4.setCell (Nat.le_of_lt hlt3) _).setCell (Nat.le_of_lt hlt3) _
        clear hst hset hl14 o4 bw4
        have d0 := p4.c0
        go_wp2
        go_roundw
        case rel =>
          refine ⟨j + 1, os'.set j ⟨1, 0⟩, by omega, by go_num, ?_, ?_, p5, hst'.out, bw5⟩
          · show (os'.set j ⟨1, 0⟩).length = 7
            rw [List.length_set]; exact hlen.out
          · intro o ho
            rcases List.mem_or_eq_of_mem_set ho with h | h
            · exact hfit.out o h
            · rw [h]; exact ⟨⟨by decide, by decide⟩, ⟨by decide, by decide⟩⟩
        case measure => simp [intOf]; omega
      · obtain rfl : j = 7 := by omega
        have hw : Hid (rightP ⟨os', n1, s1, a1, k1, f1⟩ = false) := wrong_o (by rw [rightL, hlen.out]; rfl)
        have rd4 : Hid (RdO wr (.slice (some ⟨gn, 0, none⟩) 7 7) os') := rd_opl o4 hlen.out hfit.out
        have bb4 : Below g w wr := bb.trans (bw4.mono (Nat.le_trans (hg ▸ bb.size) hgle))
        clear o4 bw4
        have c0 := p4.c0
        have c1 := p4.c1
        have c2 := p4.c2
        have c3 := p4.c3
        have c4 := p4.c4
        have c5 := p4.c5
        go_wp2_with fail
        refine (pright_is _ os' _ _ _ _ _ false _ rd4.out hw.out).mono ?_
        rintro e w5 ⟨rfl, b5⟩
        have p5 := p4.call b5
        have rd5 := rd4.out.call b5
        have bb5 := bb4.trans (b5.mono (hg ▸ bb4.size))
        clear c0 c1 c2 c3 c4 c5 p4 rd4 b5 bb4
        have c0 := p5.c0
        have c1 := p5.c1
        have c2 := p5.c2
        have c3 := p5.c3
        have c4 := p5.c4
        have c5 := p5.c5
        go_wp2_with fail
        refine (enc_no _ os' _ _ _ _ _ _ rd5 hw.out).mono ?_
        rintro e w6 ⟨rfl, b6⟩
        have bb6 := bb5.trans (b6.mono (hg ▸ bb5.size))
        clear c0 c1 c2 c3 c4 c5 p5 rd5 b6 bb5
        go_wp2_with fail
        refine (pipeRuns_walk w6).mono ?_
        rintro e w7 ⟨rfl, b7⟩
        go_wp2
        go_ret
        exact ⟨rfl, by rw [hg]; exact bb6.trans (b7.mono (hg ▸ bb6.size))⟩
theorem pipeEdges_walk (a0 : KeepIn) (a1 a2 : Int) (w : World) (w0 : IsKeep w a0) (_ : (Lit.int .i64 a1).wf = true) (_ : (Lit.int .i64 a2).wf = true) :
    Calls Try.prog 6 #[kin a0, .int .i64 a1, .int .i64 a2] w fun e w' => e = .returned (.bool true) ∧ Below w.heap.size w w' :=
  edges_core a0.ao a0.lo a0.co a0.an a0.ln a0.cn a0.n a0.s a0.g a0.k a0.f a1 a2 w w0.1 w0.2
end Go.Proofs.Ytimeglhoiibhdaa
