/- RunnerTakes, walked. -/
import Derived.Test.YtombgbdplafooaaTakesKit
import Derived.Test.YtombgbdplafooaaRTwin
import Derived.Deep.QuietTactic
import Derived.Deep.CutBlock
import Derived.BigQuiet
namespace Go.Proofs.Ytombgbdplafooaa
open Go.RowKit M
open O (RdO Kpk Pik Small Ints)
open O.MO (Oq Pq rightP)
set_option linter.unusedVariables false
set_option linter.unusedSimpArgs false
attribute [local go_sem ↓] Go.wp_at_zero Go.wp_at_succ

set_option maxHeartbeats 8000000 in
set_option maxRecDepth 100000 in
theorem runnerTakes_walk (k : KeepIn) (la : Option Addr) (ll lc : Nat) (ra : Option Addr) (rl rc : Nat) (tw : Int) (w : World) (hk : IsKeep w k) (hI : Ins4 w la ll lc) (hR : Raw5 w ra rl rc) (htw : (Lit.int .i64 tw).wf = true) :
    Calls Try.prog 4 #[kin k, .slice la ll lc, .slice ra rl rc, .int .i64 tw] w fun e w' => e = .returned (.bool true) ∧ Below w.heap.size w w' := by
  obtain ⟨ao, lo, co, an, ln, cn, kn, ks, kg, kk, kf⟩ := k
  unfold kin
  obtain ⟨hk1, hk2⟩ := hk
  simp only at hk1 hk2
  have hI' : Hid (Ins4 w la ll lc) := hI
  clear hI
  have hR' : Hid (Raw5 w ra rl rc) := hR
  clear hR
  go_enter Try.func4, Try.ntmps4
  go_upto_region 1 with fail
  refine world_gen (fun W => Hid (Kpk W w.heap.size (.slice ao lo co) (.slice an ln cn) kn ks kg kk kf) ∧ Hid (Ints W ao lo co) ∧ Hid (Ints W an ln cn) ∧ Hid (Below w.heap.size w W)) ⟨O.kpk_new _ _ _ _ _ _ _ _, hk1.call (below_alloc _ _), hk2.call (below_alloc _ _), below_alloc _ _⟩ ?_
  clear hk1 hk2
  rintro W ⟨hK, hk1, hk2, hB⟩
  obtain ⟨g0, hg0⟩ : ∃ x, Hid (w.heap.size = x) := ⟨_, rfl⟩
  rw [hg0.out] at hK hB ⊢
  have c0 := hK.out.c0
  have c1 := hK.out.c1
  have c2 := hK.out.c2
  have c3 := hK.out.c3
  have c4 := hK.out.c4
  have c5 := hK.out.c5
  have c6 := hK.out.c6
  go_wp2_with fail
  refine (O.keep_any ao lo co an ln cn kn ks kg kk kf _ hk1.out hk2.out).mono ?_
  rintro e W1 ⟨⟨os, pn, ps, pa, pk, pf⟩, u, hS, he, ho, hu, b1⟩
  simp only at he ho
  subst he
  obtain ⟨ua, uc, rfl⟩ := own_len ho
  have hS' : Hid (Small ⟨os, pn, ps, pa, pk, pf⟩) := hS
  have hO : Hid (OpsIn W1 (.slice ua os.length uc) os) := ⟨O.own_base ho (Nat.zero_le _), (small_new hS).2.2.1⟩
  have hWz : g0 ≤ W.heap.size := by have := hB.out.size; have := hg0.out; omega
  replace hB : Hid (Below g0 w W1) := hB.out.trans (b1.mono hWz)
  clear hK hk1 hk2 c0 c1 c2 c3 c4 c5 c6 ho hu b1 hS
  go_upto_region 2 with fail
  refine world_gen (fun X => Hid (Pik X W1.heap.size (.slice ua os.length uc) pn ps pa pk pf) ∧ Hid (OpsIn X (.slice ua os.length uc) os) ∧ Hid (Below g0 w X) ∧ W1.heap.size < X.heap.size) ⟨O.pik_new _ _ _ _ _ _ _, hO.out.below (below_alloc _ _), hB.out.alloc (by have := hB.out.size; have := hg0.out; omega) _, by simp⟩ ?_
  have hgw : g0 ≤ W1.heap.size := by have := hB.out.size; have := hg0.out; omega
  clear hO hB
  generalize W1.heap.size = gp at hgw ⊢
  rintro W0 ⟨hP, hO, hB, hgp⟩
  go_cut [10, 11] (fun rv dv wx => ∃ b q o g gr : Nat, rv = .pointer (some ⟨b, 0, none⟩) ∧ dv = .pointer (some ⟨gr, 0, none⟩) ∧ Hid (Rnr wx b q o g ⟨os, pn, ps, pa, pk, pf⟩ r0) ∧ Hid (Wk wx gr (.slice ua os.length uc) pn ps pa pk pf 0 0 0 (.slice none 0 0)) ∧ Hid (Below W0.heap.size W0 wx) ∧ (W0.heap.size ≤ b ∧ W0.heap.size ≤ q ∧ W0.heap.size ≤ o ∧ W0.heap.size ≤ g ∧ W0.heap.size ≤ gr) ∧ (gr ≠ b ∧ gr ≠ q ∧ gr ≠ o ∧ gr ≠ g))
  case first =>
    have hH0 : Below W0.heap.size W0 W0.drew := (Below.refl _ _).drew
    refine wp_region_held_drew (S := fun X => Below W0.heap.size W0 X) (by kernel_rfl) hH0 (fun hHeld => ?_)
    generalize W0.drew = V at hH0 hHeld ⊢
    clear hH0
    refine take_at (i := 0) (v := O.pv (.slice ua os.length uc) pn ps pa pk pf) rfl rfl (by kernel_rfl) (by kernel_rfl) (by kernel_rfl) (fun _ _ _ h => h) (Or.inl ⟨by rfl, fun X hX => by have h := (hP.out).call hX; have c0 := h.c0; have c1 := h.c1; have c2 := h.c2; have c3 := h.c3; have c4 := h.c4; have c5 := h.c5; go_simp⟩) hHeld ?_
    try simp only [Act.put, List.setIfInBounds_toArray, List.set_cons_zero, List.set_cons_succ]
    refine take_at (i := 2) (v := O.pv (.slice ua os.length uc) pn ps pa pk pf) rfl rfl (by kernel_rfl) (by kernel_rfl) (by kernel_rfl) (fun _ _ _ h => h) (Or.inl ⟨by rfl, fun X hX => by have h := (hP.out).call hX; have c0 := h.c0; have c1 := h.c1; have c2 := h.c2; have c3 := h.c3; have c4 := h.c4; have c5 := h.c5; go_simp⟩) hHeld ?_
    try simp only [Act.put, List.setIfInBounds_toArray, List.set_cons_zero, List.set_cons_succ]
    refine wpAnyH_ready (rs := [1, 4]) (by kernel_rfl) (by simp) ?_
    refine AllReadyH.cons rfl (fun K hK => ?_) (AllReadyH.cons rfl (fun K hK => ?_) AllReadyH.nil)
    · rw [if_pos (by rfl)]
      go_wp2_with fail
      refine (new_is (.slice ua os.length uc) ⟨os, pn, ps, pa, pk, pf⟩ _ (hO.out.below hHeld) (small_new hS'.out).1 (small_new hS'.out).2.1).mono ?_
      rintro e W20 ⟨b, q, o, g, rfl, hRn0, zb, zq, zo, zg, b20⟩
      have hzX := hHeld.size
      have hRn : Hid (Rnr W20 b q o g ⟨os, pn, ps, pa, pk, pf⟩ r0) := hRn0
      clear hRn0
      have hbs : W0.heap.size ≤ b ∧ W0.heap.size ≤ q ∧ W0.heap.size ≤ o ∧ W0.heap.size ≤ g := by omega
      clear zb zq zo zg hzX
      have hHn := below_call hHeld b20
      clear hHeld b20
      go_wp2_with fail
      refine hK.out _ _ (hHn) (fun hHeld => ?_)
      clear hK K hHn
      try simp only [Act.put, List.setIfInBounds_toArray, List.set_cons_zero, List.set_cons_succ]
      refine wpAnyH_ready (rs := [3, 4]) (by kernel_rfl) (by simp) ?_
      refine AllReadyH.cons rfl (fun K hK => ?_) (AllReadyH.cons rfl (fun K hK => ?_) AllReadyH.nil)
      · rw [if_pos (by rfl)]
        go_wp2_with fail
        refine (wnew_is (.slice ua os.length uc) os pn ps pa pk pf _ (hO.out.below hHeld)).mono ?_
        rintro e W21 ⟨rfl, b21⟩
        replace hRn : Hid (Rnr W21 b q o g ⟨os, pn, ps, pa, pk, pf⟩ r0) := hRn.out.below b21
        have hHn := below_call hHeld b21
        clear hHeld b21
        go_wp2_with fail
        refine hK.out _ _ (hHn) (fun hHeld => ?_)
        clear hK K hHn
        try simp only [Act.put, List.setIfInBounds_toArray, List.set_cons_zero, List.set_cons_succ]
        refine wpAnyH_ready (rs := [4]) (by kernel_rfl) (by simp) ?_
        refine AllReadyH.cons rfl (fun K hK => ?_) AllReadyH.nil
        rw [if_pos (by rfl)]
        go_simp
        have hZn : Wk (W21.alloc (.cells #[.slice none 0 0, .int .i64 0, .int .i64 0, .int .i64 0, .int .i64 0, .int .i64 0, .int .i64 0, .int .i64 0, .int .i64 0, .int .i64 0, .int .i64 0, .int .i64 0, .slice none 0 0] 63)) W21.heap.size (.slice none 0 0) 0 0 0 0 0 0 0 0 (.slice none 0 0) := wk_zero _ _ rfl
        have hHn : Below W0.heap.size W0 (W21.alloc (.cells #[.slice none 0 0, .int .i64 0, .int .i64 0, .int .i64 0, .int .i64 0, .int .i64 0, .int .i64 0, .int .i64 0, .int .i64 0, .int .i64 0, .int .i64 0, .int .i64 0, .slice none 0 0] 63)) := below_call hHeld (below_alloc _ _)
        have hgz : W0.heap.size ≤ W21.heap.size := hHeld.size
        obtain ⟨l1, l2, l3, l4⟩ := hRn.out.lt
        have hgn : W21.heap.size ≠ b ∧ W21.heap.size ≠ q ∧ W21.heap.size ≠ o ∧ W21.heap.size ≠ g := by omega
        clear l1 l2 l3 l4
        have hRm : Rnr (W21.alloc (.cells #[.slice none 0 0, .int .i64 0, .int .i64 0, .int .i64 0, .int .i64 0, .int .i64 0, .int .i64 0, .int .i64 0, .int .i64 0, .int .i64 0, .int .i64 0, .int .i64 0, .slice none 0 0] 63)) b q o g ⟨os, pn, ps, pa, pk, pf⟩ r0 := hRn.out.below (below_alloc _ _)
        obtain ⟨Y22, hY⟩ : ∃ Y, Hid (W21.alloc (.cells #[.slice none 0 0, .int .i64 0, .int .i64 0, .int .i64 0, .int .i64 0, .int .i64 0, .int .i64 0, .int .i64 0, .int .i64 0, .int .i64 0, .int .i64 0, .int .i64 0, .slice none 0 0] 63) = Y) := ⟨_, rfl⟩
        rw [hY.out] at hZn hHn hRm ⊢
        clear hY hHeld
        obtain ⟨gr, hgr⟩ : ∃ gr, Hid (W21.heap.size = gr) := ⟨_, rfl⟩
        rw [hgr.out] at hZn hgz hgn ⊢
        clear hgr
        have hZ : Hid (Wk Y22 gr (.slice none 0 0) 0 0 0 0 0 0 0 0 (.slice none 0 0)) := hZn
        clear hZn
        replace hRn : Hid (Rnr Y22 b q o g ⟨os, pn, ps, pa, pk, pf⟩ r0) := hRm
        clear hRm
        refine hK.out _ _ (hHn) (fun hHeld => ?_)
        clear hK K hHn
        try simp only [Act.put, List.setIfInBounds_toArray, List.set_cons_zero, List.set_cons_succ]
        refine take_at (i := 5) (v := .pointer (some ⟨b, 0, none⟩)) rfl rfl (by kernel_rfl) (by kernel_rfl) (by kernel_rfl) (fun _ _ _ h => h) (Or.inl ⟨by rfl, fun X _ => by go_simp⟩) hHeld ?_
        try simp only [Act.put, List.setIfInBounds_toArray, List.set_cons_zero, List.set_cons_succ]
        refine wpAnyH_ready (rs := [6]) (by kernel_rfl) (by simp) ?_
        refine AllReadyH.cons rfl (fun K hK => ?_) AllReadyH.nil
        rw [if_pos (by rfl)]
        obtain ⟨e0, e1, e2, e3, e4, e5, e6, e7, e8, e9, e10, e11, e12⟩ := hZ.out.c
        have f0 := hZ.out.free 0
        have f1 := hZ.out.free 1
        have f2 := hZ.out.free 2
        have f3 := hZ.out.free 3
        have f4 := hZ.out.free 4
        have f5 := hZ.out.free 5
        have f6 := hZ.out.free 6
        have f7 := hZ.out.free 7
        have f8 := hZ.out.free 8
        have f9 := hZ.out.free 9
        have f10 := hZ.out.free 10
        have f11 := hZ.out.free 11
        have f12 := hZ.out.free 12
        go_simp
        have hall := wk_all hZ.out (.slice ua os.length uc) (.slice none 0 0) pn ps pa pk pf 0 0 0
        clear e0 e1 e2 e3 e4 e5 e6 e7 e8 e9 e10 e11 e12 f0 f1 f2 f3 f4 f5 f6 f7 f8 f9 f10 f11 f12
        generalize ((((((((((((Y22.setCell ⟨gr, 0, none⟩ (.slice ua os.length uc)).setCell ⟨gr, 1, none⟩ (.int .i64 pn)).setCell ⟨gr, 2, none⟩ (.int .i64 ps)).setCell ⟨gr, 3, none⟩ (.int .i64 pa)).setCell ⟨gr, 4, none⟩ (.int .i64 pk)).setCell ⟨gr, 5, none⟩ (.int .i64 pf)).setCell ⟨gr, 6, none⟩ (.int .i64 0)).setCell ⟨gr, 7, none⟩ (.int .i64 0)).setCell ⟨gr, 8, none⟩ (.int .i64 0)).setCell ⟨gr, 9, none⟩ (.int .i64 pn)).setCell ⟨gr, 10, none⟩ (.int .i64 ps)).setCell ⟨gr, 11, none⟩ (.int .i64 pa)).setCell ⟨gr, 12, none⟩ (.slice none 0 0) = Z at hall ⊢
        obtain ⟨hz1, hz2, hz3, hz4⟩ := hall
        have hHz : Below W0.heap.size W0 Z := hHeld.trans (hz4 _ hgz)
        have hRz : Hid (Rnr Z b q o g ⟨os, pn, ps, pa, pk, pf⟩ r0) := hRn.out.keep (b' := gr) (q' := gr) (o' := gr) ⟨(hz4 0 (Nat.zero_le _)).os, (hz4 0 (Nat.zero_le _)).tape, (hz4 0 (Nat.zero_le _)).output, Nat.le_of_eq hz3.symm, fun x _ h _ _ => hz2 x h⟩ ⟨fun e => hgn.1 e.symm, fun e => hgn.1 e.symm, fun e => hgn.1 e.symm⟩ ⟨fun e => hgn.2.1 e.symm, fun e => hgn.2.1 e.symm, fun e => hgn.2.1 e.symm⟩ ⟨fun e => hgn.2.2.1 e.symm, fun e => hgn.2.2.1 e.symm, fun e => hgn.2.2.1 e.symm⟩ ⟨fun e => hgn.2.2.2 e.symm, fun e => hgn.2.2.2 e.symm, fun e => hgn.2.2.2 e.symm⟩
        have hWz : Hid (Wk Z gr (.slice ua os.length uc) pn ps pa pk pf 0 0 0 (.slice none 0 0)) := hz1
        clear hHeld hRn hZ hz1 hz2 hz3 hz4
        refine hK.out _ _ (hHz) (fun hHeld => ?_)
        clear hK K hHz
        try simp only [Act.put, List.setIfInBounds_toArray, List.set_cons_zero, List.set_cons_succ]
        refine wpAnyH_done (by kernel_rfl) ?_ _
        go_wp2_with fail
        go_meet
        exact ⟨b, q, o, g, gr, rfl, rfl, hRz, hWz, hHeld, ⟨hbs.1, hbs.2.1, hbs.2.2.1, hbs.2.2.2, hgz⟩, hgn⟩
      · rw [if_pos (by rfl)]
        go_simp
        have hZn : Wk (W20.alloc (.cells #[.slice none 0 0, .int .i64 0, .int .i64 0, .int .i64 0, .int .i64 0, .int .i64 0, .int .i64 0, .int .i64 0, .int .i64 0, .int .i64 0, .int .i64 0, .int .i64 0, .slice none 0 0] 63)) W20.heap.size (.slice none 0 0) 0 0 0 0 0 0 0 0 (.slice none 0 0) := wk_zero _ _ rfl
        have hHn : Below W0.heap.size W0 (W20.alloc (.cells #[.slice none 0 0, .int .i64 0, .int .i64 0, .int .i64 0, .int .i64 0, .int .i64 0, .int .i64 0, .int .i64 0, .int .i64 0, .int .i64 0, .int .i64 0, .int .i64 0, .slice none 0 0] 63)) := below_call hHeld (below_alloc _ _)
        have hgz : W0.heap.size ≤ W20.heap.size := hHeld.size
        obtain ⟨l1, l2, l3, l4⟩ := hRn.out.lt
        have hgn : W20.heap.size ≠ b ∧ W20.heap.size ≠ q ∧ W20.heap.size ≠ o ∧ W20.heap.size ≠ g := by omega
        clear l1 l2 l3 l4
        have hRm : Rnr (W20.alloc (.cells #[.slice none 0 0, .int .i64 0, .int .i64 0, .int .i64 0, .int .i64 0, .int .i64 0, .int .i64 0, .int .i64 0, .int .i64 0, .int .i64 0, .int .i64 0, .int .i64 0, .slice none 0 0] 63)) b q o g ⟨os, pn, ps, pa, pk, pf⟩ r0 := hRn.out.below (below_alloc _ _)
        obtain ⟨Y21, hY⟩ : ∃ Y, Hid (W20.alloc (.cells #[.slice none 0 0, .int .i64 0, .int .i64 0, .int .i64 0, .int .i64 0, .int .i64 0, .int .i64 0, .int .i64 0, .int .i64 0, .int .i64 0, .int .i64 0, .int .i64 0, .slice none 0 0] 63) = Y) := ⟨_, rfl⟩
        rw [hY.out] at hZn hHn hRm ⊢
        clear hY hHeld
        obtain ⟨gr, hgr⟩ : ∃ gr, Hid (W20.heap.size = gr) := ⟨_, rfl⟩
        rw [hgr.out] at hZn hgz hgn ⊢
        clear hgr
        have hZ : Hid (Wk Y21 gr (.slice none 0 0) 0 0 0 0 0 0 0 0 (.slice none 0 0)) := hZn
        clear hZn
        replace hRn : Hid (Rnr Y21 b q o g ⟨os, pn, ps, pa, pk, pf⟩ r0) := hRm
        clear hRm
        refine hK.out _ _ (hHn) (fun hHeld => ?_)
        clear hK K hHn
        try simp only [Act.put, List.setIfInBounds_toArray, List.set_cons_zero, List.set_cons_succ]
        refine wpAnyH_ready (rs := [3]) (by kernel_rfl) (by simp) ?_
        refine AllReadyH.cons rfl (fun K hK => ?_) AllReadyH.nil
        rw [if_pos (by rfl)]
        go_wp2_with fail
        refine (wnew_is (.slice ua os.length uc) os pn ps pa pk pf _ (hO.out.below hHeld)).mono ?_
        rintro e W22 ⟨rfl, b22⟩
        replace hRn : Hid (Rnr W22 b q o g ⟨os, pn, ps, pa, pk, pf⟩ r0) := hRn.out.below b22
        replace hZ : Hid (Wk W22 gr (.slice none 0 0) 0 0 0 0 0 0 0 0 (.slice none 0 0)) := hZ.out.call b22
        have hHn := below_call hHeld b22
        clear hHeld b22
        go_wp2_with fail
        refine hK.out _ _ (hHn) (fun hHeld => ?_)
        clear hK K hHn
        try simp only [Act.put, List.setIfInBounds_toArray, List.set_cons_zero, List.set_cons_succ]
        refine take_at (i := 5) (v := .pointer (some ⟨b, 0, none⟩)) rfl rfl (by kernel_rfl) (by kernel_rfl) (by kernel_rfl) (fun _ _ _ h => h) (Or.inl ⟨by rfl, fun X _ => by go_simp⟩) hHeld ?_
        try simp only [Act.put, List.setIfInBounds_toArray, List.set_cons_zero, List.set_cons_succ]
        refine wpAnyH_ready (rs := [6]) (by kernel_rfl) (by simp) ?_
        refine AllReadyH.cons rfl (fun K hK => ?_) AllReadyH.nil
        rw [if_pos (by rfl)]
        obtain ⟨e0, e1, e2, e3, e4, e5, e6, e7, e8, e9, e10, e11, e12⟩ := hZ.out.c
        have f0 := hZ.out.free 0
        have f1 := hZ.out.free 1
        have f2 := hZ.out.free 2
        have f3 := hZ.out.free 3
        have f4 := hZ.out.free 4
        have f5 := hZ.out.free 5
        have f6 := hZ.out.free 6
        have f7 := hZ.out.free 7
        have f8 := hZ.out.free 8
        have f9 := hZ.out.free 9
        have f10 := hZ.out.free 10
        have f11 := hZ.out.free 11
        have f12 := hZ.out.free 12
        go_simp
        have hall := wk_all hZ.out (.slice ua os.length uc) (.slice none 0 0) pn ps pa pk pf 0 0 0
        clear e0 e1 e2 e3 e4 e5 e6 e7 e8 e9 e10 e11 e12 f0 f1 f2 f3 f4 f5 f6 f7 f8 f9 f10 f11 f12
        generalize ((((((((((((W22.setCell ⟨gr, 0, none⟩ (.slice ua os.length uc)).setCell ⟨gr, 1, none⟩ (.int .i64 pn)).setCell ⟨gr, 2, none⟩ (.int .i64 ps)).setCell ⟨gr, 3, none⟩ (.int .i64 pa)).setCell ⟨gr, 4, none⟩ (.int .i64 pk)).setCell ⟨gr, 5, none⟩ (.int .i64 pf)).setCell ⟨gr, 6, none⟩ (.int .i64 0)).setCell ⟨gr, 7, none⟩ (.int .i64 0)).setCell ⟨gr, 8, none⟩ (.int .i64 0)).setCell ⟨gr, 9, none⟩ (.int .i64 pn)).setCell ⟨gr, 10, none⟩ (.int .i64 ps)).setCell ⟨gr, 11, none⟩ (.int .i64 pa)).setCell ⟨gr, 12, none⟩ (.slice none 0 0) = Z at hall ⊢
        obtain ⟨hz1, hz2, hz3, hz4⟩ := hall
        have hHz : Below W0.heap.size W0 Z := hHeld.trans (hz4 _ hgz)
        have hRz : Hid (Rnr Z b q o g ⟨os, pn, ps, pa, pk, pf⟩ r0) := hRn.out.keep (b' := gr) (q' := gr) (o' := gr) ⟨(hz4 0 (Nat.zero_le _)).os, (hz4 0 (Nat.zero_le _)).tape, (hz4 0 (Nat.zero_le _)).output, Nat.le_of_eq hz3.symm, fun x _ h _ _ => hz2 x h⟩ ⟨fun e => hgn.1 e.symm, fun e => hgn.1 e.symm, fun e => hgn.1 e.symm⟩ ⟨fun e => hgn.2.1 e.symm, fun e => hgn.2.1 e.symm, fun e => hgn.2.1 e.symm⟩ ⟨fun e => hgn.2.2.1 e.symm, fun e => hgn.2.2.1 e.symm, fun e => hgn.2.2.1 e.symm⟩ ⟨fun e => hgn.2.2.2 e.symm, fun e => hgn.2.2.2 e.symm, fun e => hgn.2.2.2 e.symm⟩
        have hWz : Hid (Wk Z gr (.slice ua os.length uc) pn ps pa pk pf 0 0 0 (.slice none 0 0)) := hz1
        clear hHeld hRn hZ hz1 hz2 hz3 hz4
        refine hK.out _ _ (hHz) (fun hHeld => ?_)
        clear hK K hHz
        try simp only [Act.put, List.setIfInBounds_toArray, List.set_cons_zero, List.set_cons_succ]
        refine wpAnyH_done (by kernel_rfl) ?_ _
        go_wp2_with fail
        go_meet
        exact ⟨b, q, o, g, gr, rfl, rfl, hRz, hWz, hHeld, ⟨hbs.1, hbs.2.1, hbs.2.2.1, hbs.2.2.2, hgz⟩, hgn⟩
    · rw [if_pos (by rfl)]
      go_simp
      have hZn : Wk (V.alloc (.cells #[.slice none 0 0, .int .i64 0, .int .i64 0, .int .i64 0, .int .i64 0, .int .i64 0, .int .i64 0, .int .i64 0, .int .i64 0, .int .i64 0, .int .i64 0, .int .i64 0, .slice none 0 0] 63)) V.heap.size (.slice none 0 0) 0 0 0 0 0 0 0 0 (.slice none 0 0) := wk_zero _ _ rfl
      have hHn : Below W0.heap.size W0 (V.alloc (.cells #[.slice none 0 0, .int .i64 0, .int .i64 0, .int .i64 0, .int .i64 0, .int .i64 0, .int .i64 0, .int .i64 0, .int .i64 0, .int .i64 0, .int .i64 0, .int .i64 0, .slice none 0 0] 63)) := below_call hHeld (below_alloc _ _)
      have hgz : W0.heap.size ≤ V.heap.size := hHeld.size
      obtain ⟨Y20, hY⟩ : ∃ Y, Hid (V.alloc (.cells #[.slice none 0 0, .int .i64 0, .int .i64 0, .int .i64 0, .int .i64 0, .int .i64 0, .int .i64 0, .int .i64 0, .int .i64 0, .int .i64 0, .int .i64 0, .int .i64 0, .slice none 0 0] 63) = Y) := ⟨_, rfl⟩
      rw [hY.out] at hZn hHn ⊢
      clear hY hHeld
      obtain ⟨gr, hgr⟩ : ∃ gr, Hid (V.heap.size = gr) := ⟨_, rfl⟩
      rw [hgr.out] at hZn hgz ⊢
      clear hgr
      have hZ : Hid (Wk Y20 gr (.slice none 0 0) 0 0 0 0 0 0 0 0 (.slice none 0 0)) := hZn
      clear hZn
      refine hK.out _ _ (hHn) (fun hHeld => ?_)
      clear hK K hHn
      try simp only [Act.put, List.setIfInBounds_toArray, List.set_cons_zero, List.set_cons_succ]
      refine wpAnyH_ready (rs := [1]) (by kernel_rfl) (by simp) ?_
      refine AllReadyH.cons rfl (fun K hK => ?_) AllReadyH.nil
      rw [if_pos (by rfl)]
      go_wp2_with fail
      refine (new_is (.slice ua os.length uc) ⟨os, pn, ps, pa, pk, pf⟩ _ (hO.out.below hHeld) (small_new hS'.out).1 (small_new hS'.out).2.1).mono ?_
      rintro e W21 ⟨b, q, o, g, rfl, hRn0, zb, zq, zo, zg, b21⟩
      have hzX := hHeld.size
      have hRn : Hid (Rnr W21 b q o g ⟨os, pn, ps, pa, pk, pf⟩ r0) := hRn0
      clear hRn0
      have hbs : W0.heap.size ≤ b ∧ W0.heap.size ≤ q ∧ W0.heap.size ≤ o ∧ W0.heap.size ≤ g := by omega
      have hgn : gr ≠ b ∧ gr ≠ q ∧ gr ≠ o ∧ gr ≠ g := by have := hZ.out.lt; omega
      replace hZ : Hid (Wk W21 gr (.slice none 0 0) 0 0 0 0 0 0 0 0 (.slice none 0 0)) := hZ.out.call b21
      clear zb zq zo zg hzX
      have hHn := below_call hHeld b21
      clear hHeld b21
      go_wp2_with fail
      refine hK.out _ _ (hHn) (fun hHeld => ?_)
      clear hK K hHn
      try simp only [Act.put, List.setIfInBounds_toArray, List.set_cons_zero, List.set_cons_succ]
      refine wpAnyH_ready (rs := [3]) (by kernel_rfl) (by simp) ?_
      refine AllReadyH.cons rfl (fun K hK => ?_) AllReadyH.nil
      rw [if_pos (by rfl)]
      go_wp2_with fail
      refine (wnew_is (.slice ua os.length uc) os pn ps pa pk pf _ (hO.out.below hHeld)).mono ?_
      rintro e W22 ⟨rfl, b22⟩
      replace hRn : Hid (Rnr W22 b q o g ⟨os, pn, ps, pa, pk, pf⟩ r0) := hRn.out.below b22
      replace hZ : Hid (Wk W22 gr (.slice none 0 0) 0 0 0 0 0 0 0 0 (.slice none 0 0)) := hZ.out.call b22
      have hHn := below_call hHeld b22
      clear hHeld b22
      go_wp2_with fail
      refine hK.out _ _ (hHn) (fun hHeld => ?_)
      clear hK K hHn
      try simp only [Act.put, List.setIfInBounds_toArray, List.set_cons_zero, List.set_cons_succ]
      refine take_at (i := 5) (v := .pointer (some ⟨b, 0, none⟩)) rfl rfl (by kernel_rfl) (by kernel_rfl) (by kernel_rfl) (fun _ _ _ h => h) (Or.inl ⟨by rfl, fun X _ => by go_simp⟩) hHeld ?_
      try simp only [Act.put, List.setIfInBounds_toArray, List.set_cons_zero, List.set_cons_succ]
      refine wpAnyH_ready (rs := [6]) (by kernel_rfl) (by simp) ?_
      refine AllReadyH.cons rfl (fun K hK => ?_) AllReadyH.nil
      rw [if_pos (by rfl)]
      obtain ⟨e0, e1, e2, e3, e4, e5, e6, e7, e8, e9, e10, e11, e12⟩ := hZ.out.c
      have f0 := hZ.out.free 0
      have f1 := hZ.out.free 1
      have f2 := hZ.out.free 2
      have f3 := hZ.out.free 3
      have f4 := hZ.out.free 4
      have f5 := hZ.out.free 5
      have f6 := hZ.out.free 6
      have f7 := hZ.out.free 7
      have f8 := hZ.out.free 8
      have f9 := hZ.out.free 9
      have f10 := hZ.out.free 10
      have f11 := hZ.out.free 11
      have f12 := hZ.out.free 12
      go_simp
      have hall := wk_all hZ.out (.slice ua os.length uc) (.slice none 0 0) pn ps pa pk pf 0 0 0
      clear e0 e1 e2 e3 e4 e5 e6 e7 e8 e9 e10 e11 e12 f0 f1 f2 f3 f4 f5 f6 f7 f8 f9 f10 f11 f12
      generalize ((((((((((((W22.setCell ⟨gr, 0, none⟩ (.slice ua os.length uc)).setCell ⟨gr, 1, none⟩ (.int .i64 pn)).setCell ⟨gr, 2, none⟩ (.int .i64 ps)).setCell ⟨gr, 3, none⟩ (.int .i64 pa)).setCell ⟨gr, 4, none⟩ (.int .i64 pk)).setCell ⟨gr, 5, none⟩ (.int .i64 pf)).setCell ⟨gr, 6, none⟩ (.int .i64 0)).setCell ⟨gr, 7, none⟩ (.int .i64 0)).setCell ⟨gr, 8, none⟩ (.int .i64 0)).setCell ⟨gr, 9, none⟩ (.int .i64 pn)).setCell ⟨gr, 10, none⟩ (.int .i64 ps)).setCell ⟨gr, 11, none⟩ (.int .i64 pa)).setCell ⟨gr, 12, none⟩ (.slice none 0 0) = Z at hall ⊢
      obtain ⟨hz1, hz2, hz3, hz4⟩ := hall
      have hHz : Below W0.heap.size W0 Z := hHeld.trans (hz4 _ hgz)
      have hRz : Hid (Rnr Z b q o g ⟨os, pn, ps, pa, pk, pf⟩ r0) := hRn.out.keep (b' := gr) (q' := gr) (o' := gr) ⟨(hz4 0 (Nat.zero_le _)).os, (hz4 0 (Nat.zero_le _)).tape, (hz4 0 (Nat.zero_le _)).output, Nat.le_of_eq hz3.symm, fun x _ h _ _ => hz2 x h⟩ ⟨fun e => hgn.1 e.symm, fun e => hgn.1 e.symm, fun e => hgn.1 e.symm⟩ ⟨fun e => hgn.2.1 e.symm, fun e => hgn.2.1 e.symm, fun e => hgn.2.1 e.symm⟩ ⟨fun e => hgn.2.2.1 e.symm, fun e => hgn.2.2.1 e.symm, fun e => hgn.2.2.1 e.symm⟩ ⟨fun e => hgn.2.2.2 e.symm, fun e => hgn.2.2.2 e.symm, fun e => hgn.2.2.2 e.symm⟩
      have hWz : Hid (Wk Z gr (.slice ua os.length uc) pn ps pa pk pf 0 0 0 (.slice none 0 0)) := hz1
      clear hHeld hRn hZ hz1 hz2 hz3 hz4
      refine hK.out _ _ (hHz) (fun hHeld => ?_)
      clear hK K hHz
      try simp only [Act.put, List.setIfInBounds_toArray, List.set_cons_zero, List.set_cons_succ]
      refine wpAnyH_done (by kernel_rfl) ?_ _
      go_wp2_with fail
      go_meet
      exact ⟨b, q, o, g, gr, rfl, rfl, hRz, hWz, hHeld, ⟨hbs.1, hbs.2.1, hbs.2.2.1, hbs.2.2.2, hgz⟩, hgn⟩
  case rest =>
    obtain ⟨b, q, o, g, gr, rfl, rfl, hRn, hWk, hBV, hbs, hgn⟩ := hcut
    obtain ⟨V2, hV2⟩ : ∃ X, X = wc := ⟨_, rfl⟩
    subst hV2
    have hP2 : Hid (Pik V2 gp (.slice ua os.length uc) pn ps pa pk pf) := hP.out.call hBV.out
    have hO2 : Hid (OpsIn V2 (.slice ua os.length uc) os) := hO.out.below hBV.out
    have hB2 : Hid (Below g0 w V2) := hB.out.trans (hBV.out.mono (by omega))
    have hz2 : W0.heap.size ≤ V2.heap.size := hBV.out.size
    have hOu0 : Hid (∀ k, (Value.slice ua os.length uc).ownBlock = some k → k < W0.heap.size) := fun k hk => hO.out.lt k hk
    have hRaw2 : Hid (Raw5 V2 ra rl rc) := hR'.out.below hB2.out (Nat.le_of_eq hg0.out) (by have := hB2.out.size; exact this)
    have hg0z' : Hid (g0 ≤ W0.heap.size) := by have h1 := hB.out.size; have h2 := hg0.out; exact (by omega : g0 ≤ W0.heap.size)
    clear hP hO hB hBV
    obtain ⟨d0, d1, d2, d3⟩ := hRn.out.cells
    go_wp2_with fail
    refine (inputs_is la ll lc _ (hI'.out.below hB2.out (Nat.le_of_eq hg0.out) hB2.out.size)).mono ?_
    rintro e W3 ⟨iu, is, rfl, hl25, hG, ho, b3⟩
    obtain ⟨ia, ic, rfl⟩ := own_len ho
    have hlab3 : Hid (∀ i ∈ is, i.e.l < 18446744073709551616) := fun i hi => (hG i hi).lt
    have hown3 : Hid (W3.ownsRow V2.heap.size 71 5 (.slice ia is.length ic) is.length (ins is)) := ho
    have hB3 : Hid (Below V2.heap.size V2 W3) := b3
    clear hG ho b3 d0 d1 d2 d3
    obtain ⟨i0, hi, hx0, hx1, hx2⟩ := info_parts Try.info71
    go_upto_block 0 with fail
    go_cut [12] (fun iv wx => ∃ js : List Inp, js.length ≤ 28 ∧ Hid (∀ i ∈ js, i.e.l < 18446744073709551616) ∧ Hid (wx.ownsRow V2.heap.size 71 5 iv js.length (ins js)) ∧ Hid (Below V2.heap.size V2 wx))
    case first =>
      go_wp2_with fail
      go_loopw [12, 13] (fun iv cv wr => ∃ (k : Nat) (js : List Inp), k ≤ 3 ∧ k ≤ rl ∧ cv = .int .i64 k ∧ js.length ≤ 25 + k ∧ Hid (∀ i ∈ js, i.e.l < 18446744073709551616) ∧ Hid (wr.ownsRow V2.heap.size 71 5 iv js.length (ins js)) ∧ Hid (Below V2.heap.size V2 wr)) (fun _ cv _ => 3 - (intOf cv).toNat)
      case atStart => exact ⟨0, is, by decide, Nat.zero_le _, rfl, by omega, hlab3, hown3, hB3⟩
      case round =>
        obtain ⟨k, js, hk3, hkr, rfl, hjl, hlab, hown, hBw⟩ := hrel
        clear hown3 hB3
        by_cases hkr2 : k < rl
        · by_cases hk2 : k < 3
          · have hraw := hRaw2.out.below hBw.out (Nat.le_refl _) hBw.out.size
            obtain ⟨_, _, _, hcell⟩ := hraw
            obtain ⟨rb, ro, y, rfl, hrb, hat, hyl⟩ := hcell k hkr2
            have hyl' : Hid (y.e.l < 18446744073709551616) := hyl
            have hzw : V2.heap.size ≤ wr.heap.size := hBw.out.size
            obtain ⟨mk, ⟨et, ek, ev, el⟩⟩ := y
            clear hcell hyl
            obtain ⟨c0, c1, c2, c3, c4⟩ := hat
            simp only at c0 c1 c2 c3 c4
            go_wp2_with (at_builtin; refine wpList_append_srcN _ (by rfl) _ _ 55 rfl 5 V2.heap.size 71 i0 izero 40 Try.underlying55 hi hx0 hx1 hx2 rfl (by decide) u12 js.length (ins js) rfl (hown.out.alloc _) (.slice (some ⟨wr.heap.size, 0, none⟩) 1 1) 1 (ins [(⟨mk, ⟨et, ek, ev, el⟩⟩ : Inp)]) rfl (in_src wr ⟨mk, ⟨et, ek, ev, el⟩⟩ _ rfl) (ins_one _) ?c1 ?c2 ?c3 ?_)
            case c1 => unfold maxLen; omega
            case c2 => omega
            case c3 => first | omega | (simp; omega)
            intro v5 W5 o5 b5
            have hB5 : Hid (Below V2.heap.size V2 W5) := (hBw.out.trans ((below_alloc wr _).mono hzw)).trans b5
            have ho5 : Hid (W5.ownsRow V2.heap.size 71 5 v5 (js ++ [(⟨mk, ⟨et, ek, ev, el⟩⟩ : Inp)]).length (ins (js ++ [(⟨mk, ⟨et, ek, ev, el⟩⟩ : Inp)]))) := by
              have h : W5.ownsRow V2.heap.size 71 5 v5 (js ++ [(⟨mk, ⟨et, ek, ev, el⟩⟩ : Inp)]).length (ins (js ++ [(⟨mk, ⟨et, ek, ev, el⟩⟩ : Inp)])) := by rw [ins_append, List.length_append]; exact o5
              exact h
            have hlab5 : Hid (∀ i ∈ js ++ [(⟨mk, ⟨et, ek, ev, el⟩⟩ : Inp)], i.e.l < 18446744073709551616) := fun i hi => by
              rcases List.mem_append.1 hi with h | h
              · exact hlab.out i h
              · rw [List.mem_singleton.1 h]; exact hyl'.out
            have hlen5 : (js ++ [(⟨mk, ⟨et, ek, ev, el⟩⟩ : Inp)]).length ≤ 25 + (k + 1) := by rw [List.length_append]; simp; omega
            clear o5 b5 hown hBw c0 c1 c2 c3 c4
            go_wp2_with fail
            go_roundw
            case rel => exact ⟨k + 1, _, by omega, by omega, by go_num, hlen5, hlab5, ho5, hB5⟩
            case measure => simp [intOf]; omega
          · obtain rfl : k = 3 := by omega
            go_wp2_with fail
            go_meet
            exact ⟨js, by omega, hlab, hown, hBw⟩
        · obtain rfl : k = rl := by omega
          go_wp2_with fail
          go_meet
          exact ⟨js, by omega, hlab, hown, hBw⟩
    case rest =>
      obtain ⟨js, hj28, hlab, hown, hBw⟩ := hcut
      obtain ⟨V3, hV3⟩ : ∃ X, X = wc := ⟨_, rfl⟩
      subst hV3
      obtain ⟨ja, jc, rfl⟩ := own_len hown.out
      obtain ⟨qj, hrd, hz1, hz2', hqj⟩ := rdi_own hown.out hlab.out hBw.out.size
      have hRn3 : Hid (Rnr V3 b q o g ⟨os, pn, ps, pa, pk, pf⟩ r0) := hRn.out.below hBw.out
      have hWk3 : Hid (Wk V3 gr (.slice ua os.length uc) pn ps pa pk pf 0 0 0 (.slice none 0 0)) := hWk.out.call hBw.out
      have hP3 : Hid (Pik V3 gp (.slice ua os.length uc) pn ps pa pk pf) := hP2.out.call hBw.out
      have hO3 : Hid (OpsIn V3 (.slice ua os.length uc) os) := hO2.out.below hBw.out
      have hB3' : Hid (Below g0 w V3) := hB2.out.trans (hBw.out.mono (by omega))
      have hI3 : Hid (RdI V3 (.slice ja js.length jc) qj js) := hrd
      have hqs : V2.heap.size ≤ qj := hz1
      have hOu : Hid (∀ k, (Value.slice ua os.length uc).ownBlock = some k → k < W0.heap.size) := hOu0
      obtain ⟨lb1, lb2, lb3, lb4⟩ := hRn.out.lt
      have hqg : Hid (qj ≠ gr) := by have h := hWk.out.lt; exact (by omega : qj ≠ gr)
      have hgr0 : Hid (W0.heap.size ≤ gr) := hbs.2.2.2.2
      have hqn : qj ≠ b ∧ qj ≠ q ∧ qj ≠ o := by omega
      have hzV : W0.heap.size ≤ V3.heap.size := by have := hBw.out.size; omega
      clear hRn hWk hP2 hO2 hB2 hBw hrd hown hown3 hB3 hlab3 hRaw2 hz1 hz2'
      obtain ⟨M, hM⟩ : ∃ M, Hid (js.length = M) := ⟨_, rfl⟩
      rw [hM.out] at hj28 hI3 ⊢
      go_wp2_with fail
      go_loopw [10, 58] (fun rv cv wr => ∃ (j b q o g : Nat) (r : Rs) (x : Value), j ≤ M ∧ rv = .pointer (some ⟨b, 0, none⟩) ∧ cv = .int .i64 j ∧ Hid (stR ⟨os, pn, ps, pa, pk, pf⟩ r0 (js.take j) = r) ∧ Hid (Rnr wr b q o g ⟨os, pn, ps, pa, pk, pf⟩ r) ∧ Hid (Wk wr gr (.slice ua os.length uc) pn ps pa pk pf r.m r.l r.s x) ∧ Hid (wr.ownsRow W0.heap.size 105 5 x r.L.length (qcs r.L)) ∧ Hid (Pik wr gp (.slice ua os.length uc) pn ps pa pk pf) ∧ Hid (OpsIn wr (.slice ua os.length uc) os) ∧ Hid (RdI wr (.slice ja M jc) qj js) ∧ Hid (Below g0 w wr) ∧ (W0.heap.size ≤ b ∧ W0.heap.size ≤ q ∧ W0.heap.size ≤ o ∧ W0.heap.size ≤ g) ∧ (gr ≠ b ∧ gr ≠ q ∧ gr ≠ o ∧ gr ≠ g) ∧ (qj ≠ b ∧ qj ≠ q ∧ qj ≠ o) ∧ W0.heap.size ≤ wr.heap.size) (fun _ cv _ => M - (intOf cv).toNat)
      case atStart => exact ⟨0, b, q, o, g, r0, .slice none 0 0, Nat.zero_le _, rfl, rfl, rfl, hRn3, hWk3, World.ownsRow_nil _ _ _ _, hP3, hO3, hI3, hB3', ⟨hbs.1, hbs.2.1, hbs.2.2.1, hbs.2.2.2.1⟩, hgn, hqn, hzV⟩
      case round =>
        clear hRn3 hWk3 hP3 hO3 hI3 hB3' hgn hqn hzV hbs lb1 lb2 lb3 lb4 hqs hz2
        obtain ⟨j, b, q, o, g, r, x, hj, rfl, rfl, hst, hRn, hWk, hx, hP, hO, hI, hB, hbs, hgn, hqn, hzr⟩ := hrel
        by_cases hlt : j < M
        · have hjl : j < js.length := by rw [hM.out]; exact hlt
          obtain ⟨hl, _, ao', cap', he', hlc, hcm', hcell⟩ := hI.out
          injection he' with he1 he2 he3
          subst he1 he3
          obtain ⟨off, rfl, hgb, hrow⟩ := hcell (by omega)
          have hat := hrow j hjl
          have hel := hlab.out _ (iAt_mem js j hjl)
          have hok := st_ok (p := ⟨os, pn, ps, pa, pk, pf⟩) (small_new hS'.out).2.2.2 (is := js.take j) (fun i hi => hlab.out i (List.mem_of_mem_take hi)) (by rw [List.length_take]; omega)
          rw [hst.out] at hok
          have hok' : Hid _ := hok
          have hct := all_counts ⟨os, pn, ps, pa, pk, pf⟩ (js.take j) r0
          rw [hst.out, List.length_take] at hct
          have hls : Hid ((0 ≤ r.l ∧ r.l ≤ 999999) ∧ (0 ≤ r.s ∧ r.s ≤ 999999)) := by
            have z1 : r0.l = 0 := rfl
            have z2 : r0.s = 0 := rfl
            exact ⟨⟨by omega, by omega⟩, ⟨by omega, by omega⟩⟩
          have hLl := (rows_len ⟨os, pn, ps, pa, pk, pf⟩ (js.take j)).2
          rw [hst.out, List.length_take] at hLl
          have hs2 : Hid (stR ⟨os, pn, ps, pa, pk, pf⟩ r0 (js.take (j + 1)) = stepR ⟨os, pn, ps, pa, pk, pf⟩ r (iAt js j)) := by
            have h : stR ⟨os, pn, ps, pa, pk, pf⟩ r0 (js.take (j + 1)) = stepR ⟨os, pn, ps, pa, pk, pf⟩ r (iAt js j) := by rw [take_in js j hjl, stR_snoc, hst.out]
            exact h
          obtain ⟨y, hy⟩ : ∃ y, Hid (iAt js j = y) := ⟨_, rfl⟩
          rw [hy.out] at hat hel hs2
          have hel' : Hid (y.e.l < 18446744073709551616) := hel
          have hqw : qj < wr.heap.size := hgb
          clear hcell hrow hl hlc hcm' he2 hgb hy hel hok hst hjl
          obtain ⟨d0, d1, d2, d3, d4⟩ := hat
          have hgz : gp < W0.heap.size := hgp
          have hg0z : g0 ≤ W0.heap.size := hg0z'.out
          have hRK : Hid (RK w wr g0 gp gr W0.heap.size (.slice ua os.length uc) ⟨os, pn, ps, pa, pk, pf⟩ b q o g r r x qj (.slice (some ⟨qj, off, none⟩) M jc) js) := ⟨hRn.out, hWk.out, hx.out, hP.out, hO.out, hI.out, hB.out, hg0z, hgz, hOu.out, hbs, hgn, hqn, hqw, hzr⟩
          obtain ⟨n1, n2, n3, _⟩ := hRn.out.lt
          have hyn : Hid (b < wr.heap.size ∧ q < wr.heap.size ∧ o < wr.heap.size) := ⟨n1, n2, n3⟩
          clear hRn hWk hx hP hO hI hB hbs hgn hqn hzr n1 n2 n3 hqw
          go_upto_region 13 with fail
          clear d0 d1 d2 d3 d4
          have hRK1 := hRK.out.call (below_alloc wr (.cells #[.bool y.mrk, .int .i64 y.e.t, .int .i64 y.e.k, .int .i64 y.e.v, .int .u64 y.e.l] 71))
          obtain ⟨V6, hV6⟩ : ∃ V, Hid (wr.alloc (.cells #[.bool y.mrk, .int .i64 y.e.t, .int .i64 y.e.k, .int .i64 y.e.v, .int .u64 y.e.l] 71) = V) := ⟨_, rfl⟩
          have hy6 : Hid (InAt V6 wr.heap.size 0 y) := by
            rw [← hV6.out]
            refine ⟨?_, ?_, ?_, ?_, ?_⟩ <;> go_simp
          have hys : wr.heap.size < V6.heap.size := by rw [← hV6.out]; simp
          rw [hV6.out] at hRK1 ⊢
          clear hRK hV6
          obtain ⟨yb, hyb⟩ : ∃ n, Hid (wr.heap.size = n) := ⟨_, rfl⟩
          rw [hyb.out] at hy6 hyn hys ⊢
          clear hyb
          obtain ⟨d0, d1, d2, d3, d4⟩ := hy6.out
          go_wp2_with fail
          have hIn : Hid (RdI (V6.alloc (.cells (ins [y]).toArray 71)) (.slice (some ⟨V6.heap.size, 0, none⟩) 1 1) V6.heap.size [y]) := rdi_lit V6 [y] (by simp) (by simpa using hel'.out)
          obtain ⟨q1, q2, q3, q4⟩ := hRK1.R.lt
          have hLs : r.L.length ≤ 800 := by have := hLl; omega
          obtain ⟨⟨ol1, ol2⟩, ⟨os1, os2⟩⟩ : (0 ≤ r.l ∧ r.l ≤ 999999) ∧ (0 ≤ r.s ∧ r.s ≤ 999999) := hls.out
          refine (rtake_is b q o g ⟨os, pn, ps, pa, pk, pf⟩ r _ V6.heap.size _ _ (hRK1.R.below (below_alloc _ _)) hIn.out (by omega) (by omega) (by omega) (by simp; omega) ⟨ol1, by simp; omega⟩ ⟨os1, by simp; omega⟩).mono ?_
          rintro e V7 ⟨tu, o2, rfl, htu, hR7, ho2, hc7⟩
          rw [rows_one] at htu
          have hRK2 := (hRK1.call (below_alloc V6 (.cells (ins [y]).toArray 71))).take (hR7 : Rnr V7 b q o2 g ⟨os, pn, ps, pa, pk, pf⟩ (stepR ⟨os, pn, ps, pa, pk, pf⟩ r y)) hc7 ho2
          have hy7 : Hid (InAt V7 yb 0 y) := by
            obtain ⟨m1, m2, m3⟩ := hyn.out
            have hz : yb < (V6.alloc (.cells (ins [y]).toArray 71)).heap.size := by simp; omega
            have e1 := hc7.other yb hz (by omega) (by omega) (by omega)
            exact InAt.keep hy6.out (e1.trans ((below_alloc V6 (.cells (ins [y]).toArray 71)).block yb hys))
          have hyz : Hid (yb < V7.heap.size) := (show yb < V7.heap.size from by have h := hc7.size; simp at h; omega)
          have htu' : Hid (V7.ownsRow (V6.alloc (.cells (ins [y]).toArray 71)).heap.size 45 5 tu (rowR ⟨os, pn, ps, pa, pk, pf⟩ r y).length (rcs (rowR ⟨os, pn, ps, pa, pk, pf⟩ r y))) := htu
          clear hRK1 hIn q1 q2 q3 q4 htu hR7 hc7 ho2 d0 d1 d2 d3 d4 hy6 hyn hys ol1 ol2 os1 os2
          obtain ⟨rm, rl', rs', rL⟩ := r
          have hRK2' := hRK2
          clear hRK2
          have hRK2 := hRK2'
          clear hRK2'
          obtain ⟨d0, d1, d2, d3, d4⟩ := hy7.out
          obtain ⟨e0, e1, e2, e3, e4, e5, e6, e7, e8, e9, e10, e11, e12⟩ := hRK2.K.c
          go_wp2_with fail
          refine (wtake_is (.slice ua os.length uc) x os pn ps pa pk pf rm rl' rs' rL y W0.heap.size _ hRK2.O hRK2.xo hRK2.zz hok'.out.1 hok'.out.2.1 hok'.out.2.2.1 (by have h := small_n hS'.out; have h2 := hS'.out.2.2; simp only at h h2; omega) hel'.out hok'.out.2.2.2.1 hok'.out.2.2.2.2.1).mono ?_
          rintro e V8 ⟨⟨am, al, as', L⟩, x', du, hrr, rfl, hx2, hq2, b2⟩
          dsimp only at hx2
          have hrr' : Hid _ := hrr
          obtain ⟨da, dc, rfl⟩ := own_len hq2
          obtain ⟨xa, xc, rfl⟩ := own_len hx2
          have hRK3 := hRK2.call b2
          clear d0 d1 d2 d3 d4 e0 e1 e2 e3 e4 e5 e6 e7 e8 e9 e10 e11 e12 hRK2
          go_upto_region 15 with fail
          have hRK4 := hRK3.call (below_alloc V8 (.cells #[(.slice ua os.length uc), .int .i64 pn, .int .i64 ps, .int .i64 pa, .int .i64 pk, .int .i64 pf, .int .i64 am, .int .i64 al, .int .i64 as', .int .i64 pn, .int .i64 ps, .int .i64 pa, (.slice xa L.length xc)] 63))
          have hN : Wk (V8.alloc (.cells #[(.slice ua os.length uc), .int .i64 pn, .int .i64 ps, .int .i64 pa, .int .i64 pk, .int .i64 pf, .int .i64 am, .int .i64 al, .int .i64 as', .int .i64 pn, .int .i64 ps, .int .i64 pa, (.slice xa L.length xc)] 63)) V8.heap.size (.slice ua os.length uc) pn ps pa pk pf am al as' (.slice xa L.length xc) := wk_new' V8 _ _ _ _ _ _ _ _ _ _ _ rfl
          have hx4 := (hx2 : V8.ownsRow W0.heap.size 105 5 (.slice xa L.length xc) L.length (qcs L)).alloc (.cells #[(.slice ua os.length uc), .int .i64 pn, .int .i64 ps, .int .i64 pa, .int .i64 pk, .int .i64 pf, .int .i64 am, .int .i64 al, .int .i64 as', .int .i64 pn, .int .i64 ps, .int .i64 pa, (.slice xa L.length xc)] 63)
          have ht9 := own_below (own_below htu'.out b2) (below_alloc V8 (.cells #[(.slice ua os.length uc), .int .i64 pn, .int .i64 ps, .int .i64 pa, .int .i64 pk, .int .i64 pf, .int .i64 am, .int .i64 al, .int .i64 as', .int .i64 pn, .int .i64 ps, .int .i64 pa, (.slice xa L.length xc)] 63))
          have hq9 := own_below hq2 (below_alloc V8 (.cells #[(.slice ua os.length uc), .int .i64 pn, .int .i64 ps, .int .i64 pa, .int .i64 pk, .int .i64 pf, .int .i64 am, .int .i64 al, .int .i64 as', .int .i64 pn, .int .i64 ps, .int .i64 pa, (.slice xa L.length xc)] 63))
          obtain ⟨V9, hV9⟩ : ∃ V, Hid (V8.alloc (.cells #[(.slice ua os.length uc), .int .i64 pn, .int .i64 ps, .int .i64 pa, .int .i64 pk, .int .i64 pf, .int .i64 am, .int .i64 al, .int .i64 as', .int .i64 pn, .int .i64 ps, .int .i64 pa, (.slice xa L.length xc)] 63) = V) := ⟨_, rfl⟩
          rw [hV9.out] at hRK4 hN hx4 ht9 hq9 ⊢
          clear hRK3 hV9 htu' hq2 hx2 b2 hy7 hyz hrr
          obtain ⟨c0, c1, c2, c3, c4, c5, c6, c7, c8, c9, c10, c11, c12⟩ := hN.c
          obtain ⟨e0, e1, e2, e3, e4, e5, e6, e7, e8, e9, e10, e11, e12⟩ := hRK4.K.c
          have f0 := hRK4.K.free 0
          have f1 := hRK4.K.free 1
          have f2 := hRK4.K.free 2
          have f3 := hRK4.K.free 3
          have f4 := hRK4.K.free 4
          have f5 := hRK4.K.free 5
          have f6 := hRK4.K.free 6
          have f7 := hRK4.K.free 7
          have f8 := hRK4.K.free 8
          have f9 := hRK4.K.free 9
          have f10 := hRK4.K.free 10
          have f11 := hRK4.K.free 11
          have f12 := hRK4.K.free 12
          go_upto_region 16 with fail
          have hall := wk_all hRK4.K (.slice ua os.length uc) (.slice xa L.length xc) pn ps pa pk pf am al as'
          clear e0 e1 e2 e3 e4 e5 e6 e7 e8 e9 e10 e11 e12 f0 f1 f2 f3 f4 f5 f6 f7 f8 f9 f10 f11 f12 c0 c1 c2 c3 c4 c5 c6 c7 c8 c9 c10 c11 c12 hN
          generalize ((((((((((((V9.setCell ⟨gr, 0, none⟩ (.slice ua os.length uc)).setCell ⟨gr, 1, none⟩ (.int .i64 pn)).setCell ⟨gr, 2, none⟩ (.int .i64 ps)).setCell ⟨gr, 3, none⟩ (.int .i64 pa)).setCell ⟨gr, 4, none⟩ (.int .i64 pk)).setCell ⟨gr, 5, none⟩ (.int .i64 pf)).setCell ⟨gr, 6, none⟩ (.int .i64 am)).setCell ⟨gr, 7, none⟩ (.int .i64 al)).setCell ⟨gr, 8, none⟩ (.int .i64 as')).setCell ⟨gr, 9, none⟩ (.int .i64 pn)).setCell ⟨gr, 10, none⟩ (.int .i64 ps)).setCell ⟨gr, 11, none⟩ (.int .i64 pa)).setCell ⟨gr, 12, none⟩ (.slice xa L.length xc) = Z at hall ⊢
          obtain ⟨hz1, hz2, hz3, hz4⟩ := hall
          have hRK5 : Hid (RK w Z g0 gp gr W0.heap.size (.slice ua os.length uc) ⟨os, pn, ps, pa, pk, pf⟩ b q o2 g (stepR ⟨os, pn, ps, pa, pk, pf⟩ ⟨rm, rl', rs', rL⟩ y) ⟨am, al, as', L⟩ (.slice xa L.length xc) qj (.slice (some ⟨qj, off, none⟩) M jc) js) := RK.own hRK4 hz1 hz2 hz3 hz4 hx4 hgr0.out hqg.out
          have htZ := own_blk ht9 (Nat.le_of_eq hz3.symm) (fun k hk => hz2 k (own_typed ht9 hRK4.K (by decide) k hk))
          have hqZ := own_blk hq9 (Nat.le_of_eq hz3.symm) (fun k hk => hz2 k (own_typed hq9 hRK4.K (by decide) k hk))
          clear hz1 hz2 hz3 hz4 hRK4 hx4 ht9 hq9
          rw [hrr'.out] at hRK5
          have hst' : Hid (stR ⟨os, pn, ps, pa, pk, pf⟩ r0 (js.take (j + 1)) = ⟨am, al, as', L⟩) := hs2.out.trans hrr'.out
          obtain ⟨Rw, hRw⟩ : ∃ R, Hid (rowR ⟨os, pn, ps, pa, pk, pf⟩ ⟨rm, rl', rs', rL⟩ y = R) := ⟨_, rfl⟩
          rw [hRw.out] at htZ hqZ ⊢
          clear hrr' hs2 hRw
          obtain ⟨ta, tc, rfl⟩ := own_len htZ
          have hT : Hid (RdR Z (.slice ta Rw.length tc) Rw) := rdr_own htZ
          have hD : Hid (RdR Z (.slice da Rw.length dc) Rw) := rdr_own hqZ
          clear htZ hqZ
          have hLl' : Hid (L.length ≤ 800) := by
            have h1 := (rows_len ⟨os, pn, ps, pa, pk, pf⟩ (js.take (j + 1))).2
            rw [hst'.out, List.length_take] at h1
            exact (by simp only at h1; omega : L.length ≤ 800)
          obtain ⟨e0, e1, e2, e3⟩ := hRK5.out.R.cells
          simp only at e0 e1 e2 e3
          go_wp2_with fail
          refine (open_is q o2 pn ps pa L _ hRK5.out.R.pan (by have := hLl'.out; omega)).mono ?_
          rintro e W9 ⟨ou, rfl, hop, b9⟩
          obtain ⟨oa, oc, rfl⟩ := own_len hop
          have hRK9 : Hid _ := hRK5.out.call b9
          have hT9 : Hid (RdR W9 (.slice ta Rw.length tc) Rw) := hT.out.below b9
          have hD9 : Hid (RdR W9 (.slice da Rw.length dc) Rw) := hD.out.below b9
          clear e0 e1 e2 e3 hRK5 hT hD hop b9
          go_upto_region 17 with fail
          go_cut [133] (fun t wx => t = .bool false ∧ Hid (Below W9.heap.size W9 wx))
          case first =>
            refine wp_region_held_drew (S := fun X => Below W9.heap.size W9 X) (by kernel_rfl) (Below.refl _ _).drew (fun hHeld => ?_)
            generalize W9.drew = V0 at hHeld ⊢
            refine take_at (i := 0) (v := .slice ta Rw.length tc) rfl rfl (by kernel_rfl) (by kernel_rfl) (by kernel_rfl) (fun _ _ _ h => h) (Or.inl ⟨by rfl, fun X _ => by go_simp⟩) hHeld ?_
            try simp only [Act.put, List.setIfInBounds_toArray, List.set_cons_zero, List.set_cons_succ]
            refine take_at (i := 1) (v := .slice da Rw.length dc) rfl rfl (by kernel_rfl) (by kernel_rfl) (by kernel_rfl) (fun _ _ _ h => h) (Or.inl ⟨by rfl, fun X _ => by go_simp⟩) hHeld ?_
            try simp only [Act.put, List.setIfInBounds_toArray, List.set_cons_zero, List.set_cons_succ]
            refine wpAnyH_ready (rs := [2]) (by kernel_rfl) (by simp) ?_
            refine AllReadyH.cons rfl (fun K hK => ?_) AllReadyH.nil
            rw [if_pos (by rfl)]
            go_wp2_with fail
            refine (same_r (.slice ta Rw.length tc) (.slice da Rw.length dc) Rw _ (hT9.out.below hHeld) (hD9.out.below hHeld)).mono ?_
            rintro e Y1 ⟨rfl, hb⟩
            have hHb := below_call hHeld hb
            clear hHeld hb
            go_wp2_with fail
            refine hK.out _ _ (hHb) (fun hHeld => ?_)
            clear hK K hHb
            try simp only [Act.put, List.setIfInBounds_toArray, List.set_cons_zero, List.set_cons_succ]
            refine take_at (i := 3) (v := .bool false) rfl rfl (by kernel_rfl) (by kernel_rfl) (by kernel_rfl) (fun _ _ _ h => h) (Or.inl ⟨by rfl, fun X _ => by go_simp⟩) hHeld ?_
            try simp only [Act.put, List.setIfInBounds_toArray, List.set_cons_zero, List.set_cons_succ]
            refine take_at (i := 4) (v := .bool false) rfl rfl (by kernel_rfl) (by kernel_rfl) (by kernel_rfl) (fun _ _ _ h => h) (Or.inl ⟨by rfl, fun X _ => by go_simp⟩) hHeld ?_
            try simp only [Act.put, List.setIfInBounds_toArray, List.set_cons_zero, List.set_cons_succ]
            refine take_at (i := 5) (v := .pointer (some ⟨b, 0, none⟩)) rfl rfl (by kernel_rfl) (by kernel_rfl) (by kernel_rfl) (fun _ _ _ h => h) (Or.inl ⟨by rfl, fun X _ => by go_simp⟩) hHeld ?_
            try simp only [Act.put, List.setIfInBounds_toArray, List.set_cons_zero, List.set_cons_succ]
            refine take_at (i := 6) (v := .pointer (some ⟨b, 0, none⟩)) rfl rfl (by kernel_rfl) (by kernel_rfl) (by kernel_rfl) (fun _ _ _ h => h) (Or.inl ⟨by rfl, fun X _ => by go_simp⟩) hHeld ?_
            try simp only [Act.put, List.setIfInBounds_toArray, List.set_cons_zero, List.set_cons_succ]
            refine take_at (i := 7) (v := .pointer (some ⟨b, 0, none⟩)) rfl rfl (by kernel_rfl) (by kernel_rfl) (by kernel_rfl) (fun _ _ _ h => h) (Or.inl ⟨by rfl, fun X _ => by go_simp⟩) hHeld ?_
            try simp only [Act.put, List.setIfInBounds_toArray, List.set_cons_zero, List.set_cons_succ]
            refine take_at (i := 8) (v := .agg #[.int .i64 am, .int .i64 al, .int .i64 as']) rfl rfl (by kernel_rfl) (by kernel_rfl) (by kernel_rfl) (fun _ _ _ h => h) (Or.inl ⟨by rfl, fun X hX => by obtain ⟨k0, k1, k2, k3⟩ := (hRK9.out.call hX).R.cells; simp only at k0 k1 k2 k3; go_simp⟩) hHeld ?_
            try simp only [Act.put, List.setIfInBounds_toArray, List.set_cons_zero, List.set_cons_succ]
            refine take_at (i := 10) (v := .pointer (some ⟨gr, 6, none⟩)) rfl rfl (by kernel_rfl) (by kernel_rfl) (by kernel_rfl) (fun _ _ _ h => h) (Or.inl ⟨by rfl, fun X _ => by go_simp⟩) hHeld ?_
            try simp only [Act.put, List.setIfInBounds_toArray, List.set_cons_zero, List.set_cons_succ]
            refine take_at (i := 11) (v := .int .i64 am) rfl rfl (by kernel_rfl) (by kernel_rfl) (by kernel_rfl) (fun _ _ _ h => h) (Or.inl ⟨by rfl, fun X hX => by have k6 := wk_at6 (hRK9.out.call hX).K; (try simp only at k6); go_simp⟩) hHeld ?_
            try simp only [Act.put, List.setIfInBounds_toArray, List.set_cons_zero, List.set_cons_succ]
            refine wpAnyH_ready (rs := [9]) (by kernel_rfl) (by simp) ?_
            refine AllReadyH.cons rfl (fun K hK => ?_) AllReadyH.nil
            rw [if_pos (by rfl)]
            go_wp2_with fail
            refine (mark_is am al as' _).mono ?_
            rintro e Y2 ⟨rfl, hb⟩
            have hHb := below_call hHeld hb
            clear hHeld hb
            go_wp2_with fail
            refine hK.out _ _ (hHb) (fun hHeld => ?_)
            clear hK K hHb
            try simp only [Act.put, List.setIfInBounds_toArray, List.set_cons_zero, List.set_cons_succ]
            refine take_at (i := 12) (v := .bool false) rfl rfl (by kernel_rfl) (by kernel_rfl) (by kernel_rfl) (fun _ _ _ h => h) (Or.inl ⟨by rfl, fun X _ => by go_simp⟩) hHeld ?_
            try simp only [Act.put, List.setIfInBounds_toArray, List.set_cons_zero, List.set_cons_succ]
            refine take_at (i := 13) (v := .bool false) rfl rfl (by kernel_rfl) (by kernel_rfl) (by kernel_rfl) (fun _ _ _ h => h) (Or.inl ⟨by rfl, fun X _ => by go_simp⟩) hHeld ?_
            try simp only [Act.put, List.setIfInBounds_toArray, List.set_cons_zero, List.set_cons_succ]
            refine take_at (i := 14) (v := .bool false) rfl rfl (by kernel_rfl) (by kernel_rfl) (by kernel_rfl) (fun _ _ _ h => h) (Or.inl ⟨by rfl, fun X _ => by go_simp⟩) hHeld ?_
            try simp only [Act.put, List.setIfInBounds_toArray, List.set_cons_zero, List.set_cons_succ]
            refine take_at (i := 15) (v := .pointer (some ⟨b, 0, none⟩)) rfl rfl (by kernel_rfl) (by kernel_rfl) (by kernel_rfl) (fun _ _ _ h => h) (Or.inl ⟨by rfl, fun X _ => by go_simp⟩) hHeld ?_
            try simp only [Act.put, List.setIfInBounds_toArray, List.set_cons_zero, List.set_cons_succ]
            refine take_at (i := 16) (v := .pointer (some ⟨b, 0, none⟩)) rfl rfl (by kernel_rfl) (by kernel_rfl) (by kernel_rfl) (fun _ _ _ h => h) (Or.inl ⟨by rfl, fun X _ => by go_simp⟩) hHeld ?_
            try simp only [Act.put, List.setIfInBounds_toArray, List.set_cons_zero, List.set_cons_succ]
            refine take_at (i := 17) (v := .pointer (some ⟨b, 0, none⟩)) rfl rfl (by kernel_rfl) (by kernel_rfl) (by kernel_rfl) (fun _ _ _ h => h) (Or.inl ⟨by rfl, fun X _ => by go_simp⟩) hHeld ?_
            try simp only [Act.put, List.setIfInBounds_toArray, List.set_cons_zero, List.set_cons_succ]
            refine take_at (i := 18) (v := .agg #[.int .i64 am, .int .i64 al, .int .i64 as']) rfl rfl (by kernel_rfl) (by kernel_rfl) (by kernel_rfl) (fun _ _ _ h => h) (Or.inl ⟨by rfl, fun X hX => by obtain ⟨k0, k1, k2, k3⟩ := (hRK9.out.call hX).R.cells; simp only at k0 k1 k2 k3; go_simp⟩) hHeld ?_
            try simp only [Act.put, List.setIfInBounds_toArray, List.set_cons_zero, List.set_cons_succ]
            refine take_at (i := 20) (v := .pointer (some ⟨gr, 7, none⟩)) rfl rfl (by kernel_rfl) (by kernel_rfl) (by kernel_rfl) (fun _ _ _ h => h) (Or.inl ⟨by rfl, fun X _ => by go_simp⟩) hHeld ?_
            try simp only [Act.put, List.setIfInBounds_toArray, List.set_cons_zero, List.set_cons_succ]
            refine take_at (i := 21) (v := .int .i64 al) rfl rfl (by kernel_rfl) (by kernel_rfl) (by kernel_rfl) (fun _ _ _ h => h) (Or.inl ⟨by rfl, fun X hX => by have k7 := wk_at7 (hRK9.out.call hX).K; (try simp only at k7); go_simp⟩) hHeld ?_
            try simp only [Act.put, List.setIfInBounds_toArray, List.set_cons_zero, List.set_cons_succ]
            refine wpAnyH_ready (rs := [19]) (by kernel_rfl) (by simp) ?_
            refine AllReadyH.cons rfl (fun K hK => ?_) AllReadyH.nil
            rw [if_pos (by rfl)]
            go_wp2_with fail
            refine (late_is am al as' _).mono ?_
            rintro e Y3 ⟨rfl, hb⟩
            have hHb := below_call hHeld hb
            clear hHeld hb
            go_wp2_with fail
            refine hK.out _ _ (hHb) (fun hHeld => ?_)
            clear hK K hHb
            try simp only [Act.put, List.setIfInBounds_toArray, List.set_cons_zero, List.set_cons_succ]
            refine take_at (i := 22) (v := .bool false) rfl rfl (by kernel_rfl) (by kernel_rfl) (by kernel_rfl) (fun _ _ _ h => h) (Or.inl ⟨by rfl, fun X _ => by go_simp⟩) hHeld ?_
            try simp only [Act.put, List.setIfInBounds_toArray, List.set_cons_zero, List.set_cons_succ]
            refine take_at (i := 23) (v := .bool false) rfl rfl (by kernel_rfl) (by kernel_rfl) (by kernel_rfl) (fun _ _ _ h => h) (Or.inl ⟨by rfl, fun X _ => by go_simp⟩) hHeld ?_
            try simp only [Act.put, List.setIfInBounds_toArray, List.set_cons_zero, List.set_cons_succ]
            refine take_at (i := 24) (v := .bool false) rfl rfl (by kernel_rfl) (by kernel_rfl) (by kernel_rfl) (fun _ _ _ h => h) (Or.inl ⟨by rfl, fun X _ => by go_simp⟩) hHeld ?_
            try simp only [Act.put, List.setIfInBounds_toArray, List.set_cons_zero, List.set_cons_succ]
            refine take_at (i := 25) (v := .pointer (some ⟨b, 0, none⟩)) rfl rfl (by kernel_rfl) (by kernel_rfl) (by kernel_rfl) (fun _ _ _ h => h) (Or.inl ⟨by rfl, fun X _ => by go_simp⟩) hHeld ?_
            try simp only [Act.put, List.setIfInBounds_toArray, List.set_cons_zero, List.set_cons_succ]
            refine take_at (i := 26) (v := .pointer (some ⟨b, 0, none⟩)) rfl rfl (by kernel_rfl) (by kernel_rfl) (by kernel_rfl) (fun _ _ _ h => h) (Or.inl ⟨by rfl, fun X _ => by go_simp⟩) hHeld ?_
            try simp only [Act.put, List.setIfInBounds_toArray, List.set_cons_zero, List.set_cons_succ]
            refine take_at (i := 27) (v := .pointer (some ⟨b, 0, none⟩)) rfl rfl (by kernel_rfl) (by kernel_rfl) (by kernel_rfl) (fun _ _ _ h => h) (Or.inl ⟨by rfl, fun X _ => by go_simp⟩) hHeld ?_
            try simp only [Act.put, List.setIfInBounds_toArray, List.set_cons_zero, List.set_cons_succ]
            refine take_at (i := 28) (v := .agg #[.int .i64 am, .int .i64 al, .int .i64 as']) rfl rfl (by kernel_rfl) (by kernel_rfl) (by kernel_rfl) (fun _ _ _ h => h) (Or.inl ⟨by rfl, fun X hX => by obtain ⟨k0, k1, k2, k3⟩ := (hRK9.out.call hX).R.cells; simp only at k0 k1 k2 k3; go_simp⟩) hHeld ?_
            try simp only [Act.put, List.setIfInBounds_toArray, List.set_cons_zero, List.set_cons_succ]
            refine take_at (i := 30) (v := .pointer (some ⟨gr, 8, none⟩)) rfl rfl (by kernel_rfl) (by kernel_rfl) (by kernel_rfl) (fun _ _ _ h => h) (Or.inl ⟨by rfl, fun X _ => by go_simp⟩) hHeld ?_
            try simp only [Act.put, List.setIfInBounds_toArray, List.set_cons_zero, List.set_cons_succ]
            refine take_at (i := 31) (v := .int .i64 as') rfl rfl (by kernel_rfl) (by kernel_rfl) (by kernel_rfl) (fun _ _ _ h => h) (Or.inl ⟨by rfl, fun X hX => by have k8 := wk_at8 (hRK9.out.call hX).K; (try simp only at k8); go_simp⟩) hHeld ?_
            try simp only [Act.put, List.setIfInBounds_toArray, List.set_cons_zero, List.set_cons_succ]
            refine wpAnyH_ready (rs := [29]) (by kernel_rfl) (by simp) ?_
            refine AllReadyH.cons rfl (fun K hK => ?_) AllReadyH.nil
            rw [if_pos (by rfl)]
            go_wp2_with fail
            refine (seen_is am al as' _).mono ?_
            rintro e Y4 ⟨rfl, hb⟩
            have hHb := below_call hHeld hb
            clear hHeld hb
            go_wp2_with fail
            refine hK.out _ _ (hHb) (fun hHeld => ?_)
            clear hK K hHb
            try simp only [Act.put, List.setIfInBounds_toArray, List.set_cons_zero, List.set_cons_succ]
            refine take_at (i := 32) (v := .bool false) rfl rfl (by kernel_rfl) (by kernel_rfl) (by kernel_rfl) (fun _ _ _ h => h) (Or.inl ⟨by rfl, fun X _ => by go_simp⟩) hHeld ?_
            try simp only [Act.put, List.setIfInBounds_toArray, List.set_cons_zero, List.set_cons_succ]
            refine take_at (i := 33) (v := .bool false) rfl rfl (by kernel_rfl) (by kernel_rfl) (by kernel_rfl) (fun _ _ _ h => h) (Or.inl ⟨by rfl, fun X _ => by go_simp⟩) hHeld ?_
            try simp only [Act.put, List.setIfInBounds_toArray, List.set_cons_zero, List.set_cons_succ]
            refine take_at (i := 34) (v := .bool false) rfl rfl (by kernel_rfl) (by kernel_rfl) (by kernel_rfl) (fun _ _ _ h => h) (Or.inl ⟨by rfl, fun X _ => by go_simp⟩) hHeld ?_
            try simp only [Act.put, List.setIfInBounds_toArray, List.set_cons_zero, List.set_cons_succ]
            refine take_at (i := 35) (v := .pointer (some ⟨b, 0, none⟩)) rfl rfl (by kernel_rfl) (by kernel_rfl) (by kernel_rfl) (fun _ _ _ h => h) (Or.inl ⟨by rfl, fun X _ => by go_simp⟩) hHeld ?_
            try simp only [Act.put, List.setIfInBounds_toArray, List.set_cons_zero, List.set_cons_succ]
            refine take_at (i := 36) (v := .pointer (some ⟨b, 0, none⟩)) rfl rfl (by kernel_rfl) (by kernel_rfl) (by kernel_rfl) (fun _ _ _ h => h) (Or.inl ⟨by rfl, fun X _ => by go_simp⟩) hHeld ?_
            try simp only [Act.put, List.setIfInBounds_toArray, List.set_cons_zero, List.set_cons_succ]
            refine take_at (i := 37) (v := .pointer (some ⟨b, 3, none⟩)) rfl rfl (by kernel_rfl) (by kernel_rfl) (by kernel_rfl) (fun _ _ _ h => h) (Or.inl ⟨by rfl, fun X _ => by go_simp⟩) hHeld ?_
            try simp only [Act.put, List.setIfInBounds_toArray, List.set_cons_zero, List.set_cons_succ]
            refine take_at (i := 38) (v := .pointer (some ⟨q, 0, none⟩)) rfl rfl (by kernel_rfl) (by kernel_rfl) (by kernel_rfl) (fun _ _ _ h => h) (Or.inl ⟨by rfl, fun X hX => by obtain ⟨k0, k1, k2, k3⟩ := (hRK9.out.call hX).R.cells; simp only at k0 k1 k2 k3; go_simp⟩) hHeld ?_
            try simp only [Act.put, List.setIfInBounds_toArray, List.set_cons_zero, List.set_cons_succ]
            refine take_at (i := 40) (v := .pointer (some ⟨gr, 9, none⟩)) rfl rfl (by kernel_rfl) (by kernel_rfl) (by kernel_rfl) (fun _ _ _ h => h) (Or.inl ⟨by rfl, fun X _ => by go_simp⟩) hHeld ?_
            try simp only [Act.put, List.setIfInBounds_toArray, List.set_cons_zero, List.set_cons_succ]
            refine take_at (i := 41) (v := .pointer (some ⟨gr, 12, none⟩)) rfl rfl (by kernel_rfl) (by kernel_rfl) (by kernel_rfl) (fun _ _ _ h => h) (Or.inl ⟨by rfl, fun X _ => by go_simp⟩) hHeld ?_
            try simp only [Act.put, List.setIfInBounds_toArray, List.set_cons_zero, List.set_cons_succ]
            refine take_at (i := 42) (v := .slice xa L.length xc) rfl rfl (by kernel_rfl) (by kernel_rfl) (by kernel_rfl) (fun _ _ _ h => h) (Or.inl ⟨by rfl, fun X hX => by have k12 := wk_at12 (hRK9.out.call hX).K; (try simp only at k12); go_simp⟩) hHeld ?_
            try simp only [Act.put, List.setIfInBounds_toArray, List.set_cons_zero, List.set_cons_succ]
            refine take_at (i := 43) (v := .int .i64 ((L.length : Nat) : Int)) rfl rfl (by kernel_rfl) (by kernel_rfl) (by kernel_rfl) (fun _ _ _ h => h) (Or.inl ⟨by rfl, fun X _ => by go_simp⟩) hHeld ?_
            try simp only [Act.put, List.setIfInBounds_toArray, List.set_cons_zero, List.set_cons_succ]
            refine wpAnyH_ready (rs := [39]) (by kernel_rfl) (by simp) ?_
            refine AllReadyH.cons rfl (fun K hK => ?_) AllReadyH.nil
            rw [if_pos (by rfl)]
            go_wp2_with fail
            refine (len_b q o2 pn ps pa L _ (hRK9.out.call hHeld).R.pan).mono ?_
            rintro e Y5 ⟨rfl, hb⟩
            have hHb := below_call hHeld hb
            clear hHeld hb
            go_wp2_with fail
            refine hK.out _ _ (hHb) (fun hHeld => ?_)
            clear hK K hHb
            try simp only [Act.put, List.setIfInBounds_toArray, List.set_cons_zero, List.set_cons_succ]
            refine take_at (i := 44) (v := .bool false) rfl rfl (by kernel_rfl) (by kernel_rfl) (by kernel_rfl) (fun _ _ _ h => h) (Or.inl ⟨by rfl, fun X _ => by go_simp⟩) hHeld ?_
            try simp only [Act.put, List.setIfInBounds_toArray, List.set_cons_zero, List.set_cons_succ]
            refine take_at (i := 45) (v := .bool false) rfl rfl (by kernel_rfl) (by kernel_rfl) (by kernel_rfl) (fun _ _ _ h => h) (Or.inl ⟨by rfl, fun X _ => by go_simp⟩) hHeld ?_
            try simp only [Act.put, List.setIfInBounds_toArray, List.set_cons_zero, List.set_cons_succ]
            refine take_at (i := 46) (v := .bool false) rfl rfl (by kernel_rfl) (by kernel_rfl) (by kernel_rfl) (fun _ _ _ h => h) (Or.inl ⟨by rfl, fun X _ => by go_simp⟩) hHeld ?_
            try simp only [Act.put, List.setIfInBounds_toArray, List.set_cons_zero, List.set_cons_succ]
            refine take_at (i := 47) (v := .slice oa L.length oc) rfl rfl (by kernel_rfl) (by kernel_rfl) (by kernel_rfl) (fun _ _ _ h => h) (Or.inl ⟨by rfl, fun X _ => by go_simp⟩) hHeld ?_
            try simp only [Act.put, List.setIfInBounds_toArray, List.set_cons_zero, List.set_cons_succ]
            refine take_at (i := 48) (v := .int .i64 ((L.length : Nat) : Int)) rfl rfl (by kernel_rfl) (by kernel_rfl) (by kernel_rfl) (fun _ _ _ h => h) (Or.inl ⟨by rfl, fun X _ => by go_simp⟩) hHeld ?_
            try simp only [Act.put, List.setIfInBounds_toArray, List.set_cons_zero, List.set_cons_succ]
            refine take_at (i := 49) (v := .pointer (some ⟨gr, 9, none⟩)) rfl rfl (by kernel_rfl) (by kernel_rfl) (by kernel_rfl) (fun _ _ _ h => h) (Or.inl ⟨by rfl, fun X _ => by go_simp⟩) hHeld ?_
            try simp only [Act.put, List.setIfInBounds_toArray, List.set_cons_zero, List.set_cons_succ]
            refine take_at (i := 50) (v := .pointer (some ⟨gr, 12, none⟩)) rfl rfl (by kernel_rfl) (by kernel_rfl) (by kernel_rfl) (fun _ _ _ h => h) (Or.inl ⟨by rfl, fun X _ => by go_simp⟩) hHeld ?_
            try simp only [Act.put, List.setIfInBounds_toArray, List.set_cons_zero, List.set_cons_succ]
            refine take_at (i := 51) (v := .slice xa L.length xc) rfl rfl (by kernel_rfl) (by kernel_rfl) (by kernel_rfl) (fun _ _ _ h => h) (Or.inl ⟨by rfl, fun X hX => by have k12 := wk_at12 (hRK9.out.call hX).K; (try simp only at k12); go_simp⟩) hHeld ?_
            try simp only [Act.put, List.setIfInBounds_toArray, List.set_cons_zero, List.set_cons_succ]
            refine take_at (i := 52) (v := .int .i64 ((L.length : Nat) : Int)) rfl rfl (by kernel_rfl) (by kernel_rfl) (by kernel_rfl) (fun _ _ _ h => h) (Or.inl ⟨by rfl, fun X _ => by go_simp⟩) hHeld ?_
            try simp only [Act.put, List.setIfInBounds_toArray, List.set_cons_zero, List.set_cons_succ]
            refine take_at (i := 53) (v := .bool false) rfl rfl (by kernel_rfl) (by kernel_rfl) (by kernel_rfl) (fun _ _ _ h => h) (Or.inl ⟨by rfl, fun X _ => by go_simp⟩) hHeld ?_
            try simp only [Act.put, List.setIfInBounds_toArray, List.set_cons_zero, List.set_cons_succ]
            refine take_at (i := 54) (v := .bool false) rfl rfl (by kernel_rfl) (by kernel_rfl) (by kernel_rfl) (fun _ _ _ h => h) (Or.inl ⟨by rfl, fun X _ => by go_simp⟩) hHeld ?_
            try simp only [Act.put, List.setIfInBounds_toArray, List.set_cons_zero, List.set_cons_succ]
            refine wpAnyH_done (by kernel_rfl) ?_ _
            go_wp2_with fail
            go_meet
            exact ⟨rfl, hHeld⟩
          case rest =>
            obtain ⟨rfl, hbW⟩ := hcut
            have hRKc : Hid _ := hRK9.out.call hbW.out
            clear hRK9 hT9 hD9 hbW
            obtain ⟨W10, hW10⟩ : ∃ X, X = wc := ⟨_, rfl⟩
            subst hW10
            have hRK10 : Hid (RK w W10 g0 gp gr W0.heap.size (.slice ua os.length uc) ⟨os, pn, ps, pa, pk, pf⟩ b q o2 g ⟨am, al, as', L⟩ ⟨am, al, as', L⟩ (.slice xa L.length xc) qj (.slice (some ⟨qj, off, none⟩) M jc) js) := hRKc
            clear hRKc
            go_upto_region 19 with fail
            by_cases htwin : ((j : Nat) : Int) = tw
            · have hls' : Hid ((0 ≤ al ∧ al ≤ 900) ∧ (0 ≤ as' ∧ as' ≤ 900)) := by
                have h := all_counts ⟨os, pn, ps, pa, pk, pf⟩ (js.take (j + 1)) r0
                rw [hst'.out, List.length_take] at h
                have z1 : r0.l = 0 := rfl
                have z2 : r0.s = 0 := rfl
                simp only at h
                have hm := hM.out
                exact ⟨⟨by omega, by omega⟩, ⟨by omega, by omega⟩⟩
              go_wp2_with fail
              refine (twin_is b q o2 g ⟨os, pn, ps, pa, pk, pf⟩ ⟨am, al, as', L⟩ _ hRK10.out.R (by have := hLl'.out; simp only; omega) (small_new hS'.out).2.1).mono ?_
              rintro e W12 ⟨b', q', o', g', rfl, hRt, z1, z2, z3, z4, b12⟩
              have hRK12 : Hid (RK w W12 g0 gp gr W0.heap.size (.slice ua os.length uc) ⟨os, pn, ps, pa, pk, pf⟩ b' q' o' g' ⟨am, al, as', L⟩ ⟨am, al, as', L⟩ (.slice xa L.length xc) qj (.slice (some ⟨qj, off, none⟩) M jc) js) := hRK10.out.twin hRt b12 z1 z2 z3 z4
              have hRo : Hid (Rnr W12 b q o2 g ⟨os, pn, ps, pa, pk, pf⟩ ⟨am, al, as', L⟩) := hRK10.out.R.below b12
              have hxa : Hid _ := own_panes_apart hRK10.out.xo hRK10.out.R
              have hzo := hRK10.out.zs
              have hgo := hRK10.out.gn
              have hqo := hRK10.out.qn
              obtain ⟨n1, n2, n3, n4⟩ := hRK10.out.R.lt
              have hb12 : W10.heap.size ≤ W12.heap.size := b12.size
              obtain ⟨e0, e1, e2, e3⟩ := hRt.cells
              simp only at e0 e1 e2 e3
              clear hRK10 hRt b12
              go_wp2_with fail
              refine (at_in 5 5 _).mono ?_
              rintro e W13 ⟨rfl, b13⟩
              have hRK13 : Hid (RK w W13 g0 gp gr W0.heap.size (.slice ua os.length uc) ⟨os, pn, ps, pa, pk, pf⟩ b' q' o' g' ⟨am, al, as', L⟩ ⟨am, al, as', L⟩ (.slice xa L.length xc) qj (.slice (some ⟨qj, off, none⟩) M jc) js) := hRK12.out.call b13
              have hRo3 : Hid (Rnr W13 b q o2 g ⟨os, pn, ps, pa, pk, pf⟩ ⟨am, al, as', L⟩) := hRo.out.below b13
              have hb13 := b13.size
              clear hRK12 hRo b13 e0 e1 e2 e3
              go_wp2_with fail
              refine (mark_in 1073741824 _).mono ?_
              rintro e W14 ⟨rfl, b14⟩
              have hRK14 : Hid (RK w W14 g0 gp gr W0.heap.size (.slice ua os.length uc) ⟨os, pn, ps, pa, pk, pf⟩ b' q' o' g' ⟨am, al, as', L⟩ ⟨am, al, as', L⟩ (.slice xa L.length xc) qj (.slice (some ⟨qj, off, none⟩) M jc) js) := hRK13.out.call b14
              have hRo4 : Hid (Rnr W14 b q o2 g ⟨os, pn, ps, pa, pk, pf⟩ ⟨am, al, as', L⟩) := hRo3.out.below b14
              have hb14 := b14.size
              clear hRK13 hRo3 b14
              go_wp2_with fail
              have hIn : Hid (RdI (W14.alloc (.cells (ins [⟨false, ⟨5, 0, 5, 1⟩⟩, ⟨true, ⟨1073741824, 0, 0, 0⟩⟩]).toArray 71)) (.slice (some ⟨W14.heap.size, 0, none⟩) 2 2) W14.heap.size [⟨false, ⟨5, 0, 5, 1⟩⟩, ⟨true, ⟨1073741824, 0, 0, 0⟩⟩]) := rdi_lit W14 [⟨false, ⟨5, 0, 5, 1⟩⟩, ⟨true, ⟨1073741824, 0, 0, 0⟩⟩] (by decide) (by decide)
              obtain ⟨⟨ol1, ol2⟩, ⟨os1, os2⟩⟩ : (0 ≤ al ∧ al ≤ 900) ∧ (0 ≤ as' ∧ as' ≤ 900) := hls'.out
              refine (rtake_is b q o2 g ⟨os, pn, ps, pa, pk, pf⟩ ⟨am, al, as', L⟩ _ W14.heap.size _ _ (hRo4.out.below (below_alloc _ _)) hIn.out (by omega) (by omega) (by omega) (by have := hLl'.out; simp only [List.length_cons, List.length_nil]; omega) ⟨ol1, by simp only [List.length_cons, List.length_nil]; omega⟩ ⟨os1, by simp only [List.length_cons, List.length_nil]; omega⟩).mono ?_
              rintro e W15 ⟨tu2, o3, rfl, _, _, _, hc15⟩
              have hRK15 : Hid (RK w W15 g0 gp gr W0.heap.size (.slice ua os.length uc) ⟨os, pn, ps, pa, pk, pf⟩ b' q' o' g' ⟨am, al, as', L⟩ ⟨am, al, as', L⟩ (.slice xa L.length xc) qj (.slice (some ⟨qj, off, none⟩) M jc) js) := (hRK14.out.call (below_alloc _ _)).other hc15 hxa.out ⟨hzo.1, hzo.2.1, hzo.2.2.1⟩ ⟨hgo.1, hgo.2.1, hgo.2.2.1⟩ hqo ⟨by omega, by omega, by omega⟩ ⟨by omega, by omega, by omega⟩ ⟨by omega, by omega, by omega⟩ ⟨by omega, by omega, by omega⟩
              clear hRK14 hRo4 hIn hc15 hxa
              go_wp2_with fail
              go_roundw
              case rel => exact ⟨j + 1, b', q', o', g', ⟨am, al, as', L⟩, _, by omega, rfl, by go_num, hst', hRK15.out.R, hRK15.out.K, hRK15.out.xo, hRK15.out.P, hRK15.out.O, hRK15.out.I, hRK15.out.B, hRK15.out.zs, hRK15.out.gn, hRK15.out.qn, hRK15.out.zz⟩
              case measure => simp [intOf]; omega
            · go_wp2_with fail
              go_roundw
              case rel => exact ⟨j + 1, b, q, o2, g, ⟨am, al, as', L⟩, _, by omega, rfl, by go_num, hst', hRK10.out.R, hRK10.out.K, hRK10.out.xo, hRK10.out.P, hRK10.out.O, hRK10.out.I, hRK10.out.B, hRK10.out.zs, hRK10.out.gn, hRK10.out.qn, hRK10.out.zz⟩
              case measure => simp [intOf]; omega
        · obtain rfl : M = j := by omega
          obtain ⟨e0, e1, e2, e3, e4, e5⟩ : _ ∧ _ ∧ _ ∧ _ ∧ _ ∧ _ := ⟨hP.out.c0, hP.out.c1, hP.out.c2, hP.out.c3, hP.out.c4, hP.out.c5⟩
          clear hst hWk hx hI hgn hqn
          go_upto_region 28 with fail
          refine world_gen (fun V => Hid (Pik V wr.heap.size (.slice ua os.length uc) pn 0 pa pk pf) ∧ Hid (Rnr V b q o g ⟨os, pn, ps, pa, pk, pf⟩ r) ∧ Hid (Pik V gp (.slice ua os.length uc) pn ps pa pk pf) ∧ Hid (OpsIn V (.slice ua os.length uc) os) ∧ Hid (Below g0 w V)) ⟨O.pik_new _ _ _ _ _ _ _, hRn.out.below (below_alloc _ _), hP.out.call (below_alloc _ _), hO.out.below (below_alloc _ _), hB.out.trans ((below_alloc _ _).mono (by have := hg0z'.out; omega))⟩ ?_
          rintro V ⟨hP28, hRv, hPv, hOv, hBv⟩
          obtain ⟨gb, hgb⟩ : ∃ x, Hid (wr.heap.size = x) := ⟨_, rfl⟩
          rw [hgb.out] at hP28 ⊢
          clear hRn hP hO hB hgb e0 e1 e2 e3 e4 e5
          obtain ⟨u, k1, _, k3, _⟩ := hRv.out
          obtain ⟨va, vl, vc, rfl⟩ := k3.form
          have hk1 : Hid (Rnk V b r.m r.l r.s q (.slice va vl vc) pn ps pa pk pf) := k1
          have hk3 : Hid (OpsIn V (.slice va vl vc) os) := k3
          have hblt : b < V.heap.size := k1.lt
          clear k1 k3 hRv
          have hbad : Hid (rightP ⟨os, pn, 0, pa, pk, pf⟩ = false) := by
            have h : rightP ⟨os, pn, 0, pa, pk, pf⟩ = false := by simp [O.MO.rightP, rightB]
            exact h
          have hzw : g0 ≤ V.heap.size := Nat.le_trans (Nat.le_of_eq hg0.out.symm) hBv.out.size
          refine wp_region_held_drew (S := fun X => Below V.heap.size V X) (by kernel_rfl) (Below.refl _ _).drew (fun hHeld => ?_)
          generalize V.drew = V0 at hHeld ⊢
          refine take_at (i := 0) (v := .agg #[.slice ua os.length uc, .int .i64 pn, .int .i64 0, .int .i64 pa, .int .i64 pk, .int .i64 pf]) rfl rfl (by kernel_rfl) (by kernel_rfl) (by kernel_rfl) (fun _ _ _ h => h) (Or.inl ⟨by rfl, fun X hX => by have h := hP28.out.call hX; have c0 := h.c0; have c1 := h.c1; have c2 := h.c2; have c3 := h.c3; have c4 := h.c4; have c5 := h.c5; go_simp⟩) hHeld ?_
          try simp only [Act.put, List.setIfInBounds_toArray, List.set_cons_zero, List.set_cons_succ]
          refine wpAnyH_ready (rs := [1]) (by kernel_rfl) (by simp) ?_
          refine AllReadyH.cons rfl (fun K hK => ?_) AllReadyH.nil
          rw [if_pos (by rfl)]
          go_wp2_with fail
          refine (new_no (.slice ua os.length uc) os pn 0 pa pk pf _ (hOv.out.below hHeld) hbad.out).mono ?_
          rintro e Y1 ⟨rfl, hb⟩
          have hHb := below_call hHeld hb
          clear hHeld hb
          go_wp2_with fail
          refine hK.out _ _ (hHb) (fun hHeld => ?_)
          clear hK K hHb
          try simp only [Act.put, List.setIfInBounds_toArray, List.set_cons_zero, List.set_cons_succ]
          refine take_at (i := 2) (v := .bool true) rfl rfl (by kernel_rfl) (by kernel_rfl) (by kernel_rfl) (fun _ _ _ h => h) (Or.inl ⟨by rfl, fun X _ => by go_simp⟩) hHeld ?_
          try simp only [Act.put, List.setIfInBounds_toArray, List.set_cons_zero, List.set_cons_succ]
          refine take_at (i := 3) (v := .bool true) rfl rfl (by kernel_rfl) (by kernel_rfl) (by kernel_rfl) (fun _ _ _ h => h) (Or.inl ⟨by rfl, fun X _ => by go_simp⟩) hHeld ?_
          try simp only [Act.put, List.setIfInBounds_toArray, List.set_cons_zero, List.set_cons_succ]
          refine take_at (i := 4) (v := .pointer (some ⟨b, 0, none⟩)) rfl rfl (by kernel_rfl) (by kernel_rfl) (by kernel_rfl) (fun _ _ _ h => h) (Or.inl ⟨by rfl, fun X _ => by go_simp⟩) hHeld ?_
          try simp only [Act.put, List.setIfInBounds_toArray, List.set_cons_zero, List.set_cons_succ]
          refine take_at (i := 5) (v := .pointer (some ⟨b, 0, none⟩)) rfl rfl (by kernel_rfl) (by kernel_rfl) (by kernel_rfl) (fun _ _ _ h => h) (Or.inl ⟨by rfl, fun X _ => by go_simp⟩) hHeld ?_
          try simp only [Act.put, List.setIfInBounds_toArray, List.set_cons_zero, List.set_cons_succ]
          refine take_at (i := 6) (v := .pointer (some ⟨b, 4, none⟩)) rfl rfl (by kernel_rfl) (by kernel_rfl) (by kernel_rfl) (fun _ _ _ h => h) (Or.inl ⟨by rfl, fun X _ => by go_simp⟩) hHeld ?_
          try simp only [Act.put, List.setIfInBounds_toArray, List.set_cons_zero, List.set_cons_succ]
          refine take_at (i := 7) (v := .agg #[.slice va vl vc, .int .i64 pn, .int .i64 ps, .int .i64 pa, .int .i64 pk, .int .i64 pf]) rfl rfl (by kernel_rfl) (by kernel_rfl) (by kernel_rfl) (fun _ _ _ h => h) (Or.inl ⟨by rfl, fun X hX => by have h := hk1.out.keep (hX.block _ hblt); have c4 := h.c4; have c5 := h.c5; have c6 := h.c6; have c7 := h.c7; have c8 := h.c8; have c9 := h.c9; go_simp⟩) hHeld ?_
          try simp only [Act.put, List.setIfInBounds_toArray, List.set_cons_zero, List.set_cons_succ]
          refine take_at (i := 8) (v := .agg #[.slice ua os.length uc, .int .i64 pn, .int .i64 ps, .int .i64 pa, .int .i64 pk, .int .i64 pf]) rfl rfl (by kernel_rfl) (by kernel_rfl) (by kernel_rfl) (fun _ _ _ h => h) (Or.inl ⟨by rfl, fun X hX => by have h := hPv.out.call hX; have c0 := h.c0; have c1 := h.c1; have c2 := h.c2; have c3 := h.c3; have c4 := h.c4; have c5 := h.c5; go_simp⟩) hHeld ?_
          try simp only [Act.put, List.setIfInBounds_toArray, List.set_cons_zero, List.set_cons_succ]
          refine wpAnyH_ready (rs := [9]) (by kernel_rfl) (by simp) ?_
          refine AllReadyH.cons rfl (fun K hK => ?_) AllReadyH.nil
          rw [if_pos (by rfl)]
          go_wp2_with fail
          refine (O.pipes_is (.slice va vl vc) (.slice ua os.length uc) ⟨os, pn, ps, pa, pk, pf⟩ ⟨os, pn, ps, pa, pk, pf⟩ true _ (hk3.out.below hHeld).rd (hOv.out.below hHeld).rd (by simp)).mono ?_
          rintro e Y2 ⟨rfl, hb⟩
          have hHb := below_call hHeld hb
          clear hHeld hb
          go_wp2_with fail
          refine hK.out _ _ (hHb) (fun hHeld => ?_)
          clear hK K hHb
          try simp only [Act.put, List.setIfInBounds_toArray, List.set_cons_zero, List.set_cons_succ]
          refine take_at (i := 10) (v := .bool true) rfl rfl (by kernel_rfl) (by kernel_rfl) (by kernel_rfl) (fun _ _ _ h => h) (Or.inl ⟨by rfl, fun X _ => by go_simp⟩) hHeld ?_
          try simp only [Act.put, List.setIfInBounds_toArray, List.set_cons_zero, List.set_cons_succ]
          refine take_at (i := 11) (v := .bool true) rfl rfl (by kernel_rfl) (by kernel_rfl) (by kernel_rfl) (fun _ _ _ h => h) (Or.inl ⟨by rfl, fun X _ => by go_simp⟩) hHeld ?_
          try simp only [Act.put, List.setIfInBounds_toArray, List.set_cons_zero, List.set_cons_succ]
          refine wpAnyH_ready (rs := [12]) (by kernel_rfl) (by simp) ?_
          refine AllReadyH.cons rfl (fun K hK => ?_) AllReadyH.nil
          rw [if_pos (by rfl)]
          go_wp2_with fail
          refine (runs_is _).mono ?_
          rintro e Y3 ⟨rfl, hb⟩
          have hHb := below_call hHeld hb
          clear hHeld hb
          go_wp2_with fail
          refine hK.out _ _ (hHb) (fun hHeld => ?_)
          clear hK K hHb
          try simp only [Act.put, List.setIfInBounds_toArray, List.set_cons_zero, List.set_cons_succ]
          refine take_at (i := 13) (v := .bool true) rfl rfl (by kernel_rfl) (by kernel_rfl) (by kernel_rfl) (fun _ _ _ h => h) (Or.inl ⟨by rfl, fun X _ => by go_simp⟩) hHeld ?_
          try simp only [Act.put, List.setIfInBounds_toArray, List.set_cons_zero, List.set_cons_succ]
          refine take_at (i := 14) (v := .bool true) rfl rfl (by kernel_rfl) (by kernel_rfl) (by kernel_rfl) (fun _ _ _ h => h) (Or.inl ⟨by rfl, fun X _ => by go_simp⟩) hHeld ?_
          try simp only [Act.put, List.setIfInBounds_toArray, List.set_cons_zero, List.set_cons_succ]
          refine wpAnyH_done (by kernel_rfl) ?_ _
          go_wp2_with fail
          go_ret
          exact ⟨rfl, by have h := hg0.out; rw [h]; exact hBv.out.trans (hHeld.mono hzw)⟩
end Go.Proofs.Ytombgbdplafooaa
