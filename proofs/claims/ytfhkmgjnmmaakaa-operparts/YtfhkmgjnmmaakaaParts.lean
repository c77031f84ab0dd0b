/- The statement OperParts, for every memory. -/
import Derived.Test.YtfhkmgjnmmaakaaOwn
namespace Go.Proofs.Ytfhkmgjnmmaakaa
open Go.RowKit M

theorem run_parts (a b : List Oq) : ∀ e, run (a ++ b) e = match run a e with
    | (e', true) => run b e'
    | (_, false) => (zeroE, false) := by
  induction a with
  | nil => intro e; rfl
  | cons o r ih =>
    intro e
    have e1 : ∀ (o : Oq) (s : List Oq) (e : Ev), run (o :: s) e = match app o e with
      | (e', true) => run s e'
      | (_, false) => (zeroE, false) := fun _ _ _ => rfl
    rw [List.cons_append, e1, e1]
    rcases h : app o e with ⟨e', _ | _⟩
    · rfl
    · exact ih e'
theorem run_false (a : List Oq) : ∀ e, (run a e).2 = false → run a e = (zeroE, false) := by
  induction a with
  | nil => intro e h; cases h
  | cons o r ih =>
    intro e h
    unfold run at h ⊢
    rcases h2 : app o e with ⟨e', _ | _⟩
    · rfl
    · rw [h2] at h; exact ih e' h

theorem filt_twice (t k v l n : Int) : run [⟨4, n⟩, ⟨4, n⟩] ⟨t, k, v, l⟩ = run [⟨4, n⟩] ⟨t, k, v, l⟩ := by
  by_cases h : n < v <;> simp [run, app, h]
theorem filt_above (t k v l n : Int) : (run [⟨4, n⟩] ⟨t, k, v, l⟩).2 = decide (n < v) := by by_cases h : n < v <;> simp [run, app, h]
theorem filt_below (t k v l n : Int) : (run [⟨5, n⟩] ⟨t, k, v, l⟩).2 = decide (v < n) := by by_cases h : v < n <;> simp [run, app, h]
theorem add_back (t k v l n : Int) (h : I64 v) : run [⟨1, n⟩, ⟨1, wrap64 (-n)⟩] ⟨t, k, v, l⟩ = (⟨t, k, v, l⟩, true) := by
  have e : wrap64 (wrap64 (v + n) + wrap64 (-n)) = v := by obtain ⟨h1, h2⟩ := h; unfold wrap64; omega
  simp only [run, app, if_true, e]
theorem neg_le (n : Int) : wrap64 (-n) ≤ 9223372036854775807 := by unfold wrap64; omega

attribute [local go_sem ↓] Go.wp_at_zero Go.wp_at_succ
set_option maxHeartbeats 4000000 in
set_option maxRecDepth 100000 in
theorem parts_core (ao : Option Addr) (len cap : Nat) (os : List Oq) (t k v l cut n : Int) (w : World) (hrow : IsOps w ao len cap os) (hv : I64 v) (hn : I64 n) :
    Calls Try.prog 5 #[.slice ao len cap, evv t k v l, .int .i64 cut, .int .i64 n] w fun e w' => e = .returned (.bool true) ∧ Below w.heap.size w w' := by
  obtain ⟨i0, hi, hz0, hz1, hz2⟩ := info_parts Try.info28
  have hV : Hid (I64 v) := hv
  have hN : Hid (I64 n) := hn
  clear hv hn
  go_enter Try.func5, Try.ntmps5
  go_upto_region 1 with fail
  refine world_gen (fun W => Evk W w.heap.size ⟨t, k, v, l⟩ ∧ IsOps W ao len cap os ∧ Below w.heap.size w W) ⟨evk_new _ _ _ _ _, hrow.below (below_alloc _ _) (Nat.le_refl _), below_alloc _ _⟩ ?_
  clear hrow
  rintro W0 ⟨e0, hrow, h0⟩
  obtain ⟨g, hg⟩ : ∃ g, Hid (w.heap.size = g) := ⟨_, rfl⟩
  rw [hg.out] at e0 ⊢
  have hown0 := own_empty W0
  go_cut [9] (fun u wx => ∃ ns : List Oq, ∃ g cp : Nat, ns.length ≤ 8 ∧ (∀ x ∈ ns, x.n ≤ 9223372036854775807) ∧ u = .slice (some ⟨g, 0, none⟩) ns.length cp ∧ ns.length ≤ cp ∧ cp ≤ 9223372036854775807 ∧ wx.ownsRow W0.heap.size 28 2 (.slice (some ⟨g, 0, none⟩) ns.length cp) ns.length (opl ns) ∧ Below W0.heap.size W0 wx)
  case first =>
    rcases hrow with ⟨rfl, rfl, rfl, rfl⟩ | ⟨x, rfl, hlc, hcm, hzl, hcell, hwf⟩
    · go_wp2_with (at_builtin; refine wpList_append_own_none rfl _ _ 31 rfl W0.heap.size 28 i0 2 Try.underlying31 hi _ 0 [] rfl hown0 rfl ?_)
      go_meet
      exact ⟨[], _, 0, by simp, by simp, rfl, by simp, by simp, hown0, below_alloc _ _⟩
    · unfold maxLen at hcm
      obtain ⟨K, hK, hKz, hKe⟩ : ∃ K, K ≤ 8 ∧ K ≤ os.length ∧ ((len ≤ 8 ∧ K = len) ∨ (8 < len ∧ K = 8)) := by
        by_cases h20 : len ≤ 8
        · exact ⟨len, h20, by omega, .inl ⟨h20, rfl⟩⟩
        · exact ⟨8, by decide, by omega, .inr ⟨by omega, rfl⟩⟩
      obtain ⟨ns, hnl, hns, hul, hsrc⟩ := src_ops W0 (.cells #[] 28) x os K hKz hcell hwf
      clear hcell hwf
      rcases hKe with ⟨h20, rfl⟩ | ⟨h20, rfl⟩
      · go_wp2_with (at_builtin; refine wpList_append_own _ rfl _ _ 31 rfl W0.heap.size 28 i0 _ 2 16 Try.underlying31 hi hz0 hz1 hz2 rfl (by decide) _ 0 [] rfl hown0 x K cap (opl ns) rfl hul hsrc (opl_one ns) ?c3 ?c4 ?c5 ?_)
        case c3 => unfold maxLen; omega
        case c4 => omega
        case c5 => simp
        intro v' w1 hown' hgrow hnil
        go_wp2_with fail
        go_meet
        have hown1 : w1.ownsRow W0.heap.size 28 2 v' ns.length (opl ns) := by rw [hnl]; simpa using hown'
        obtain ⟨g, cp, rfl, g1, g2, _⟩ := own_form hown1 hnil
        refine ⟨ns, g, cp, by omega, hns, rfl, g1, g2, hown1, (below_alloc W0 _).grown hgrow (by simp) ?_⟩
        intro k hk; simp [Value.ownBlock] at hk; omega
      · go_wp2_with (at_builtin; refine wpList_append_own _ rfl _ _ 31 rfl W0.heap.size 28 i0 _ 2 16 Try.underlying31 hi hz0 hz1 hz2 rfl (by decide) _ 0 [] rfl hown0 x 8 cap (opl ns) rfl hul hsrc (opl_one ns) ?c3 ?c4 ?c5 ?_)
        case c3 => unfold maxLen; omega
        case c4 => omega
        case c5 => simp
        intro v' w1 hown' hgrow hnil
        go_wp2_with fail
        go_meet
        have hown1 : w1.ownsRow W0.heap.size 28 2 v' ns.length (opl ns) := by rw [hnl]; simpa using hown'
        obtain ⟨g, cp, rfl, g1, g2, _⟩ := own_form hown1 hnil
        refine ⟨ns, g, cp, by omega, hns, rfl, g1, g2, hown1, (below_alloc W0 _).grown hgrow (by simp) ?_⟩
        intro k hk; simp [Value.ownBlock] at hk; omega
  case rest =>
    obtain ⟨ns, go, cp, hn8, hns, rfl, hncp, hcp, hown, hbw⟩ := hcut
    clear hown0 hrow
    have e1 := e0.call hbw
    have h1 := bcall h0 hbw
    have hown' : Hid (wc.ownsRow W0.heap.size 28 2 (.slice (some ⟨go, 0, none⟩) ns.length cp) ns.length (opl ns)) := hown
    have hns' : Hid (∀ x ∈ ns, x.n ≤ 9223372036854775807) := hns
    clear hown hns e0 h0 hbw hi hz0 hz1 hz2 i0
    obtain ⟨N, hNl⟩ : ∃ N, Hid (N = ns.length) := ⟨_, rfl⟩
    have r0 : Hid (RdO wc (.slice (some ⟨go, 0, none⟩) N cp) ns) := by
      rw [hNl.out]; exact rd_part hown'.out hns'.out ns 0 0 ns.length cp (by omega) (fun j _ => by rw [Nat.zero_add]) (by omega) rfl hncp hcp (fun x h => h)
    rw [← hNl.out] at hn8 hncp ⊢
    go_wp2_with fail
    refine (within_any cut 0 N _ (by decide) (by omega) (by omega)).mono ?_
    rintro e w' ⟨⟨c, hc1, hc2, rfl⟩, he⟩
    obtain rfl := he.symm
    clear he
    obtain ⟨C, rfl⟩ := Int.eq_ofNat_of_zero_le hc1
    have hC : C ≤ N := by omega
    clear hc1 hc2
    have htl : (ns.take C).length = C := by rw [List.length_take]; have := hNl.out; omega
    have hdl : (ns.drop C).length = N - C := by rw [List.length_drop, hNl.out]
    have r1 : Hid (RdO wc (.slice (some ⟨go, 0, none⟩) C cp) (ns.take C)) := rd_part hown'.out hns'.out (ns.take C) 0 0 C cp (by have := hNl.out; omega) (take_part ns C) (by omega) htl (by omega) hcp (fun x h => List.mem_of_mem_take h)
    obtain ⟨off, cq, hsl, r2⟩ : ∃ off cq, Hid ((C = cp ∧ off = 0 ∧ cq = 0) ∨ (C < cp ∧ off = C * 2 ∧ cq = cp - C)) ∧ Hid (RdO wc (.slice (some ⟨go, off, none⟩) (N - C) cq) (ns.drop C)) := by
      by_cases hc : C = cp
      · exact ⟨0, 0, .inl ⟨hc, rfl, rfl⟩, rd_part hown'.out hns'.out (ns.drop C) C 0 (N - C) 0 (by have := hNl.out; omega) (drop_at ns C) (by omega) hdl (by omega) (by omega) (fun x h => List.mem_of_mem_drop h)⟩
      · exact ⟨C * 2, cp - C, .inr ⟨by omega, rfl, rfl⟩, rd_part hown'.out hns'.out (ns.drop C) C (C * 2) (N - C) (cp - C) (by have := hNl.out; omega) (drop_at ns C) (fun _ => rfl) hdl (by omega) (by omega) (fun x h => List.mem_of_mem_drop h)⟩
    clear hown' hns' htl hdl
    obtain ⟨⟨⟨xt, xk, xv, xl⟩, xi⟩, hX⟩ : ∃ P, Hid (run ns ⟨t, k, v, l⟩ = P) := ⟨_, rfl⟩
    obtain ⟨⟨⟨yt, yk, yv, yl⟩, yi⟩, hY⟩ : ∃ P, Hid (run (ns.take C) ⟨t, k, v, l⟩ = P) := ⟨_, rfl⟩
    have hXY := run_parts (ns.take C) (ns.drop C) ⟨t, k, v, l⟩
    rw [List.take_append_drop, hX.out, hY.out] at hXY
    have hXY' : Hid _ := hXY
    clear hXY
    have c0 := e1.c0
    have c1 := e1.c1
    have c2 := e1.c2
    have c3 := e1.c3
    simp only at c0 c1 c2 c3
    go_wp2_with fail
    refine (run_is t k v l _ ns (⟨xt, xk, xv, xl⟩, xi) _ r0.out hX.out).mono ?_
    rintro e w2 ⟨rfl, b2⟩
    have h2 := bcall h1 b2
    have e2 := e1.call b2
    have r1' : Hid (RdO w2 _ _) := r1.out.below b2 (Nat.le_refl _) b2.size
    have r2' : Hid (RdO w2 _ _) := r2.out.below b2 (Nat.le_refl _) b2.size
    clear r0 r1 r2 b2 h1 e1 c0 c1 c2 c3
    go_upto_region 4 with fail
    refine world_gen (fun W => Evk W g ⟨t, k, v, l⟩ ∧ Evk W w2.heap.size ⟨xt, xk, xv, xl⟩ ∧ Hid (RdO W (.slice (some ⟨go, 0, none⟩) C cp) (ns.take C)) ∧ Hid (RdO W (.slice (some ⟨go, off, none⟩) (N - C) cq) (ns.drop C)) ∧ Below w.heap.size w W) ⟨e2.alloc _, evk_new _ _ _ _ _, r1'.out.below (below_alloc _ _) (Nat.le_refl _) (by simp), r2'.out.below (below_alloc _ _) (Nat.le_refl _) (by simp), bnew h2 _⟩ ?_
    clear h2 e2 r1' r2'
    rintro V ⟨e2, x2, r1, r2, h2⟩
    generalize w2.heap.size = gx at x2 ⊢
    have hC0 : (0 : Int) ≤ C := by omega
    have hC1 : (C : Int) ≤ cp := by omega
    have hSV := ev_mk e2 (Below.refl _ _).drew
    go_cut [13, 14] (fun p q wx => q = .bool yi ∧ Below V.heap.size V wx ∧ ∃ gy, p = .pointer (some ⟨gy, 0, none⟩) ∧ Evk wx gy ⟨yt, yk, yv, yl⟩)
    case first =>
      refine wp_region_held_drew (S := fun w' => w'.cell? ⟨g, 0, none⟩ = some (.int .i64 t) ∧ w'.cell? ⟨g, 1, none⟩ = some (.int .i64 k) ∧ w'.cell? ⟨g, 2, none⟩ = some (.int .i64 v) ∧ w'.cell? ⟨g, 3, none⟩ = some (.int .u64 l) ∧ Below V.heap.size V w') (by kernel_rfl) hSV (fun hHeld => ?_)
      generalize V.drew = V1 at hSV hHeld ⊢
      refine take_at (i := 0) (v := evv t k v l) rfl rfl (by kernel_rfl) (by kernel_rfl) (by kernel_rfl) (fun _ _ _ h => h) (Or.inl ⟨by rfl, fun X hX => by obtain ⟨c0, c1, c2, c3, _⟩ := hX; go_simp⟩) hHeld ?_
      try simp only [Act.put, List.setIfInBounds_toArray, List.set_cons_zero, List.set_cons_succ]
      refine take_at (i := 1) (v := .slice (some ⟨go, 0, none⟩) N cp) rfl rfl (by kernel_rfl) (by kernel_rfl) (by kernel_rfl) (fun _ _ _ h => h) (Or.inl ⟨by rfl, fun X _ => by go_simp⟩) hHeld ?_
      try simp only [Act.put, List.setIfInBounds_toArray, List.set_cons_zero, List.set_cons_succ]
      refine take_at (i := 2) (v := .int .i64 (C : Int)) rfl rfl (by kernel_rfl) (by kernel_rfl) (by kernel_rfl) (fun _ _ _ h => h) (Or.inl ⟨by rfl, fun X _ => by go_simp⟩) hHeld ?_
      try simp only [Act.put, List.setIfInBounds_toArray, List.set_cons_zero, List.set_cons_succ]
      refine take_at (i := 3) (v := .slice (some ⟨go, 0, none⟩) C cp) rfl rfl (by kernel_rfl) (by kernel_rfl) (by kernel_rfl) (fun _ _ _ h => h) (Or.inl ⟨by rfl, fun X _ => by go_simp⟩) hHeld ?_
      try simp only [Act.put, List.setIfInBounds_toArray, List.set_cons_zero, List.set_cons_succ]
      refine wpAnyH_ready (rs := [4, 8]) (by kernel_rfl) (by simp) ?_
      refine AllReadyH.cons rfl (fun K hK => ?_) (AllReadyH.cons rfl (fun K hK => ?_) AllReadyH.nil)
      · rw [if_pos (by rfl)]
        go_wp2_with fail
        refine (run_is t k v l _ (ns.take C) (⟨yt, yk, yv, yl⟩, yi) _ (r1.out.below hSV.2.2.2.2 (Nat.le_refl _) hSV.2.2.2.2.size) hY.out).mono ?_
        rintro e V2 ⟨rfl, hb⟩
        go_wp2_with fail
        have hS2 := ev_call e2 hSV hb
        clear hb
        refine hK.out _ _ (hS2) (fun hHeld => ?_)
        clear hK K
        try simp only [Act.put, List.setIfInBounds_toArray, List.set_cons_zero, List.set_cons_succ]
        refine take_at (i := 5) (v := evp (⟨yt, yk, yv, yl⟩, yi)) rfl rfl (by kernel_rfl) (by kernel_rfl) (by kernel_rfl) (fun _ _ _ h => h) (Or.inl ⟨by rfl, fun X _ => by go_simp⟩) hHeld ?_
        try simp only [Act.put, List.setIfInBounds_toArray, List.set_cons_zero, List.set_cons_succ]
        refine take_at (i := 6) (v := evv yt yk yv yl) rfl rfl (by kernel_rfl) (by kernel_rfl) (by kernel_rfl) (fun _ _ _ h => h) (Or.inl ⟨by rfl, fun X _ => by go_simp⟩) hHeld ?_
        try simp only [Act.put, List.setIfInBounds_toArray, List.set_cons_zero, List.set_cons_succ]
        refine take_at (i := 7) (v := .bool yi) rfl rfl (by kernel_rfl) (by kernel_rfl) (by kernel_rfl) (fun _ _ _ h => h) (Or.inl ⟨by rfl, fun X _ => by go_simp⟩) hHeld ?_
        try simp only [Act.put, List.setIfInBounds_toArray, List.set_cons_zero, List.set_cons_succ]
        refine wpAnyH_ready (rs := [8]) (by kernel_rfl) (by simp) ?_
        refine AllReadyH.cons rfl (fun K hK => ?_) AllReadyH.nil
        rw [if_pos (by rfl)]
        go_simp
        refine hK.out _ _ (ev_alloc e2 hS2 _) (fun hHeld => ?_)
        clear hK K
        try simp only [Act.put, List.setIfInBounds_toArray, List.set_cons_zero, List.set_cons_succ]
        refine wpAnyH_ready (rs := [9]) (by kernel_rfl) (by simp) ?_
        refine AllReadyH.cons rfl (fun K hK => ?_) AllReadyH.nil
        rw [if_pos (by rfl)]
        go_simp
        refine hK.out _ _ (ev_alloc e2 hS2 _) (fun hHeld => ?_)
        clear hK K
        try simp only [Act.put, List.setIfInBounds_toArray, List.set_cons_zero, List.set_cons_succ]
        refine take_at (i := 10) (v := .bool yi) rfl rfl (by kernel_rfl) (by kernel_rfl) (by kernel_rfl) (fun _ _ _ h => h) (Or.inl ⟨by rfl, fun X _ => by go_simp⟩) hHeld ?_
        try simp only [Act.put, List.setIfInBounds_toArray, List.set_cons_zero, List.set_cons_succ]
        refine wpAnyH_done (by kernel_rfl) ?_ _
        go_wp2_with fail
        go_meet
        exact ⟨rfl, bnew hS2.2.2.2.2 _, _, rfl, evk_new _ _ _ _ _⟩
      · rw [if_pos (by rfl)]
        go_simp
        have hS2 := ev_alloc e2 hSV (.cells #[.int .i64 0, .int .i64 0, .int .i64 0, .int .u64 0] 24)
        refine hK.out _ _ (hS2) (fun hHeld => ?_)
        clear hK K
        try simp only [Act.put, List.setIfInBounds_toArray, List.set_cons_zero, List.set_cons_succ]
        refine wpAnyH_ready (rs := [4]) (by kernel_rfl) (by simp) ?_
        refine AllReadyH.cons rfl (fun K hK => ?_) AllReadyH.nil
        rw [if_pos (by rfl)]
        go_wp2_with fail
        refine (run_is t k v l _ (ns.take C) (⟨yt, yk, yv, yl⟩, yi) _ (r1.out.below hS2.2.2.2.2 (Nat.le_refl _) hS2.2.2.2.2.size) hY.out).mono ?_
        rintro e V2 ⟨rfl, hb⟩
        go_wp2_with fail
        have hS3 := ev_call e2 hS2 hb
        have hy := (evk_new V1 0 0 0 0).call hb
        have hbs : V.heap.size ≤ V1.heap.size := hSV.2.2.2.2.size
        clear hb
        refine hK.out _ _ (hS3) (fun hHeld => ?_)
        clear hK K
        try simp only [Act.put, List.setIfInBounds_toArray, List.set_cons_zero, List.set_cons_succ]
        refine take_at (i := 5) (v := evp (⟨yt, yk, yv, yl⟩, yi)) rfl rfl (by kernel_rfl) (by kernel_rfl) (by kernel_rfl) (fun _ _ _ h => h) (Or.inl ⟨by rfl, fun X _ => by go_simp⟩) hHeld ?_
        try simp only [Act.put, List.setIfInBounds_toArray, List.set_cons_zero, List.set_cons_succ]
        refine take_at (i := 6) (v := evv yt yk yv yl) rfl rfl (by kernel_rfl) (by kernel_rfl) (by kernel_rfl) (fun _ _ _ h => h) (Or.inl ⟨by rfl, fun X _ => by go_simp⟩) hHeld ?_
        try simp only [Act.put, List.setIfInBounds_toArray, List.set_cons_zero, List.set_cons_succ]
        refine take_at (i := 7) (v := .bool yi) rfl rfl (by kernel_rfl) (by kernel_rfl) (by kernel_rfl) (fun _ _ _ h => h) (Or.inl ⟨by rfl, fun X _ => by go_simp⟩) hHeld ?_
        try simp only [Act.put, List.setIfInBounds_toArray, List.set_cons_zero, List.set_cons_succ]
        have y0 := hy.c0
        have y1 := hy.c1
        have y2 := hy.c2
        have y3 := hy.c3
        have f0 := hy.free 0
        have f1 := hy.free 1
        have f2 := hy.free 2
        have f3 := hy.free 3
        refine wpAnyH_ready (rs := [9]) (by kernel_rfl) (by simp) ?_
        refine AllReadyH.cons rfl (fun K hK => ?_) AllReadyH.nil
        rw [if_pos (by rfl)]
        go_simp
        refine hK.out _ _ (ev_set e2 hS3 hbs _ _ _ _) (fun hHeld => ?_)
        clear hK K
        try simp only [Act.put, List.setIfInBounds_toArray, List.set_cons_zero, List.set_cons_succ]
        refine take_at (i := 10) (v := .bool yi) rfl rfl (by kernel_rfl) (by kernel_rfl) (by kernel_rfl) (fun _ _ _ h => h) (Or.inl ⟨by rfl, fun X _ => by go_simp⟩) hHeld ?_
        try simp only [Act.put, List.setIfInBounds_toArray, List.set_cons_zero, List.set_cons_succ]
        refine wpAnyH_done (by kernel_rfl) ?_ _
        go_wp2_with fail
        go_meet
        exact ⟨rfl, below_set4 hS3.2.2.2.2 hbs _ _ _ _, _, rfl, hy.set _ _ _ _⟩
    case rest =>
      obtain ⟨rfl, hbv, gy, rfl, y3⟩ := hcut
      have e3 := e2.call hbv
      have x3 := x2.call hbv
      have h3 := bcall h2 hbv
      have r3 : Hid (RdO _ (.slice (some ⟨go, off, none⟩) (N - C) cq) (ns.drop C)) := r2.out.below hbv (Nat.le_refl _) hbv.size
      clear r1 r2 e2 x2 h2 hbv hSV hC0 hC1 hX hY
      go_upto_region 6 with fail
      have hgz : w.heap.size ≤ wc.heap.size ∧ g ≠ wc.heap.size ∧ gx ≠ wc.heap.size ∧ gy ≠ wc.heap.size := ⟨h3.size, Nat.ne_of_lt e3.lt, Nat.ne_of_lt x3.lt, Nat.ne_of_lt y3.lt⟩
      refine world_gen (fun W => Evk W g ⟨t, k, v, l⟩ ∧ Evk W gx ⟨xt, xk, xv, xl⟩ ∧ Evk W gy ⟨yt, yk, yv, yl⟩ ∧ Evk W wc.heap.size zeroE ∧ Hid (RdO W (.slice (some ⟨go, off, none⟩) (N - C) cq) (ns.drop C)) ∧ Below w.heap.size w W) ⟨e3.alloc _, x3.alloc _, y3.alloc _, evk_new _ _ _ _ _, r3.out.below (below_alloc _ _) (Nat.le_refl _) (by simp), bnew h3 _⟩ ?_
      clear e3 x3 y3 r3 h3
      rintro W ⟨e3, x3, y3, z3, r3, h3⟩
      generalize wc.heap.size = gz at z3 hgz ⊢
      obtain ⟨hgz0, hgz1, hgz2, hgz3⟩ := hgz
      cases yi
      case' false =>
        have hx : ((⟨xt, xk, xv, xl⟩, xi) : Ev × Bool) = (zeroE, false) := hXY'.out
        simp only [Prod.mk.injEq, Ev.mk.injEq] at hx
        obtain ⟨⟨rfl, rfl, rfl, rfl⟩, rfl⟩ := hx
        clear r3 y3 hXY' hsl
        have p0 := x3.c0
        have p1 := x3.c1
        have p2 := x3.c2
        have p3 := x3.c3
        have q0 := z3.c0
        have q1 := z3.c1
        have q2 := z3.c2
        have q3 := z3.c3
        simp only at p0 p1 p2 p3 q0 q1 q2 q3
        go_upto_region 10 with fail
        clear p0 p1 p2 p3 q0 q1 q2 q3 x3 z3
      case' true =>
        have hR : Hid (run (ns.drop C) ⟨yt, yk, yv, yl⟩ = (⟨xt, xk, xv, xl⟩, xi)) := hXY'.out.symm
        clear hXY'
        go_upto_region 7 with fail
        go_cut [16] (fun q wx => q = .bool xi ∧ Evk wx g ⟨t, k, v, l⟩ ∧ Evk wx gx ⟨xt, xk, xv, xl⟩ ∧ Evk wx gz ⟨xt, xk, xv, xl⟩ ∧ Below w.heap.size w wx)
        case' first =>
          have hb := (Below.refl W.heap.size W).drew
          have e4 := e3.call hb
          have x4 := x3.call hb
          have y4 := y3.call hb
          have z4 := z3.call hb
          have h4 := bcall h3 hb
          have r4 : Hid (RdO _ (.slice (some ⟨go, off, none⟩) (N - C) cq) (ns.drop C)) := r3.out.below hb (Nat.le_refl _) hb.size
          clear e3 x3 y3 z3 h3 r3 hb
          refine wp_region_held_drew (S := fun w' => w'.cell? ⟨gy, 0, none⟩ = some (.int .i64 yt) ∧ w'.cell? ⟨gy, 1, none⟩ = some (.int .i64 yk) ∧ w'.cell? ⟨gy, 2, none⟩ = some (.int .i64 yv) ∧ w'.cell? ⟨gy, 3, none⟩ = some (.int .u64 yl)) (by kernel_rfl) ⟨y4.c0, y4.c1, y4.c2, y4.c3⟩ (fun hHeld => ?_)
          generalize W.drew = V1 at e4 x4 y4 z4 h4 r4 hHeld ⊢
          refine take_at (i := 0) (v := evv yt yk yv yl) rfl rfl (by kernel_rfl) (by kernel_rfl) (by kernel_rfl) (fun _ _ _ h => h) (Or.inl ⟨by rfl, fun X hX => by obtain ⟨c0, c1, c2, c3⟩ := hX; go_simp⟩) hHeld ?_
          try simp only [Act.put, List.setIfInBounds_toArray, List.set_cons_zero, List.set_cons_succ]
          refine take_at (i := 1) (v := .slice (some ⟨go, 0, none⟩) N cp) rfl rfl (by kernel_rfl) (by kernel_rfl) (by kernel_rfl) (fun _ _ _ h => h) (Or.inl ⟨by rfl, fun X _ => by go_simp⟩) hHeld ?_
          try simp only [Act.put, List.setIfInBounds_toArray, List.set_cons_zero, List.set_cons_succ]
          refine take_at (i := 2) (v := .int .i64 (C : Int)) rfl rfl (by kernel_rfl) (by kernel_rfl) (by kernel_rfl) (fun _ _ _ h => h) (Or.inl ⟨by rfl, fun X _ => by go_simp⟩) hHeld ?_
          try simp only [Act.put, List.setIfInBounds_toArray, List.set_cons_zero, List.set_cons_succ]
          refine take_at (i := 3) (v := .slice (some ⟨go, off, none⟩) (N - C) cq) rfl rfl (by kernel_rfl) (by kernel_rfl) (by kernel_rfl) (fun _ _ _ h => h) (Or.inl ⟨by rfl, fun X _ => ?sl1⟩) hHeld ?_
          case sl1 =>
            rcases hsl.out with ⟨q1, rfl, rfl⟩ | ⟨q1, rfl, rfl⟩
            · have q2 : N = C := by omega
              subst q2
              subst q1
              go_simp
            · go_simp
              omega
          try simp only [Act.put, List.setIfInBounds_toArray, List.set_cons_zero, List.set_cons_succ]
          refine wpAnyH_ready (rs := [4]) (by kernel_rfl) (by simp) ?_
          refine AllReadyH.cons rfl (fun K hK => ?_) AllReadyH.nil
          rw [if_pos (by rfl)]
          go_wp2_with fail
          refine (run_is yt yk yv yl _ (ns.drop C) (⟨xt, xk, xv, xl⟩, xi) _ r4.out hR.out).mono ?_
          rintro e V2 ⟨rfl, hb⟩
          go_wp2_with fail
          have e5 := e4.call hb
          have x5 := x4.call hb
          have y5 := y4.call hb
          have z5 := z4.call hb
          have h5 := bcall h4 hb
          clear e4 x4 y4 z4 h4 r4 hb
          refine hK.out _ _ (⟨y5.c0, y5.c1, y5.c2, y5.c3⟩) (fun hHeld => ?_)
          clear hK K
          try simp only [Act.put, List.setIfInBounds_toArray, List.set_cons_zero, List.set_cons_succ]
          refine take_at (i := 5) (v := evp (⟨xt, xk, xv, xl⟩, xi)) rfl rfl (by kernel_rfl) (by kernel_rfl) (by kernel_rfl) (fun _ _ _ h => h) (Or.inl ⟨by rfl, fun X _ => by go_simp⟩) hHeld ?_
          try simp only [Act.put, List.setIfInBounds_toArray, List.set_cons_zero, List.set_cons_succ]
          refine take_at (i := 6) (v := evv xt xk xv xl) rfl rfl (by kernel_rfl) (by kernel_rfl) (by kernel_rfl) (fun _ _ _ h => h) (Or.inl ⟨by rfl, fun X _ => by go_simp⟩) hHeld ?_
          try simp only [Act.put, List.setIfInBounds_toArray, List.set_cons_zero, List.set_cons_succ]
          refine take_at (i := 7) (v := .bool xi) rfl rfl (by kernel_rfl) (by kernel_rfl) (by kernel_rfl) (fun _ _ _ h => h) (Or.inl ⟨by rfl, fun X _ => by go_simp⟩) hHeld ?_
          try simp only [Act.put, List.setIfInBounds_toArray, List.set_cons_zero, List.set_cons_succ]
          have q0 := z5.c0
          have q1 := z5.c1
          have q2 := z5.c2
          have q3 := z5.c3
          have f0 := z5.free 0
          have f1 := z5.free 1
          have f2 := z5.free 2
          have f3 := z5.free 3
          refine wpAnyH_ready (rs := [8]) (by kernel_rfl) (by simp) ?_
          refine AllReadyH.cons rfl (fun K hK => ?_) AllReadyH.nil
          rw [if_pos (by rfl)]
          go_simp
          have y6 := y5.set_other hgz3 (.int .i64 xt) (.int .i64 xk) (.int .i64 xv) (.int .u64 xl)
          refine hK.out _ _ (⟨y6.c0, y6.c1, y6.c2, y6.c3⟩) (fun hHeld => ?_)
          clear hK K
          try simp only [Act.put, List.setIfInBounds_toArray, List.set_cons_zero, List.set_cons_succ]
          refine take_at (i := 9) (v := .bool xi) rfl rfl (by kernel_rfl) (by kernel_rfl) (by kernel_rfl) (fun _ _ _ h => h) (Or.inl ⟨by rfl, fun X _ => by go_simp⟩) hHeld ?_
          try simp only [Act.put, List.setIfInBounds_toArray, List.set_cons_zero, List.set_cons_succ]
          refine wpAnyH_done (by kernel_rfl) ?_ _
          go_wp2_with fail
          go_meet
          exact ⟨rfl, e5.set_other hgz1 _ _ _ _, x5.set_other hgz2 _ _ _ _, z5.set _ _ _ _, below_set4 h5 hgz0 _ _ _ _⟩
        case' rest =>
          clear e3 x3 h3 y3 z3 r3 hR hsl
          obtain ⟨rfl, e3, x3, z3, h3⟩ := hcut
          cases xi
          all_goals
            have p0 := x3.c0
            have p1 := x3.c1
            have p2 := x3.c2
            have p3 := x3.c3
            have q0 := z3.c0
            have q1 := z3.c1
            have q2 := z3.c2
            have q3 := z3.c3
            simp only at p0 p1 p2 p3 q0 q1 q2 q3
            go_upto_region 10 with fail
            clear p0 p1 p2 p3 q0 q1 q2 q3 x3 z3
      all_goals
        refine world_gen (fun W => Evk W g ⟨t, k, v, l⟩ ∧ Below w.heap.size w W) ⟨e3, h3⟩ ?_
        clear e3 h3
        rintro W0 ⟨e0, h0⟩
        obtain ⟨⟨⟨bt, bk, bv, bl⟩, F⟩, hF⟩ : ∃ P, Hid (run [⟨4, n⟩] ⟨t, k, v, l⟩ = P) := ⟨_, rfl⟩
        obtain ⟨⟨⟨dt, dk, dv, dl⟩, G⟩, hG⟩ : ∃ P, Hid (run [⟨5, n⟩] ⟨t, k, v, l⟩ = P) := ⟨_, rfl⟩
        have eq0 := e0.c0
        have eq1 := e0.c1
        have eq2 := e0.c2
        have eq3 := e0.c3
        simp only at eq0 eq1 eq2 eq3
        go_wp2_with fail
        refine (run_is t k v l _ [⟨1, n⟩, ⟨1, wrap64 (-n)⟩] (⟨t, k, v, l⟩, true) _ (rd_2 W0 1 n 1 (wrap64 (-n)) hN.out.2 (neg_le n)) (add_back t k v l n hV.out)).mono ?_
        rintro e w1 ⟨rfl, b⟩
        have h1 := bstep h0 b
        have e1 := e0.step b
        clear b h0 e0 eq0 eq1 eq2 eq3
        go_upto_region 11 with fail
        refine world_gen (fun W => Evk W g ⟨t, k, v, l⟩ ∧ Evk W w1.heap.size ⟨t, k, v, l⟩ ∧ Below w.heap.size w W) ⟨e1.alloc _, evk_new _ _ _ _ _, bnew h1 _⟩ ?_
        clear h1 e1
        rintro W1 ⟨e1, a1, h1⟩
        generalize w1.heap.size = ga at a1 ⊢
        go_upto_region 12 with fail
        refine world_gen (fun W => Evk W g ⟨t, k, v, l⟩ ∧ Evk W ga ⟨t, k, v, l⟩ ∧ Opk W W1.heap.size ⟨4, n⟩ ∧ Below w.heap.size w W) ⟨e1.alloc _, a1.alloc _, opk_new _ _ _, bnew h1 _⟩ ?_
        clear h1 e1 a1
        rintro W2 ⟨e2, a2, o2, h2⟩
        generalize W1.heap.size = go' at o2 ⊢
        have eq0 := e2.c0
        have eq1 := e2.c1
        have eq2 := e2.c2
        have eq3 := e2.c3
        have aq0 := a2.c0
        have aq1 := a2.c1
        have aq2 := a2.c2
        have aq3 := a2.c3
        have oq0 := o2.c0
        have oq1 := o2.c1
        simp only at eq0 eq1 eq2 eq3 aq0 aq1 aq2 aq3 oq0 oq1
        go_wp2_with fail
        refine (run_is t k v l _ [⟨4, n⟩] (⟨bt, bk, bv, bl⟩, F) _ (rd_1 W2 4 n hN.out.2) hF.out).mono ?_
        rintro e w3 ⟨rfl, b⟩
        have h3 := bstep h2 b
        have e3 := e2.step b
        have a3 := a2.step b
        have o3 := o2.step b
        clear b h2 e2 a2 o2 eq0 eq1 eq2 eq3 aq0 aq1 aq2 aq3 oq0 oq1
        go_upto_region 13 with fail
        refine world_gen (fun W => Evk W g ⟨t, k, v, l⟩ ∧ Evk W ga ⟨t, k, v, l⟩ ∧ Opk W go' ⟨4, n⟩ ∧ Below w.heap.size w W) ⟨e3.alloc _, a3.alloc _, o3.alloc _, bnew h3 _⟩ ?_
        clear h3 e3 a3 o3
        rintro W3 ⟨e3, a3, o3, h3⟩
        generalize w3.heap.size = gg3
        have eq0 := e3.c0
        have eq1 := e3.c1
        have eq2 := e3.c2
        have eq3 := e3.c3
        have aq0 := a3.c0
        have aq1 := a3.c1
        have aq2 := a3.c2
        have aq3 := a3.c3
        have oq0 := o3.c0
        have oq1 := o3.c1
        simp only at eq0 eq1 eq2 eq3 aq0 aq1 aq2 aq3 oq0 oq1
        go_wp2_with fail
        refine (run_is t k v l _ [⟨4, n⟩, ⟨4, n⟩] (⟨bt, bk, bv, bl⟩, F) _ (rd_2 W3 4 n 4 n hN.out.2 hN.out.2) ((filt_twice _ _ _ _ _).trans hF.out)).mono ?_
        rintro e w4 ⟨rfl, b⟩
        have h4 := bstep h3 b
        have e4 := e3.step b
        have a4 := a3.step b
        have o4 := o3.step b
        clear b h3 e3 a3 o3 eq0 eq1 eq2 eq3 aq0 aq1 aq2 aq3 oq0 oq1
        go_upto_region 14 with fail
        refine world_gen (fun W => Evk W g ⟨t, k, v, l⟩ ∧ Evk W ga ⟨t, k, v, l⟩ ∧ Opk W go' ⟨4, n⟩ ∧ Below w.heap.size w W) ⟨e4.alloc _, a4.alloc _, o4.alloc _, bnew h4 _⟩ ?_
        clear h4 e4 a4 o4
        rintro W4 ⟨e4, a4, o4, h4⟩
        generalize w4.heap.size = gg4
        have eq0 := e4.c0
        have eq1 := e4.c1
        have eq2 := e4.c2
        have eq3 := e4.c3
        have aq0 := a4.c0
        have aq1 := a4.c1
        have aq2 := a4.c2
        have aq3 := a4.c3
        have oq0 := o4.c0
        have oq1 := o4.c1
        simp only at eq0 eq1 eq2 eq3 aq0 aq1 aq2 aq3 oq0 oq1
        go_wp2_with fail
        refine (run_is t k v l _ [⟨5, n⟩] (⟨dt, dk, dv, dl⟩, G) _ (rd_1 W4 5 n hN.out.2) hG.out).mono ?_
        rintro e w5 ⟨rfl, b⟩
        have h5 := bstep h4 b
        have e5 := e4.step b
        have a5 := a4.step b
        have o5 := o4.step b
        clear b h4 e4 a4 o4 eq0 eq1 eq2 eq3 aq0 aq1 aq2 aq3 oq0 oq1
        go_upto_region 15 with fail
        refine world_gen (fun W => Evk W g ⟨t, k, v, l⟩ ∧ Evk W ga ⟨t, k, v, l⟩ ∧ Opk W go' ⟨4, n⟩ ∧ Below w.heap.size w W) ⟨e5.alloc _, a5.alloc _, o5.alloc _, bnew h5 _⟩ ?_
        clear h5 e5 a5 o5
        rintro W5 ⟨e5, a5, o5, h5⟩
        generalize w5.heap.size = gg5
        have eq0 := e5.c0
        have eq1 := e5.c1
        have eq2 := e5.c2
        have eq3 := e5.c3
        have aq0 := a5.c0
        have aq1 := a5.c1
        have aq2 := a5.c2
        have aq3 := a5.c3
        have oq0 := o5.c0
        have oq1 := o5.c1
        simp only at eq0 eq1 eq2 eq3 aq0 aq1 aq2 aq3 oq0 oq1
        go_wp2_with fail
        refine (run_is t k v l _ [] (⟨t, k, v, l⟩, true) _ (rd_none W5) rfl).mono ?_
        rintro e w6 ⟨rfl, b⟩
        have h6 := bcall h5 b
        have e6 := e5.call b
        have a6 := a5.call b
        have o6 := o5.call b
        clear b h5 e5 a5 o5 eq0 eq1 eq2 eq3 aq0 aq1 aq2 aq3 oq0 oq1
        go_upto_region 16 with fail
        refine world_gen (fun W => Evk W g ⟨t, k, v, l⟩ ∧ Evk W ga ⟨t, k, v, l⟩ ∧ Opk W go' ⟨4, n⟩ ∧ Evk W w6.heap.size ⟨t, k, v, l⟩ ∧ Below w.heap.size w W) ⟨e6.alloc _, a6.alloc _, o6.alloc _, evk_new _ _ _ _ _, bnew h6 _⟩ ?_
        clear h6 e6 a6 o6
        rintro W6 ⟨e6, a6, o6, f6, h6⟩
        generalize w6.heap.size = gf at f6 ⊢
        have hF2 : Hid (F = decide (n < v)) := by rw [← filt_above t k v l n, hF.out]; rfl
        have hG2 : Hid (G = decide (v < n)) := by rw [← filt_below t k v l n, hG.out]; rfl
        clear hF hG hV hN
        have eq0 := e6.c0
        have eq1 := e6.c1
        have eq2 := e6.c2
        have eq3 := e6.c3
        have aq0 := a6.c0
        have aq1 := a6.c1
        have aq2 := a6.c2
        have aq3 := a6.c3
        have oq0 := o6.c0
        have oq1 := o6.c1
        have fq0 := f6.c0
        have fq1 := f6.c1
        have fq2 := f6.c2
        have fq3 := f6.c3
        simp only at eq0 eq1 eq2 eq3 aq0 aq1 aq2 aq3 oq0 oq1 fq0 fq1 fq2 fq3
        clear e6 a6 o6 f6
        rcases Int.lt_trichotomy n v with d1 | d1 | d1
        case' inr.inl => subst d1
        case' inl => obtain ⟨rfl, rfl⟩ : F = true ∧ G = false := ⟨by rw [hF2.out, decide_eq_true d1], by rw [hG2.out]; exact decide_eq_false (by omega)⟩
        case' inr.inr => obtain ⟨rfl, rfl⟩ : F = false ∧ G = true := ⟨by rw [hF2.out]; exact decide_eq_false (by omega), by rw [hG2.out, decide_eq_true d1]⟩
        case' inr.inl => obtain ⟨rfl, rfl⟩ : F = false ∧ G = false := ⟨by rw [hF2.out]; exact decide_eq_false (by omega), by rw [hG2.out]; exact decide_eq_false (by omega)⟩
        all_goals
          clear hF2 hG2
          go_wp2_with fail
          refine (operRuns_walk W6).mono ?_
          rintro e w7 ⟨rfl, b7⟩
          go_wp2
          go_ret
          exact ⟨rfl, bcall h6 b7⟩
theorem operParts_walk (a0 : Option Addr) (len0 cap0 : Nat) (z0 : List Oq) (x : Ev) (cut n : Int) (w : World) (w0 : IsOps w a0 len0 cap0 z0) (w1 : I64 x.v) (_ : (Lit.int .i64 cut).wf = true) (w3 : (Lit.int .i64 n).wf = true) :
    Calls Try.prog 5 #[.slice a0 len0 cap0, ev x, .int .i64 cut, .int .i64 n] w fun e w' => e = .returned (.bool true) ∧ Below w.heap.size w w' :=
  parts_core a0 len0 cap0 z0 x.t x.k x.v x.l cut n w w0 w1 (bounds_i64 w3)
end Go.Proofs.Ytfhkmgjnmmaakaa
