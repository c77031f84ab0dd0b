/- The statement OperTells, for every memory. -/
import Derived.Test.YtfhkmgjnmmaakaaRoomy
namespace Go.Proofs.Ytfhkmgjnmmaakaa
open Go.RowKit M

theorem rd_at {w : World} {g N cp : Nat} {ns : List Oq} (h : RdO w (.slice (some ⟨g, 0, none⟩) N cp) ns) (j : Nat) (hj : j < ns.length) :
    w.cell? ⟨g, j * 2, none⟩ = some (.int .i64 (opAt ns j).k) ∧ w.cell? ⟨g, j * 2 + 1, none⟩ = some (.int .i64 (opAt ns j).n) := by
  obtain ⟨_, _, ao, cap, he, _, _, hc⟩ := h
  injection he with e1 e2 e3
  obtain ⟨b, off, hb, _, hcell⟩ := hc (by omega)
  rw [hb] at e1
  injection e1 with e1
  injection e1 with e1 e4
  subst e1 e4
  obtain ⟨c0, c1⟩ := hcell j hj
  rw [Nat.zero_add] at c0 c1
  exact ⟨c0, c1⟩
theorem app_keeps (o : Oq) (t k v l t' k' v' l' : Int) (h : app o ⟨t, k, v, l⟩ = (⟨t', k', v', l'⟩, true)) : t' = t ∧ l' = l := by
  unfold app at h
  repeat' split at h
  all_goals first
    | (simp only [Prod.mk.injEq, Ev.mk.injEq] at h; obtain ⟨⟨rfl, _, _, rfl⟩, _⟩ := h; exact ⟨rfl, rfl⟩)
    | (simp at h; done)
theorem all_take (ns : List Oq) (k : Nat) (h : k < ns.length) : (ns.take (k + 1)).all rightO = ((ns.take k).all rightO && rightO (opAt ns k)) := by
  have e1 : opAt ns k = ns[k] := by unfold opAt; simp [List.getD_eq_getElem?_getD, h]
  rw [List.take_succ_eq_append_getElem h, e1, List.all_append]; simp only [List.all_cons, List.all_nil, Bool.and_true]
def rb (N : Nat) (ns : List Oq) (k : Nat) : Bool := decide (N ≤ 6) && (ns.take k).all rightO
theorem rb_next (N : Nat) (ns : List Oq) (k : Nat) (h : k < ns.length) : rb N ns (k + 1) = (rb N ns k && rightO (opAt ns k)) := by
  unfold rb; rw [all_take ns k h, Bool.and_assoc]
theorem rb_end (N : Nat) (ns : List Oq) (h : N = ns.length) : rb N ns N = rightL ns := by
  unfold rb rightL; rw [h, List.take_length]

attribute [local go_sem ↓] Go.wp_at_zero Go.wp_at_succ
set_option maxHeartbeats 4000000 in
set_option maxRecDepth 100000 in
theorem tells_core (ao : Option Addr) (len cap : Nat) (os : List Oq) (t k v l : Int) (w : World) (hrow : IsOps w ao len cap os) :
    Calls Try.prog 4 #[.slice ao len cap, evv t k v l] w fun e w' => e = .returned (.bool true) ∧ Below w.heap.size w w' := by
  obtain ⟨i0, hi, hz0, hz1, hz2⟩ := info_parts Try.info28
  go_enter Try.func4, Try.ntmps4
  go_upto_region 1 with fail
  refine world_gen (fun W => Evk W w.heap.size ⟨t, k, v, l⟩ ∧ IsOps W ao len cap os ∧ Below w.heap.size w W) ⟨evk_new _ _ _ _ _, hrow.below (below_alloc _ _) (Nat.le_refl _), below_alloc _ _⟩ ?_
  clear hrow
  rintro W0 ⟨e0, hrow, h0⟩
  obtain ⟨g, hg⟩ : ∃ g, Hid (w.heap.size = g) := ⟨_, rfl⟩
  rw [hg.out] at e0 ⊢
  have hown0 := own_empty W0
  go_cut [5] (fun u wx => ∃ ns : List Oq, ∃ g cp : Nat, ns.length ≤ 8 ∧ (∀ x ∈ ns, x.n ≤ 9223372036854775807) ∧ u = .slice (some ⟨g, 0, none⟩) ns.length cp ∧ ns.length ≤ cp ∧ cp ≤ 9223372036854775807 ∧ wx.ownsRow W0.heap.size 28 2 (.slice (some ⟨g, 0, none⟩) ns.length cp) ns.length (opl ns) ∧ Below W0.heap.size W0 wx)
  case first =>
    rcases hrow with ⟨rfl, rfl, rfl, rfl⟩ | ⟨x, rfl, hlc, hcm, hzl, hcell, hwf⟩
    · go_wp2_with (at_builtin; refine wpList_append_own_none rfl _ _ 31 rfl W0.heap.size 28 i0 2 Try.underlying31 hi _ 0 [] rfl hown0 rfl ?_)
      go_meet
      exact ⟨[], _, 0, by simp, by simp, rfl, by simp, by simp, hown0, below_alloc _ _⟩
    · unfold maxLen at hcm
      obtain ⟨K, hK, hKz, hKe⟩ : ∃ K, K ≤ 8 ∧ K ≤ os.length ∧ ((len ≤ 8 ∧ K = len) ∨ (8 < len ∧ K = 8)) := by
        by_cases h20 : len ≤ 8
        · exact ⟨len, h20, by omega, .inl ⟨h20, rfl⟩⟩
        · exact ⟨8, by decide, by omega, .inr ⟨by omega, rfl⟩⟩
      obtain ⟨ns, hnl, hns, hul, hsrc⟩ := src_ops W0 (.cells #[] 28) x os K hKz hcell hwf
      clear hcell hwf
      rcases hKe with ⟨h20, rfl⟩ | ⟨h20, rfl⟩
      · go_wp2_with (at_builtin; refine wpList_append_own _ rfl _ _ 31 rfl W0.heap.size 28 i0 _ 2 16 Try.underlying31 hi hz0 hz1 hz2 rfl (by decide) _ 0 [] rfl hown0 x K cap (opl ns) rfl hul hsrc (opl_one ns) ?c3 ?c4 ?c5 ?_)
        case c3 => unfold maxLen; omega
        case c4 => omega
        case c5 => simp
        intro v' w1 hown' hgrow hnil
        go_wp2_with fail
        go_meet
        have hown1 : w1.ownsRow W0.heap.size 28 2 v' ns.length (opl ns) := by rw [hnl]; simpa using hown'
        obtain ⟨g, cp, rfl, g1, g2, _⟩ := own_form hown1 hnil
        refine ⟨ns, g, cp, by omega, hns, rfl, g1, g2, hown1, (below_alloc W0 _).grown hgrow (by simp) ?_⟩
        intro k hk; simp [Value.ownBlock] at hk; omega
      · go_wp2_with (at_builtin; refine wpList_append_own _ rfl _ _ 31 rfl W0.heap.size 28 i0 _ 2 16 Try.underlying31 hi hz0 hz1 hz2 rfl (by decide) _ 0 [] rfl hown0 x 8 cap (opl ns) rfl hul hsrc (opl_one ns) ?c3 ?c4 ?c5 ?_)
        case c3 => unfold maxLen; omega
        case c4 => omega
        case c5 => simp
        intro v' w1 hown' hgrow hnil
        go_wp2_with fail
        go_meet
        have hown1 : w1.ownsRow W0.heap.size 28 2 v' ns.length (opl ns) := by rw [hnl]; simpa using hown'
        obtain ⟨g, cp, rfl, g1, g2, _⟩ := own_form hown1 hnil
        refine ⟨ns, g, cp, by omega, hns, rfl, g1, g2, hown1, (below_alloc W0 _).grown hgrow (by simp) ?_⟩
        intro k hk; simp [Value.ownBlock] at hk; omega
  case rest =>
    obtain ⟨ns, go, cp, hn8, hns, rfl, hncp, hcp, hown, hbw⟩ := hcut
    clear hown0 hrow
    have e1 := e0.call hbw
    have h1 := bcall h0 hbw
    have hns' : Hid (∀ x ∈ ns, x.n ≤ 9223372036854775807) := hns
    obtain ⟨N, hNl⟩ : ∃ N, Hid (N = ns.length) := ⟨_, rfl⟩
    have r1 : Hid (RdO wc (.slice (some ⟨go, 0, none⟩) N cp) ns) := by
      rw [hNl.out]; exact rd_part hown hns ns 0 0 ns.length cp (by omega) (fun j _ => by rw [Nat.zero_add]) (by omega) rfl hncp hcp (fun x h => h)
    rw [← hNl.out] at hn8 hncp ⊢
    clear hown hns e0 h0 hbw hi hz0 hz1 hz2 i0
    go_wp2_with fail
    refine (roomy_any _ ns 9 0 _ r1.out (by have := hNl.out; omega)).mono ?_
    rintro e w2 ⟨u, rfl, hown, b2⟩
    have h2 := bcall h1 b2
    have e2 := e1.call b2
    have r2 : Hid (RdO w2 (.slice (some ⟨go, 0, none⟩) N cp) ns) := r1.out.below b2 (Nat.le_refl _) b2.size
    clear h1 e1 r1 b2
    obtain ⟨gf, cf, rfl, hcf1, hcf2, _⟩ := own_form hown (by
      intro hu
      obtain ⟨_, h | ⟨g', cap', cur, h', _⟩⟩ := hown
      · have := h.2; simp at this
      · rw [hu] at h'; injection h' with h1; cases h1)
    have hfl : (ns ++ List.replicate 80 (⟨9, 0⟩ : Oq)).length = N + 80 := by rw [List.length_append, List.length_replicate, hNl.out]
    have hfb : ∀ x ∈ ns ++ List.replicate 80 (⟨9, 0⟩ : Oq), x.n ≤ 9223372036854775807 := by
      intro x hx
      rcases List.mem_append.1 hx with h | h
      · exact hns'.out x h
      · rw [List.eq_of_mem_replicate h]; decide
    have f2 : Hid (RdO w2 (.slice (some ⟨gf, 0, none⟩) (N + 80) cf) (ns ++ List.replicate 80 (⟨9, 0⟩ : Oq))) := rd_part hown hfb _ 0 0 (N + 80) cf (by omega) (fun j _ => by rw [Nat.zero_add]) (by omega) hfl (by omega) hcf2 (fun x h => h)
    have p2 : Hid (RdO w2 (.slice (some ⟨gf, 0, none⟩) N cf) ns) := rd_part hown hfb ns 0 0 N cf (by rw [List.length_append]; omega) (fun j hj => by rw [Nat.zero_add, pre_at ns ⟨9, 0⟩ j hj]) (by omega) hNl.out.symm (by omega) hcf2 (fun x h => List.mem_append_left _ h)
    rw [hfl] at hcf1 ⊢
    clear hown hfl hfb
    obtain ⟨rr, hrr⟩ : ∃ r, Hid (decide (N ≤ 6) = r) := ⟨_, rfl⟩
    have hrr2 : decide ((N : Int) ≤ 6) = rr := by rw [← hrr.out]; simp only [decide_eq_decide]; omega
    go_wp2_with fail
    clear hrr2
    have hb0 : Hid (rr = rb N ns 0) := by
      have h : rr = rb N ns 0 := by rw [← hrr.out]; simp [rb]
      exact h
    clear hrr
    go_loopw [7, 33] (fun q i wr => ∃ j : Nat, j ≤ N ∧ i = .int .i64 j ∧ q = .bool (rb N ns j) ∧ Below w2.heap.size w2 wr) (fun _ i _ => N - (intOf i).toNat)
    case atStart => exact ⟨0, Nat.zero_le _, rfl, by rw [hb0.out], Below.refl _ _⟩
    case round =>
      obtain ⟨j, hj, rfl, rfl, hbw⟩ := hrel
      clear hb0
      have e3 := e2.call hbw
      have h3 := bcall h2 hbw
      by_cases hlt : j < N
      · have r3 := rd_at (r2.out.below hbw (Nat.le_refl _) hbw.size) j (by have := hNl.out; omega)
        have hn := opAt_n ns hns'.out j (by have := hNl.out; omega)
        have hnx : Hid (rb N ns (j + 1) = (rb N ns j && rightO (opAt ns j))) := rb_next N ns j (by have := hNl.out; omega)
        obtain ⟨⟨c, m⟩, hee⟩ : ∃ x, opAt ns j = x := ⟨_, rfl⟩
        rw [hee] at r3 hn hnx
        clear hee r2 f2 p2
        obtain ⟨p0, p1⟩ := r3
        simp only at p0 p1 hn
        obtain ⟨⟨⟨xt, xk, xv, xl⟩, xi⟩, hX⟩ : ∃ P, Hid (app ⟨c, m⟩ ⟨t, k, v, l⟩ = P) := ⟨_, rfl⟩
        obtain ⟨ro, hro⟩ : ∃ P, Hid (rightO ⟨c, m⟩ = P) := ⟨_, rfl⟩
        rw [hro.out] at hnx
        obtain ⟨rq, hrq⟩ : ∃ P, Hid (rb N ns j = P) := ⟨_, rfl⟩
        rw [hrq.out] at hnx ⊢
        clear hrq
        have hbk := hbw
        clear h3 hbw e2
        go_upto_region 7 with fail
        refine world_gen (fun W => Opk W wr.heap.size ⟨c, m⟩ ∧ Evk W g ⟨t, k, v, l⟩ ∧ Below w2.heap.size w2 W) ⟨opk_new _ _ _, e3.alloc _, bnew hbk _⟩ ?_
        clear hbk e3 p0 p1
        rintro W3 ⟨o3, e3, h3⟩
        generalize wr.heap.size = gp at o3 ⊢
        have q0 := o3.c0
        have q1 := o3.c1
        simp only at q0 q1
        go_cut [7] (fun q wx => q = .bool (rb N ns (j + 1)) ∧ Below W3.heap.size W3 wx)
        case first =>
          cases rq
          · have hz : Hid (rb N ns (j + 1) = false) := hnx.out
            clear hnx hro
            go_wp2_with fail
            go_meet
            exact ⟨by rw [hz.out], Below.refl _ _⟩
          · have hz : Hid (rb N ns (j + 1) = ro) := hnx.out
            clear hnx
            go_wp2_with fail
            refine (rref_is c m ro _ hro.out).mono ?_
            rintro e w4 ⟨rfl, b4⟩
            go_wp2_with fail
            go_meet
            exact ⟨by rw [hz.out], b4⟩
        case rest =>
          obtain ⟨rfl, b4⟩ := hcut
          have o4 := o3.call b4
          have e4 := e3.call b4
          have h4 := bcall h3 b4
          clear b4 o3 e3 h3 q0 q1 hnx hro
          have q0 := o4.c0
          have q1 := o4.c1
          have q2 := e4.c0
          have q3 := e4.c1
          have q4 := e4.c2
          have q5 := e4.c3
          simp only at q0 q1 q2 q3 q4 q5
          go_wp2_with fail
          refine (apply_is c m t k v l (⟨xt, xk, xv, xl⟩, xi) _ hn hX.out).mono ?_
          rintro e w5 ⟨rfl, b5⟩
          have o5 := o4.call b5
          have e5 := e4.call b5
          have h5 := bcall h4 b5
          clear b5 o4 e4 h4 q0 q1 q2 q3 q4 q5
          go_upto_region 9 with fail
          refine world_gen (fun W => Opk W gp ⟨c, m⟩ ∧ Evk W g ⟨t, k, v, l⟩ ∧ Evk W w5.heap.size ⟨xt, xk, xv, xl⟩ ∧ Below w2.heap.size w2 W) ⟨o5.alloc _, e5.alloc _, evk_new _ _ _ _ _, bnew h5 _⟩ ?_
          clear o5 e5 h5
          rintro W5 ⟨o5, e5, x5, h5⟩
          generalize w5.heap.size = gx at x5 ⊢
          have q0 := o5.c0
          have q1 := o5.c1
          have q2 := e5.c0
          have q3 := e5.c1
          have q4 := e5.c2
          have q5 := e5.c3
          simp only at q0 q1 q2 q3 q4 q5
          go_wp2_with fail
          refine (ref_is c m t k v l (⟨xt, xk, xv, xl⟩, xi) _ hn hX.out).mono ?_
          rintro e w6 ⟨rfl, b6⟩
          have e6 := e5.call b6
          have x6 := x5.call b6
          have h6 := bcall h5 b6
          clear b6 o5 e5 x5 h5 q0 q1 q2 q3 q4 q5
          go_upto_region 10 with fail
          refine world_gen (fun W => Evk W g ⟨t, k, v, l⟩ ∧ Evk W gx ⟨xt, xk, xv, xl⟩ ∧ Evk W w6.heap.size ⟨xt, xk, xv, xl⟩ ∧ Below w2.heap.size w2 W) ⟨e6.alloc _, x6.alloc _, evk_new _ _ _ _ _, bnew h6 _⟩ ?_
          clear e6 x6 h6
          rintro W6 ⟨e6, x6, y6, h6⟩
          generalize w6.heap.size = gy at y6 ⊢
          have q0 := x6.c0
          have q1 := x6.c1
          have q2 := x6.c2
          have q3 := x6.c3
          have q4 := y6.c0
          have q5 := y6.c1
          have q6 := y6.c2
          have q7 := y6.c3
          have q8 := e6.c0
          have q9 := e6.c3
          simp only at q0 q1 q2 q3 q4 q5 q6 q7 q8 q9
          cases xi
          case' true =>
            obtain ⟨rfl, rfl⟩ := app_keeps _ _ _ _ _ _ _ _ _ hX.out
          all_goals
            go_wp2_with fail
            go_roundw
            case rel => exact ⟨j + 1, by omega, by go_num, rfl, h6⟩
            case measure => simp [intOf]; omega
      · obtain rfl : j = N := by omega
        have r3 : Hid (RdO wr _ ns) := r2.out.below hbw (Nat.le_refl _) hbw.size
        have f3 : Hid (RdO wr _ _) := f2.out.below hbw (Nat.le_refl _) hbw.size
        have p3 : Hid (RdO wr _ ns) := p2.out.below hbw (Nat.le_refl _) hbw.size
        have hre : Hid (rb j ns j = rightL ns) := rb_end j ns hNl.out
        obtain ⟨R, hR⟩ : ∃ R, Hid (rightL ns = R) := ⟨_, rfl⟩
        rw [hR.out] at hre
        rw [hre.out]
        clear r2 f2 p2 hbw e2 h2 hre
        obtain ⟨⟨⟨yt, yk, yv, yl⟩, yi⟩, hY⟩ : ∃ P, Hid (run ns ⟨t, k, v, l⟩ = P) := ⟨_, rfl⟩
        go_upto_region 13 with fail
        obtain ⟨V, hV⟩ : ∃ V, V = wr := ⟨_, rfl⟩
        subst hV
        have hC0 : (0 : Int) ≤ j := by omega
        have hC1 : (j : Int) ≤ cf := by omega
        have hC2 : j ≤ cf := by omega
        have hSV := ev_mk e3 (Below.refl _ _).drew
        go_cut [14, 15] (fun p q wx => q = .bool yi ∧ Below V.heap.size V wx ∧ ∃ gy, p = .pointer (some ⟨gy, 0, none⟩) ∧ Evk wx gy ⟨yt, yk, yv, yl⟩)
        case first =>
          refine wp_region_held_drew (S := fun w' => w'.cell? ⟨g, 0, none⟩ = some (.int .i64 t) ∧ w'.cell? ⟨g, 1, none⟩ = some (.int .i64 k) ∧ w'.cell? ⟨g, 2, none⟩ = some (.int .i64 v) ∧ w'.cell? ⟨g, 3, none⟩ = some (.int .u64 l) ∧ Below V.heap.size V w') (by kernel_rfl) hSV (fun hHeld => ?_)
          generalize V.drew = V1 at hSV hHeld ⊢
          refine take_at (i := 0) (v := evv t k v l) rfl rfl (by kernel_rfl) (by kernel_rfl) (by kernel_rfl) (fun _ _ _ h => h) (Or.inl ⟨by rfl, fun X hX => by obtain ⟨c0, c1, c2, c3, _⟩ := hX; go_simp⟩) hHeld ?_
          try simp only [Act.put, List.setIfInBounds_toArray, List.set_cons_zero, List.set_cons_succ]
          refine take_at (i := 1) (v := .slice (some ⟨gf, 0, none⟩) (j + 80) cf) rfl rfl (by kernel_rfl) (by kernel_rfl) (by kernel_rfl) (fun _ _ _ h => h) (Or.inl ⟨by rfl, fun X _ => by go_simp⟩) hHeld ?_
          try simp only [Act.put, List.setIfInBounds_toArray, List.set_cons_zero, List.set_cons_succ]
          refine take_at (i := 2) (v := .slice (some ⟨go, 0, none⟩) j cp) rfl rfl (by kernel_rfl) (by kernel_rfl) (by kernel_rfl) (fun _ _ _ h => h) (Or.inl ⟨by rfl, fun X _ => by go_simp⟩) hHeld ?_
          try simp only [Act.put, List.setIfInBounds_toArray, List.set_cons_zero, List.set_cons_succ]
          refine take_at (i := 3) (v := .int .i64 (j : Int)) rfl rfl (by kernel_rfl) (by kernel_rfl) (by kernel_rfl) (fun _ _ _ h => h) (Or.inl ⟨by rfl, fun X _ => by go_simp⟩) hHeld ?_
          try simp only [Act.put, List.setIfInBounds_toArray, List.set_cons_zero, List.set_cons_succ]
          refine take_at (i := 4) (v := .slice (some ⟨gf, 0, none⟩) j cf) rfl rfl (by kernel_rfl) (by kernel_rfl) (by kernel_rfl) (fun _ _ _ h => h) (Or.inl ⟨by rfl, fun X _ => by go_simp⟩) hHeld ?_
          try simp only [Act.put, List.setIfInBounds_toArray, List.set_cons_zero, List.set_cons_succ]
          refine wpAnyH_ready (rs := [5, 9]) (by kernel_rfl) (by simp) ?_
          refine AllReadyH.cons rfl (fun K hK => ?_) (AllReadyH.cons rfl (fun K hK => ?_) AllReadyH.nil)
          · rw [if_pos (by rfl)]
            go_wp2_with fail
            refine (run_is t k v l _ ns (⟨yt, yk, yv, yl⟩, yi) _ (p3.out.below hSV.2.2.2.2 (Nat.le_refl _) hSV.2.2.2.2.size) hY.out).mono ?_
            rintro e V2 ⟨rfl, hb⟩
            go_wp2_with fail
            have hS2 := ev_call e3 hSV hb
            clear hb
            refine hK.out _ _ (hS2) (fun hHeld => ?_)
            clear hK K
            try simp only [Act.put, List.setIfInBounds_toArray, List.set_cons_zero, List.set_cons_succ]
            refine take_at (i := 6) (v := evp (⟨yt, yk, yv, yl⟩, yi)) rfl rfl (by kernel_rfl) (by kernel_rfl) (by kernel_rfl) (fun _ _ _ h => h) (Or.inl ⟨by rfl, fun X _ => by go_simp⟩) hHeld ?_
            try simp only [Act.put, List.setIfInBounds_toArray, List.set_cons_zero, List.set_cons_succ]
            refine take_at (i := 7) (v := evv yt yk yv yl) rfl rfl (by kernel_rfl) (by kernel_rfl) (by kernel_rfl) (fun _ _ _ h => h) (Or.inl ⟨by rfl, fun X _ => by go_simp⟩) hHeld ?_
            try simp only [Act.put, List.setIfInBounds_toArray, List.set_cons_zero, List.set_cons_succ]
            refine take_at (i := 8) (v := .bool yi) rfl rfl (by kernel_rfl) (by kernel_rfl) (by kernel_rfl) (fun _ _ _ h => h) (Or.inl ⟨by rfl, fun X _ => by go_simp⟩) hHeld ?_
            try simp only [Act.put, List.setIfInBounds_toArray, List.set_cons_zero, List.set_cons_succ]
            refine wpAnyH_ready (rs := [9]) (by kernel_rfl) (by simp) ?_
            refine AllReadyH.cons rfl (fun K hK => ?_) AllReadyH.nil
            rw [if_pos (by rfl)]
            go_simp
            refine hK.out _ _ (ev_alloc e3 hS2 _) (fun hHeld => ?_)
            clear hK K
            try simp only [Act.put, List.setIfInBounds_toArray, List.set_cons_zero, List.set_cons_succ]
            refine wpAnyH_ready (rs := [10]) (by kernel_rfl) (by simp) ?_
            refine AllReadyH.cons rfl (fun K hK => ?_) AllReadyH.nil
            rw [if_pos (by rfl)]
            go_simp
            refine hK.out _ _ (ev_alloc e3 hS2 _) (fun hHeld => ?_)
            clear hK K
            try simp only [Act.put, List.setIfInBounds_toArray, List.set_cons_zero, List.set_cons_succ]
            refine take_at (i := 11) (v := .bool yi) rfl rfl (by kernel_rfl) (by kernel_rfl) (by kernel_rfl) (fun _ _ _ h => h) (Or.inl ⟨by rfl, fun X _ => by go_simp⟩) hHeld ?_
            try simp only [Act.put, List.setIfInBounds_toArray, List.set_cons_zero, List.set_cons_succ]
            refine wpAnyH_done (by kernel_rfl) ?_ _
            go_wp2_with fail
            go_meet
            exact ⟨rfl, bnew hS2.2.2.2.2 _, _, rfl, evk_new _ _ _ _ _⟩
          · rw [if_pos (by rfl)]
            go_simp
            have hS2 := ev_alloc e3 hSV (.cells #[.int .i64 0, .int .i64 0, .int .i64 0, .int .u64 0] 24)
            refine hK.out _ _ (hS2) (fun hHeld => ?_)
            clear hK K
            try simp only [Act.put, List.setIfInBounds_toArray, List.set_cons_zero, List.set_cons_succ]
            refine wpAnyH_ready (rs := [5]) (by kernel_rfl) (by simp) ?_
            refine AllReadyH.cons rfl (fun K hK => ?_) AllReadyH.nil
            rw [if_pos (by rfl)]
            go_wp2_with fail
            refine (run_is t k v l _ ns (⟨yt, yk, yv, yl⟩, yi) _ (p3.out.below hS2.2.2.2.2 (Nat.le_refl _) hS2.2.2.2.2.size) hY.out).mono ?_
            rintro e V2 ⟨rfl, hb⟩
            go_wp2_with fail
            have hS3 := ev_call e3 hS2 hb
            have hy := (evk_new V1 0 0 0 0).call hb
            have hbs : V.heap.size ≤ V1.heap.size := hSV.2.2.2.2.size
            clear hb
            refine hK.out _ _ (hS3) (fun hHeld => ?_)
            clear hK K
            try simp only [Act.put, List.setIfInBounds_toArray, List.set_cons_zero, List.set_cons_succ]
            refine take_at (i := 6) (v := evp (⟨yt, yk, yv, yl⟩, yi)) rfl rfl (by kernel_rfl) (by kernel_rfl) (by kernel_rfl) (fun _ _ _ h => h) (Or.inl ⟨by rfl, fun X _ => by go_simp⟩) hHeld ?_
            try simp only [Act.put, List.setIfInBounds_toArray, List.set_cons_zero, List.set_cons_succ]
            refine take_at (i := 7) (v := evv yt yk yv yl) rfl rfl (by kernel_rfl) (by kernel_rfl) (by kernel_rfl) (fun _ _ _ h => h) (Or.inl ⟨by rfl, fun X _ => by go_simp⟩) hHeld ?_
            try simp only [Act.put, List.setIfInBounds_toArray, List.set_cons_zero, List.set_cons_succ]
            refine take_at (i := 8) (v := .bool yi) rfl rfl (by kernel_rfl) (by kernel_rfl) (by kernel_rfl) (fun _ _ _ h => h) (Or.inl ⟨by rfl, fun X _ => by go_simp⟩) hHeld ?_
            try simp only [Act.put, List.setIfInBounds_toArray, List.set_cons_zero, List.set_cons_succ]
            have y0 := hy.c0
            have y1 := hy.c1
            have y2 := hy.c2
            have y3 := hy.c3
            have f0 := hy.free 0
            have f1 := hy.free 1
            have f2 := hy.free 2
            have f3 := hy.free 3
            refine wpAnyH_ready (rs := [10]) (by kernel_rfl) (by simp) ?_
            refine AllReadyH.cons rfl (fun K hK => ?_) AllReadyH.nil
            rw [if_pos (by rfl)]
            go_simp
            refine hK.out _ _ (ev_set e3 hS3 hbs _ _ _ _) (fun hHeld => ?_)
            clear hK K
            try simp only [Act.put, List.setIfInBounds_toArray, List.set_cons_zero, List.set_cons_succ]
            refine take_at (i := 11) (v := .bool yi) rfl rfl (by kernel_rfl) (by kernel_rfl) (by kernel_rfl) (fun _ _ _ h => h) (Or.inl ⟨by rfl, fun X _ => by go_simp⟩) hHeld ?_
            try simp only [Act.put, List.setIfInBounds_toArray, List.set_cons_zero, List.set_cons_succ]
            refine wpAnyH_done (by kernel_rfl) ?_ _
            go_wp2_with fail
            go_meet
            exact ⟨rfl, below_set4 hS3.2.2.2.2 hbs _ _ _ _, _, rfl, hy.set _ _ _ _⟩
        case rest =>
          obtain ⟨rfl, hbv, gy, rfl, y4⟩ := hcut
          have e4 := e3.call hbv
          have h4 := bcall h3 hbv
          have r4 : Hid (RdO _ _ ns) := r3.out.below hbv (Nat.le_refl _) hbv.size
          have f4 : Hid (RdO _ _ _) := f3.out.below hbv (Nat.le_refl _) hbv.size
          clear r3 f3 p3 e3 h3 hbv hSV hC0 hC1 hC2
          have q0 := e4.c0
          have q1 := e4.c1
          have q2 := e4.c2
          have q3 := e4.c3
          simp only at q0 q1 q2 q3
          go_wp2_with fail
          refine (rrun_is t k v l _ ns (⟨yt, yk, yv, yl⟩, yi) _ r4.out hY.out).mono ?_
          rintro e w5 ⟨rfl, b5⟩
          have y5 := y4.call b5
          have h5 := bcall h4 b5
          have r5 : Hid (RdO _ _ ns) := r4.out.below b5 (Nat.le_refl _) b5.size
          have f5 : Hid (RdO _ _ _) := f4.out.below b5 (Nat.le_refl _) b5.size
          clear r4 f4 e4 h4 y4 b5 q0 q1 q2 q3
          go_upto_region 15 with fail
          refine world_gen (fun W => Evk W gy ⟨yt, yk, yv, yl⟩ ∧ Evk W w5.heap.size ⟨yt, yk, yv, yl⟩ ∧ Hid (RdO W (.slice (some ⟨go, 0, none⟩) j cp) ns) ∧ Hid (RdO W (.slice (some ⟨gf, 0, none⟩) (j + 80) cf) (ns ++ List.replicate 80 (⟨9, 0⟩ : Oq))) ∧ Below w.heap.size w W) ⟨y5.alloc _, evk_new _ _ _ _ _, r5.out.below (below_alloc _ _) (Nat.le_refl _) (by simp), f5.out.below (below_alloc _ _) (Nat.le_refl _) (by simp), bnew h5 _⟩ ?_
          clear y5 r5 f5 h5
          rintro W5 ⟨y5, z5, r5, f5, h5⟩
          generalize w5.heap.size = gz at z5 ⊢
          go_wp2_with fail
          refine (right_any _ ns R _ r5.out hR.out).mono ?_
          rintro e w6 ⟨rfl, b6⟩
          have y6 := y5.call b6
          have z6 := z5.call b6
          have h6 := bcall h5 b6
          have r6 : Hid (RdO _ _ ns) := r5.out.below b6 (Nat.le_refl _) b6.size
          have f6 : Hid (RdO _ _ _) := f5.out.below b6 (Nat.le_refl _) b6.size
          clear r5 f5 y5 z5 h5 b6 hR hY
          have q0 := y6.c0
          have q1 := y6.c1
          have q2 := y6.c2
          have q3 := y6.c3
          have q4 := z6.c0
          have q5 := z6.c1
          have q6 := z6.c2
          have q7 := z6.c3
          simp only at q0 q1 q2 q3 q4 q5 q6 q7
          cases R <;> cases yi
          all_goals
            go_wp2_with fail
            refine (intact_any _ _ ns 9 0 _ f6.out r6.out (by have := hNl.out; omega)).mono ?_
            rintro e w7 ⟨rfl, b7⟩
            have h7 := bcall h6 b7
            clear q0 q1 q2 q3 q4 q5 q6 q7 y6 z6 b7 h6
            go_wp2_with fail
            refine (operRuns_walk w7).mono ?_
            rintro e w8 ⟨rfl, b8⟩
            go_wp2
            go_ret
            exact ⟨rfl, bcall h7 b8⟩
theorem operTells_walk (a0 : Option Addr) (len0 cap0 : Nat) (z0 : List Oq) (x : Ev) (w : World) (w0 : IsOps w a0 len0 cap0 z0) (_ : I64 x.v) :
    Calls Try.prog 4 #[.slice a0 len0 cap0, ev x] w fun e w' => e = .returned (.bool true) ∧ Below w.heap.size w w' :=
  tells_core a0 len0 cap0 z0 x.t x.k x.v x.l w w0
end Go.Proofs.Ytfhkmgjnmmaakaa
