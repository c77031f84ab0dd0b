/- ClockFirst, walked: of any times and any number it returns true, and nothing that was there is written. -/
import Derived.Test.YtgpjjkfgobjfcaaPlays
import Derived.Test.YtgpjjkfgobjfcaaOwn
namespace Go.Proofs.Ytgpjjkfgobjfcaa
open Go.RowKit

theorem own_but {w w' : World} {base : Nat} {e : TypeId} {size : Nat} {v : Value} {n d : Nat} {xs : List Value} (h : w.ownsRow base e size v n xs) (hb : But d w w') (hd : ∀ k, v.ownBlock = some k → k < d) : w'.ownsRow base e size v n xs := by
  obtain ⟨h1, h | ⟨g, cap, cur, rfl, h2, hh, r⟩⟩ := h
  · exact ⟨h1, .inl h⟩
  · have hg := hd g rfl
    exact ⟨h1, .inr ⟨g, cap, cur, rfl, h2, (hb.other g (by omega)).trans hh, r⟩⟩
theorem least_step (ms : List Int) (t L : Int) (h : least ms = L) : least (ms ++ [t]) = if ms.length = 0 ∨ t < L then t else L := by
  by_cases h0 : ms.length = 0
  · have : ms = [] := List.eq_nil_of_length_eq_zero h0
    subst this
    rw [if_pos (.inl h0)]; rfl
  · rw [least_more ms t (by intro h; subst h; exact h0 rfl), h]
    by_cases h1 : t < L
    · rw [if_pos (.inr h1)]; omega
    · rw [if_neg (by omega)]; omega

attribute [local go_sem ↓] Go.wp_at_zero Go.wp_at_succ
set_option maxHeartbeats 4000000 in
set_option maxRecDepth 100000 in
theorem first_core (a0 : Option Addr) (len0 cap0 : Nat) (z0 : List Int) (cut : Int) (w : World) (row0 : IsInts w a0 len0 cap0 z0) :
    Calls Try.prog 5 #[.slice a0 len0 cap0, .int .i64 cut] w fun e w' => e = .returned (.bool true) ∧ Below w.heap.size w w' := by
  obtain ⟨i0, hi, hz0, hz1, hz2⟩ := info_parts Try.info23
  obtain ⟨hlen0, hcap0, hlc0, hr0'⟩ := ints_at row0
  have hr0 : Hid (∀ k, k < len0 → ∃ b off n, a0 = some ⟨b, off, none⟩ ∧ b < w.heap.size ∧ w.cell? ⟨b, off + k, none⟩ = some (.int .i64 n) ∧ (Lit.int .i64 n).wf = true) := hr0'
  clear row0 hr0'
  go_enter Try.func5, Try.ntmps5
  go_upto_block 0 with fail
  go_cut [5, 6] (fun cv lv wx => ∃ (ms : List Int) (ao : Option Addr) (cp : Nat), ms.length ≤ 12 ∧ cv = .slice ao ms.length cp ∧ lv = .int .i64 (least ms) ∧ Hid (∀ m ∈ ms, 1 ≤ m) ∧ Hid (wx.ownsRow w.heap.size 23 3 (.slice ao ms.length cp) ms.length (mv ms)) ∧ Below w.heap.size w wx)
  case first =>
    go_wp2_with fail
    go_loopw [5, 6, 7] (fun cv lv iv wr => ∃ (ms : List Int) (ao : Option Addr) (cp : Nat), ms.length ≤ len0 ∧ ms.length ≤ 12 ∧ cv = .slice ao ms.length cp ∧ lv = .int .i64 (least ms) ∧ iv = .int .i64 ms.length ∧ Hid (∀ m ∈ ms, 1 ≤ m) ∧ Hid (wr.ownsRow w.heap.size 23 3 (.slice ao ms.length cp) ms.length (mv ms)) ∧ Below w.heap.size w wr) (fun _ _ i _ => len0 - (intOf i).toNat)
    case atStart => exact ⟨[], none, 0, Nat.zero_le _, Nat.zero_le _, rfl, rfl, rfl, by unfold Hid; simp, ⟨rfl, .inl ⟨rfl, rfl⟩⟩, Below.refl _ _⟩
    case round =>
      obtain ⟨ms, ao, cp, hk, hk12, rfl, rfl, rfl, hge, hown, hbw⟩ := hrel
      obtain ⟨k, hkk⟩ : ∃ k, Hid (ms.length = k) := ⟨_, rfl⟩
      obtain ⟨L, hL⟩ : ∃ L, Hid (least ms = L) := ⟨_, rfl⟩
      rw [hkk.out] at hk hk12 hown ⊢
      rw [hL.out]
      have hways : (k < len0 ∧ k < 12) ∨ (¬ k < len0 ∨ k < len0 ∧ ¬ k < 12) := by omega
      rcases hways with ⟨hlt, hlt2⟩ | hstop
      · obtain ⟨b, off, n, rfl, hb, c0, -⟩ := hr0.out k hlt
        clear hr0
        go_upto_region 7 with fail
        have hd : w.heap.size ≤ wr.heap.size := hbw.size
        have hdo : Hid (∀ j, (Value.slice ao k cp).ownBlock = some j → j < wr.heap.size) := fun j hj => (hown.out.lt j hj).2
        refine world_gen (fun W => Clk W wr.heap.size 0 0 0 ∧ Below w.heap.size w W ∧ Hid (W.ownsRow w.heap.size 23 3 (.slice ao k cp) k (mv ms)))
          ⟨clk_new _, hbw.alloc hd _, own_below hown.out (below_alloc _ _) (Nat.le_refl _)⟩ ?_
        clear hown hbw
        rintro W ⟨hclk, hbw, hown⟩
        rw [← hbw.cell (p := ⟨b, off + k, none⟩) hb] at c0
        generalize wr.heap.size = d at hclk hd hdo ⊢
        go_wp2_with fail
        refine (within_any n 1 1099511627776 _ (by decide) (by decide) (by decide)).mono ?_
        rintro e w' ⟨⟨t, ht0, ht1, rfl⟩, he⟩; subst he
        go_wp2_with fail
        refine (advance_any _ _ _ _ _ _ hclk true t (.inl ⟨by omega, rfl, rfl⟩)).mono ?_
        rintro e W1 ⟨rfl, k1, b1⟩
        have hb1 := hbw.trans (b1.below.mono hd)
        have hown1 : Hid (W1.ownsRow w.heap.size 23 3 (.slice ao k cp) k (mv ms)) := own_but hown.out b1 hdo.out
        clear hclk hbw b1 hown c0
        have e0 := k1.c0
        have e1 := k1.c1
        have e2 := k1.c2
        go_wp2_with fail
        refine (first_any _ [t] _ t (rd_own (own_one W1 t)) rfl).mono ?_
        rintro e W2 ⟨rfl, b2⟩
        have ba := below_alloc W1 (.cells #[.int .i64 t, .int .i64 0, .int .i64 0] 23)
        have b2' : Below W1.heap.size W1 W2 := ba.trans (b2.mono ba.size)
        have k2 := k1.below b2' k1.lt
        have hb2 := keep_call hb1 b2' hb1.size
        have hown2 : Hid (W2.ownsRow w.heap.size 23 3 (.slice ao k cp) k (mv ms)) := own_below hown1.out b2' (Nat.le_refl _)
        clear e0 e1 e2 k1 hb1 hown1 ba b2 b2'
        have e0 := k2.c0
        have e1 := k2.c1
        have e2 := k2.c2
        have hst : Hid (least (ms ++ [t]) = if k = 0 ∨ t < L then t else L) := by
          have := least_step ms t L hL.out
          rw [hkk.out] at this
          exact this
        have hge2 : Hid (∀ m ∈ ms ++ [t], 1 ≤ m) := by
          intro m hm
          rcases List.mem_append.1 hm with hm | hm
          · exact hge.out m hm
          · rw [List.mem_singleton.1 hm]; exact ht0
        have hl2 : Hid ((ms ++ [t]).length = k + 1) := by
          have h : (ms ++ [t]).length = k + 1 := by rw [List.length_append, hkk.out]; rfl
          exact h
        have hown3 : Hid ((W2.alloc (.cells #[.int .i64 t, .int .i64 0, .int .i64 0] 23)).ownsRow w.heap.size 23 3 (.slice ao k cp) k (mv ms)) := own_below hown2.out (below_alloc _ _) (Nat.le_refl _)
        have hb3 : Below w.heap.size w (W2.alloc (.cells #[.int .i64 t, .int .i64 0, .int .i64 0] 23)) := hb2.alloc hb2.size _
        have src3 : Hid (Src (W2.alloc (.cells #[.int .i64 t, .int .i64 0, .int .i64 0] 23)) (.slice (some ⟨W2.heap.size, 0, none⟩) 1 1) 1 (mv [t])) := src_one W2 t
        by_cases h0 : k = 0
        · subst h0
          have hv : Hid (least (ms ++ [t]) = t) := by
            have h : least (ms ++ [t]) = t := by rw [hst.out, if_pos (.inl rfl)]
            exact h
          clear hst
          go_wp2_with (at_builtin; refine wpList_append_src _ (by rfl) _ _ 32 rfl w.heap.size 23 i0 (.agg #[.int .i64 0, .int .i64 0, .int .i64 0]) 24 Try.underlying32 hi hz0 hz1 hz2 rfl _ 0 (mv ms) rfl hown3.out _ 1 (mv [t]) rfl src3.out (mv_one _) (by unfold maxLen; omega) (by omega) hb3.size ?_)
          intro v' W3 hown' hb'
          have hown4 : Hid (W3.ownsRow w.heap.size 23 3 v' (ms ++ [t]).length (mv (ms ++ [t]))) := by
            have h : W3.ownsRow w.heap.size 23 3 v' (ms ++ [t]).length (mv (ms ++ [t])) := by rw [mv_append, hl2.out]; exact hown'
            exact h
          have hb4 : Below w.heap.size w W3 := hb3.trans hb'
          clear hown' hb' hown3 src3 hb3 hown2 hb2 e0 e1 e2 k2
          obtain ⟨ao', cp', hshape⟩ : ∃ ao' cp', v' = .slice ao' (0 + 1) cp' := by
            rcases own_shape hown4.out with ⟨_, h⟩ | ⟨g, cap, h, _, _⟩
            · have := hl2.out; omega
            · exact ⟨_, _, by rw [h, hl2.out]⟩
          subst hshape
          go_wp2_with fail
          go_roundw
          case rel => exact ⟨ms ++ [t], ao', cp', by rw [hl2.out]; omega, by rw [hl2.out]; omega, by rw [hl2.out], val_int hv.out.symm, by rw [hl2.out]; go_num, hge2, by rw [hl2.out]; have h := hown4.out; rw [hl2.out] at h; exact h, hb4⟩
          case measure => simp [intOf]; omega
        · have hk0 : ((k : Int) == 0) = false := by simp; omega
          by_cases h1 : t < L
          · have hv : Hid (least (ms ++ [t]) = t) := by
              have h : least (ms ++ [t]) = t := by rw [hst.out, if_pos (.inr h1)]
              exact h
            clear hst
            go_wp2_with (at_builtin; refine wpList_append_src _ (by rfl) _ _ 32 rfl w.heap.size 23 i0 (.agg #[.int .i64 0, .int .i64 0, .int .i64 0]) 24 Try.underlying32 hi hz0 hz1 hz2 rfl _ k (mv ms) rfl hown3.out _ 1 (mv [t]) rfl src3.out (mv_one _) (by unfold maxLen; omega) (by omega) hb3.size ?_)
            intro v' W3 hown' hb'
            have hown4 : Hid (W3.ownsRow w.heap.size 23 3 v' (ms ++ [t]).length (mv (ms ++ [t]))) := by
              have h : W3.ownsRow w.heap.size 23 3 v' (ms ++ [t]).length (mv (ms ++ [t])) := by rw [mv_append, hl2.out]; exact hown'
              exact h
            have hb4 : Below w.heap.size w W3 := hb3.trans hb'
            clear hown' hb' hown3 src3 hb3 hown2 hb2 e0 e1 e2 k2
            obtain ⟨ao', cp', hshape⟩ : ∃ ao' cp', v' = .slice ao' (k + 1) cp' := by
              rcases own_shape hown4.out with ⟨_, h⟩ | ⟨g, cap, h, _, _⟩
              · have := hl2.out; omega
              · exact ⟨_, _, by rw [h, hl2.out]⟩
            subst hshape
            go_wp2_with fail
            go_roundw
            case rel => exact ⟨ms ++ [t], ao', cp', by rw [hl2.out]; omega, by rw [hl2.out]; omega, by rw [hl2.out], val_int hv.out.symm, by rw [hl2.out]; go_num, hge2, by rw [hl2.out]; have h := hown4.out; rw [hl2.out] at h; exact h, hb4⟩
            case measure => simp [intOf]; omega
          · have hv : Hid (least (ms ++ [t]) = L) := by
              have h : least (ms ++ [t]) = L := by rw [hst.out, if_neg (by omega)]
              exact h
            clear hst
            go_wp2_with (at_builtin; refine wpList_append_src _ (by rfl) _ _ 32 rfl w.heap.size 23 i0 (.agg #[.int .i64 0, .int .i64 0, .int .i64 0]) 24 Try.underlying32 hi hz0 hz1 hz2 rfl _ k (mv ms) rfl hown3.out _ 1 (mv [t]) rfl src3.out (mv_one _) (by unfold maxLen; omega) (by omega) hb3.size ?_)
            intro v' W3 hown' hb'
            have hown4 : Hid (W3.ownsRow w.heap.size 23 3 v' (ms ++ [t]).length (mv (ms ++ [t]))) := by
              have h : W3.ownsRow w.heap.size 23 3 v' (ms ++ [t]).length (mv (ms ++ [t])) := by rw [mv_append, hl2.out]; exact hown'
              exact h
            have hb4 : Below w.heap.size w W3 := hb3.trans hb'
            clear hown' hb' hown3 src3 hb3 hown2 hb2 e0 e1 e2 k2
            obtain ⟨ao', cp', hshape⟩ : ∃ ao' cp', v' = .slice ao' (k + 1) cp' := by
              rcases own_shape hown4.out with ⟨_, h⟩ | ⟨g, cap, h, _, _⟩
              · have := hl2.out; omega
              · exact ⟨_, _, by rw [h, hl2.out]⟩
            subst hshape
            go_wp2_with fail
            go_roundw
            case rel => exact ⟨ms ++ [t], ao', cp', by rw [hl2.out]; omega, by rw [hl2.out]; omega, by rw [hl2.out], val_int hv.out.symm, by rw [hl2.out]; go_num, hge2, by rw [hl2.out]; have h := hown4.out; rw [hl2.out] at h; exact h, hb4⟩
            case measure => simp [intOf]; omega
      · rcases hstop with hs | ⟨hs, hs'⟩
        all_goals go_wp2_with fail
        all_goals go_meet
        all_goals exact ⟨ms, ao, cp, by rw [hkk.out]; omega, by rw [hkk.out], val_int hL.out.symm, hge, by rw [hkk.out]; exact hown, hbw⟩
  case rest =>
    obtain ⟨ms, ao, cp, hk12, rfl, rfl, hge, hown, hbw⟩ := hcut
    obtain ⟨W0, hW0⟩ : ∃ W0, W0 = wc := ⟨_, rfl⟩
    subst hW0
    clear hr0
    obtain ⟨k, hkk⟩ : ∃ k, Hid (ms.length = k) := ⟨_, rfl⟩
    obtain ⟨L, hL⟩ : ∃ L, Hid (least ms = L) := ⟨_, rfl⟩
    rw [hkk.out] at hk12 hown ⊢
    rw [hL.out]
    go_wp2_with fail
    refine (within_any cut 0 k _ (by decide) (by omega) (by omega)).mono ?_
    rintro e w' ⟨⟨C', hC0, hC1, rfl⟩, he⟩; obtain rfl := he.symm; clear he
    obtain ⟨C, rfl⟩ := Int.eq_ofNat_of_zero_le hC0
    have hC : C ≤ k := by omega
    clear hC0 hC1
    go_upto_region 15 with fail
    refine world_gen (fun W => Clk W W0.heap.size 0 0 0 ∧ Below w.heap.size w W ∧ Hid (W.ownsRow w.heap.size 23 3 (.slice ao k cp) k (mv ms)))
      ⟨clk_new _, hbw.alloc hbw.size _, own_below hown.out (below_alloc _ _) (Nat.le_refl _)⟩ ?_
    have hzb : w.heap.size ≤ W0.heap.size := hbw.size
    have hzn : Hid (∀ j, (Value.slice ao k cp).ownBlock = some j → j < W0.heap.size) := fun j hj => (hown.out.lt j hj).2
    clear hown hbw
    rintro W ⟨hclk, hbw, hown⟩
    generalize W0.heap.size = z at hclk hzb hzn ⊢
    obtain ⟨u1, u2, hparts, s1', s2'⟩ := parts_ex (C := C) (by rw [hkk.out]; exact hown.out) (by rw [hkk.out]; exact hC)
    rw [hkk.out] at hparts
    have hd1 : (ms.drop C).length = k - C := by rw [List.length_drop, hkk.out]
    have hd2 : (ms.take C).length = C := by rw [List.length_take, hkk.out]; omega
    rw [hd1] at s1'
    rw [hd2] at s2'
    have s1 : Hid (Src W.drew u1 (k - C) (mv (ms.drop C))) := s1'
    have s2 : Hid (Src W.drew u2 C (mv (ms.take C))) := s2'
    have hclk' : Hid (Clk W.drew z 0 0 0) := hclk
    have hbw' : Below w.heap.size w W.drew := hbw.drew
    have hown' : Hid (W.drew.ownsRow w.heap.size 23 3 (.slice ao k cp) k (mv ms)) := hown
    have hturn : Hid (least (ms.drop C ++ ms.take C) = L) := by
      have h : least (ms.drop C ++ ms.take C) = L := by rw [least_turn, hL.out]
      exact h
    have hnought : Hid (least (ms ++ [0]) = 0) := least_nought ms fun x hx => by have := hge.out x hx; omega
    clear hclk hbw hown s1' s2' hd1 hd2 hge
    refine wp_region_held_drew (S := fun _ => True) (by kernel_rfl) trivial (fun hHeld => ?_)
    generalize W.drew = V at s1 s2 hclk' hbw' hown' ⊢
    refine take_at (i := 0) (v := .slice ao k cp) rfl rfl (by kernel_rfl) (by kernel_rfl) (by kernel_rfl) (fun _ _ _ h => h) (Or.inl ⟨by rfl, fun X _ => by go_simp⟩) trivial ?_
    try simp only [Act.put, List.setIfInBounds_toArray, List.set_cons_zero, List.set_cons_succ]
    refine take_at (i := 2) (v := .int .i64 L) rfl rfl (by kernel_rfl) (by kernel_rfl) (by kernel_rfl) (fun _ _ _ h => h) (Or.inl ⟨by rfl, fun X _ => by go_simp⟩) trivial ?_
    try simp only [Act.put, List.setIfInBounds_toArray, List.set_cons_zero, List.set_cons_succ]
    refine wpAnyH_ready (rs := [1]) (by kernel_rfl) (by simp) ?_
    refine AllReadyH.cons rfl (fun K hK => ?_) AllReadyH.nil
    rw [if_pos (by rfl)]
    go_wp2_with fail
    refine (first_any _ ms V L (rd_own (by rw [hkk.out]; exact hown'.out)) hL.out).mono ?_
    rintro e V1 ⟨rfl, b1⟩
    go_wp2_with fail
    refine hK.out _ _ trivial (fun hHeld => ?_)
    clear hK K
    try simp only [Act.put, List.setIfInBounds_toArray, List.set_cons_zero, List.set_cons_succ]
    have t1 : Below w.heap.size w V1 := keep_call hbw' b1 hbw'.size
    have s1b : Hid (Src V1 u1 (k - C) (mv (ms.drop C))) := s1.out.below b1 (Nat.le_refl _)
    have s2b : Hid (Src V1 u2 C (mv (ms.take C))) := s2.out.below b1 (Nat.le_refl _)
    have z1 : Hid (Clk V1 z 0 0 0) := hclk'.out.below b1 hclk'.out.lt
    have o1 : Hid (V1.ownsRow w.heap.size 23 3 (.slice ao k cp) k (mv ms)) := own_below hown'.out b1 (Nat.le_refl _)
    clear s1 s2 hclk' hbw' hown' b1
    refine take_at (i := 3) (v := .bool true) rfl rfl (by kernel_rfl) (by kernel_rfl) (by kernel_rfl) (fun _ _ _ h => h) (Or.inl ⟨by rfl, fun X _ => by go_simp⟩) trivial ?_
    try simp only [Act.put, List.setIfInBounds_toArray, List.set_cons_zero, List.set_cons_succ]
    refine take_at (i := 4) (v := .bool true) rfl rfl (by kernel_rfl) (by kernel_rfl) (by kernel_rfl) (fun _ _ _ h => h) (Or.inl ⟨by rfl, fun X _ => by go_simp⟩) trivial ?_
    try simp only [Act.put, List.setIfInBounds_toArray, List.set_cons_zero, List.set_cons_succ]
    refine take_at (i := 6) (v := .slice ao k cp) rfl rfl (by kernel_rfl) (by kernel_rfl) (by kernel_rfl) (fun _ _ _ h => h) (Or.inl ⟨by rfl, fun X _ => by go_simp⟩) trivial ?_
    try simp only [Act.put, List.setIfInBounds_toArray, List.set_cons_zero, List.set_cons_succ]
    refine take_at (i := 7) (v := .int .i64 (C : Int)) rfl rfl (by kernel_rfl) (by kernel_rfl) (by kernel_rfl) (fun _ _ _ h => h) (Or.inl ⟨by rfl, fun X _ => by go_simp⟩) trivial ?_
    try simp only [Act.put, List.setIfInBounds_toArray, List.set_cons_zero, List.set_cons_succ]
    refine take_at (i := 8) (v := u1) rfl rfl (by kernel_rfl) (by kernel_rfl) (by kernel_rfl) (fun _ _ _ h => h) (Or.inl ⟨by rfl, fun X _ => ?sl1⟩) trivial ?_
    case sl1 =>
      rcases hparts with ⟨rfl, rfl, rfl, rfl, rfl, rfl⟩ | ⟨g, rfl, p1, p2, p3, rfl, ⟨rfl, rfl⟩ | ⟨p4, rfl⟩⟩
      · go_simp
      · have p5 : k = C := by omega
        subst p5
        go_simp
      · go_simp
        omega
    try simp only [Act.put, List.setIfInBounds_toArray, List.set_cons_zero, List.set_cons_succ]
    refine take_at (i := 10) (v := .slice ao k cp) rfl rfl (by kernel_rfl) (by kernel_rfl) (by kernel_rfl) (fun _ _ _ h => h) (Or.inl ⟨by rfl, fun X _ => by go_simp⟩) trivial ?_
    try simp only [Act.put, List.setIfInBounds_toArray, List.set_cons_zero, List.set_cons_succ]
    refine take_at (i := 11) (v := .int .i64 (C : Int)) rfl rfl (by kernel_rfl) (by kernel_rfl) (by kernel_rfl) (fun _ _ _ h => h) (Or.inl ⟨by rfl, fun X _ => by go_simp⟩) trivial ?_
    try simp only [Act.put, List.setIfInBounds_toArray, List.set_cons_zero, List.set_cons_succ]
    refine take_at (i := 12) (v := u2) rfl rfl (by kernel_rfl) (by kernel_rfl) (by kernel_rfl) (fun _ _ _ h => h) (Or.inl ⟨by rfl, fun X _ => ?sl2⟩) trivial ?_
    case sl2 =>
      rcases hparts with ⟨rfl, rfl, rfl, rfl, rfl, rfl⟩ | ⟨g, rfl, p1, p2, p3, rfl, ⟨rfl, rfl⟩ | ⟨p4, rfl⟩⟩
      · go_simp
      · go_simp
      · have p5 : C ≤ cp := by omega
        go_simp
    try simp only [Act.put, List.setIfInBounds_toArray, List.set_cons_zero, List.set_cons_succ]
    refine take_at (i := 15) (v := .int .i64 L) rfl rfl (by kernel_rfl) (by kernel_rfl) (by kernel_rfl) (fun _ _ _ h => h) (Or.inl ⟨by rfl, fun X _ => by go_simp⟩) trivial ?_
    try simp only [Act.put, List.setIfInBounds_toArray, List.set_cons_zero, List.set_cons_succ]
    refine wpAnyH_ready (rs := [5]) (by kernel_rfl) (by simp) ?_
    refine AllReadyH.cons rfl (fun K hK => ?_) AllReadyH.nil
    rw [if_pos (by rfl)]
    go_simp
    refine hK.out _ _ trivial (fun hHeld => ?_)
    clear hK K
    try simp only [Act.put, List.setIfInBounds_toArray, List.set_cons_zero, List.set_cons_succ]
    have hownL : (V1.alloc (.cells #[] 23)).ownsRow V1.heap.size 23 3 (.slice (some ⟨V1.heap.size, 0, none⟩) 0 0) 0 [] :=
      World.ownsRow_lit V1 #[] 0 (Nat.le_refl _) (by unfold maxLen; omega) (by simp)
    refine wpAnyH_ready (rs := [9]) (by kernel_rfl) (by simp) ?_
    refine AllReadyH.cons rfl (fun K hK => ?_) AllReadyH.nil
    refine step_append_src _ rfl (by rfl) (.tmp 58) (.tmp 61) 32 rfl V1.heap.size 23 i0 (.agg #[.int .i64 0, .int .i64 0, .int .i64 0]) 24 Try.underlying32 hi hz0 hz1 hz2 rfl _ 0 [] rfl hownL u1 (k - C) (mv (ms.drop C)) rfl (s1b.out.below (below_alloc V1 _) (Nat.le_refl _)) (mv_one _) (by unfold maxLen; omega) (by omega) (below_alloc V1 _).size ?_
    intro v5 V2 o5 b5
    have t5 : Below V1.heap.size V1 V2 := (below_alloc V1 _).trans b5
    refine hK.out _ _ trivial (fun hHeld => ?_)
    clear hK K
    try simp only [Act.put, List.setIfInBounds_toArray, List.set_cons_zero, List.set_cons_succ]
    clear b5 hownL
    refine wpAnyH_ready (rs := [13]) (by kernel_rfl) (by simp) ?_
    refine AllReadyH.cons rfl (fun K hK => ?_) AllReadyH.nil
    refine step_append_src _ rfl (by rfl) (.tmp 62) (.tmp 65) 32 rfl V1.heap.size 23 i0 (.agg #[.int .i64 0, .int .i64 0, .int .i64 0]) 24 Try.underlying32 hi hz0 hz1 hz2 rfl _ _ _ rfl o5 u2 C (mv (ms.take C)) rfl (s2b.out.below t5 (Nat.le_refl _)) (mv_one _) (by unfold maxLen; omega) (by omega) t5.size ?_
    intro v6 V3 o6 b6
    have t6 : Below V1.heap.size V1 V3 := t5.trans b6
    refine hK.out _ _ trivial (fun hHeld => ?_)
    clear hK K
    try simp only [Act.put, List.setIfInBounds_toArray, List.set_cons_zero, List.set_cons_succ]
    have hr6 : RdC V3 v6 (ms.drop C ++ ms.take C) := by
      refine rd_own (base := V1.heap.size) (e := 23) ?_
      have e1 : (ms.drop C ++ ms.take C).length = 0 + (k - C) + C := by rw [List.length_append, List.length_drop, List.length_take, hkk.out]; omega
      rw [e1, mv_append]
      exact o6
    clear o5 o6 t5 b6 s1b s2b
    refine wpAnyH_ready (rs := [14]) (by kernel_rfl) (by simp) ?_
    refine AllReadyH.cons rfl (fun K hK => ?_) AllReadyH.nil
    rw [if_pos (by rfl)]
    go_wp2_with fail
    refine (first_any _ _ V3 L hr6 hturn.out).mono ?_
    rintro e V4 ⟨rfl, b4⟩
    go_wp2_with fail
    refine hK.out _ _ trivial (fun hHeld => ?_)
    clear hK K
    try simp only [Act.put, List.setIfInBounds_toArray, List.set_cons_zero, List.set_cons_succ]
    have t4 : Below V1.heap.size V1 V4 := keep_call t6 b4 t6.size
    have z4 : Clk V4 z 0 0 0 := z1.out.below t4 z1.out.lt
    have o4 : Hid (V4.ownsRow w.heap.size 23 3 (.slice ao k cp) k (mv ms)) := own_below o1.out t4 (Nat.le_refl _)
    have t44 : Below w.heap.size w V4 := keep_call t1 t4 t1.size
    clear hr6 hturn t6 b4 z1 o1 t1 t4
    refine take_at (i := 16) (v := .bool true) rfl rfl (by kernel_rfl) (by kernel_rfl) (by kernel_rfl) (fun _ _ _ h => h) (Or.inl ⟨by rfl, fun X _ => by go_simp⟩) trivial ?_
    try simp only [Act.put, List.setIfInBounds_toArray, List.set_cons_zero, List.set_cons_succ]
    refine take_at (i := 17) (v := .bool true) rfl rfl (by kernel_rfl) (by kernel_rfl) (by kernel_rfl) (fun _ _ _ h => h) (Or.inl ⟨by rfl, fun X _ => by go_simp⟩) trivial ?_
    try simp only [Act.put, List.setIfInBounds_toArray, List.set_cons_zero, List.set_cons_succ]
    refine take_at (i := 18) (v := .bool true) rfl rfl (by kernel_rfl) (by kernel_rfl) (by kernel_rfl) (fun _ _ _ h => h) (Or.inl ⟨by rfl, fun X _ => by go_simp⟩) trivial ?_
    try simp only [Act.put, List.setIfInBounds_toArray, List.set_cons_zero, List.set_cons_succ]
    refine take_at (i := 19) (v := .slice ao k cp) rfl rfl (by kernel_rfl) (by kernel_rfl) (by kernel_rfl) (fun _ _ _ h => h) (Or.inl ⟨by rfl, fun X _ => by go_simp⟩) trivial ?_
    try simp only [Act.put, List.setIfInBounds_toArray, List.set_cons_zero, List.set_cons_succ]
    have e0 := z4.c0
    have e1 := z4.c1
    have e2 := z4.c2
    refine wpAnyH_ready (rs := [20]) (by kernel_rfl) (by simp) ?_
    refine AllReadyH.cons rfl (fun K hK => ?_) AllReadyH.nil
    rw [if_pos (by rfl)]
    go_simp
    refine hK.out _ _ trivial (fun hHeld => ?_)
    clear hK K
    try simp only [Act.put, List.setIfInBounds_toArray, List.set_cons_zero, List.set_cons_succ]
    refine wpAnyH_ready (rs := [21]) (by kernel_rfl) (by simp) ?_
    refine AllReadyH.cons rfl (fun K hK => ?_) AllReadyH.nil
    rw [if_pos (by rfl)]
    go_simp
    refine hK.out _ _ trivial (fun hHeld => ?_)
    clear hK K
    try simp only [Act.put, List.setIfInBounds_toArray, List.set_cons_zero, List.set_cons_succ]
    have hb5 : Below w.heap.size w (V4.alloc (.cells #[.int .i64 0, .int .i64 0, .int .i64 0] 23)) := t44.alloc t44.size _
    refine wpAnyH_ready (rs := [22]) (by kernel_rfl) (by simp) ?_
    refine AllReadyH.cons rfl (fun K hK => ?_) AllReadyH.nil
    refine step_append_src _ rfl (by rfl) (.tmp 72) (.tmp 74) 32 rfl w.heap.size 23 i0 (.agg #[.int .i64 0, .int .i64 0, .int .i64 0]) 24 Try.underlying32 hi hz0 hz1 hz2 rfl _ k (mv ms) rfl (own_below o4.out (below_alloc V4 _) (Nat.le_refl _)) _ 1 (mv [0]) rfl (src_one V4 0) (mv_one _) (by unfold maxLen; omega) (by omega) hb5.size ?_
    intro v7 V5 o7 b7
    refine hK.out _ _ trivial (fun hHeld => ?_)
    clear hK K
    try simp only [Act.put, List.setIfInBounds_toArray, List.set_cons_zero, List.set_cons_succ]
    have t7 : Below w.heap.size w V5 := hb5.trans b7
    have hr7 : RdC V5 v7 (ms ++ [0]) := by
      refine rd_own (base := w.heap.size) (e := 23) ?_
      have e1 : (ms ++ [0]).length = k + 1 := by rw [List.length_append, hkk.out]; rfl
      rw [e1, mv_append]
      exact o7
    clear o7 b7 hb5 t44 o4 z4 e0 e1 e2
    refine wpAnyH_ready (rs := [23]) (by kernel_rfl) (by simp) ?_
    refine AllReadyH.cons rfl (fun K hK => ?_) AllReadyH.nil
    rw [if_pos (by rfl)]
    go_wp2_with fail
    refine (first_any _ _ V5 0 hr7 hnought.out).mono ?_
    rintro e V6 ⟨rfl, b8⟩
    go_wp2_with fail
    refine hK.out _ _ trivial (fun hHeld => ?_)
    clear hK K
    try simp only [Act.put, List.setIfInBounds_toArray, List.set_cons_zero, List.set_cons_succ]
    have t8 : Below w.heap.size w V6 := keep_call t7 b8 t7.size
    clear hr7 t7 b8
    refine take_at (i := 24) (v := .bool true) rfl rfl (by kernel_rfl) (by kernel_rfl) (by kernel_rfl) (fun _ _ _ h => h) (Or.inl ⟨by rfl, fun X _ => by go_simp⟩) trivial ?_
    try simp only [Act.put, List.setIfInBounds_toArray, List.set_cons_zero, List.set_cons_succ]
    refine take_at (i := 25) (v := .bool true) rfl rfl (by kernel_rfl) (by kernel_rfl) (by kernel_rfl) (fun _ _ _ h => h) (Or.inl ⟨by rfl, fun X _ => by go_simp⟩) trivial ?_
    try simp only [Act.put, List.setIfInBounds_toArray, List.set_cons_zero, List.set_cons_succ]
    refine take_at (i := 26) (v := .bool true) rfl rfl (by kernel_rfl) (by kernel_rfl) (by kernel_rfl) (fun _ _ _ h => h) (Or.inl ⟨by rfl, fun X _ => by go_simp⟩) trivial ?_
    try simp only [Act.put, List.setIfInBounds_toArray, List.set_cons_zero, List.set_cons_succ]
    refine wpAnyH_ready (rs := [27]) (by kernel_rfl) (by simp) ?_
    refine AllReadyH.cons rfl (fun K hK => ?_) AllReadyH.nil
    rw [if_pos (by rfl)]
    go_wp2_with fail
    refine (clockRuns_walk V6).mono ?_
    rintro e V7 ⟨rfl, b9⟩
    go_wp2_with fail
    refine hK.out _ _ trivial (fun hHeld => ?_)
    clear hK K
    try simp only [Act.put, List.setIfInBounds_toArray, List.set_cons_zero, List.set_cons_succ]
    have t9 : Below w.heap.size w V7 := keep_call t8 b9 t8.size
    refine take_at (i := 28) (v := .bool true) rfl rfl (by kernel_rfl) (by kernel_rfl) (by kernel_rfl) (fun _ _ _ h => h) (Or.inl ⟨by rfl, fun X _ => by go_simp⟩) trivial ?_
    try simp only [Act.put, List.setIfInBounds_toArray, List.set_cons_zero, List.set_cons_succ]
    refine take_at (i := 29) (v := .bool true) rfl rfl (by kernel_rfl) (by kernel_rfl) (by kernel_rfl) (fun _ _ _ h => h) (Or.inl ⟨by rfl, fun X _ => by go_simp⟩) trivial ?_
    try simp only [Act.put, List.setIfInBounds_toArray, List.set_cons_zero, List.set_cons_succ]
    refine wpAnyH_done (by kernel_rfl) ?_ _
    go_wp2_with fail
    go_ret
    exact ⟨rfl, t9⟩
theorem clockFirst_walk (a0 : Option Addr) (len0 cap0 : Nat) (z0 : List Int) (cut : Int) (w : World) (w0 : IsInts w a0 len0 cap0 z0) (_w1 : (Lit.int .i64 cut).wf = true) :
    Calls Try.prog 5 #[.slice a0 len0 cap0, .int .i64 cut] w fun e w' => e = .returned (.bool true) ∧ Below w.heap.size w w' := first_core a0 len0 cap0 z0 cut w w0
end Go.Proofs.Ytgpjjkfgobjfcaa
