/- AggMerges, walked: of any numbers and any values it returns true, and nothing that was there is written. -/
import Derived.Test.YtbopojolmmnokaaCut
namespace Go.Proofs.Ytbopojolmmnokaa
open Go.RowKit M
set_option linter.unusedVariables false

theorem turn_len (l : List Int) (t : Nat) : (l.drop t ++ l.take t).length = l.length := by
  rw [List.length_append, Nat.add_comm, ← List.length_append, List.take_append_drop]
set_option maxHeartbeats 4000000 in
set_option maxRecDepth 100000 in
theorem merges_core (kind other : Int) (a0 : Option Addr) (len0 cap0 : Nat) (z0 : List Int) (cut turn : Int) (w : World) (row0 : IsInts w a0 len0 cap0 z0) :
    Calls Try.prog 5 #[.int .i64 kind, .int .i64 other, .slice a0 len0 cap0, .int .i64 cut, .int .i64 turn] w fun e w' => e = .returned (.bool true) ∧ Below w.heap.size w w' := by
  obtain ⟨i0, hi, hz0, hz1, hz2⟩ := info_parts Try.info3
  have hown0 : (w.alloc (.cells #[] 3)).ownsRow w.heap.size 3 1 (.slice (some ⟨w.heap.size, 0, none⟩) 0 0) 0 [] :=
    World.ownsRow_lit w #[] 0 (Nat.le_refl _) (by unfold maxLen; omega) (by simp)
  obtain ⟨K, hKB, hKl, hmin⟩ : ∃ K : Nat, K ≤ 20 ∧ K ≤ len0 ∧ ((len0 ≤ 20 ∧ K = len0) ∨ (20 < len0 ∧ K = 20)) := by
    by_cases h : len0 ≤ 20
    · exact ⟨len0, h, Nat.le_refl _, .inl ⟨h, rfl⟩⟩
    · exact ⟨20, Nat.le_refl _, by omega, .inr ⟨by omega, rfl⟩⟩
  have hsrc : Hid (Src (w.alloc (.cells #[] 3)) (.slice a0 K cap0) K (iv (z0.take K))) := (src_row row0 K hKl).below (below_alloc w _) (Nat.le_refl _)
  have hzl : Hid ((z0.take K).length = K) := by
    have h : (z0.take K).length = K := by
      rcases row0 with ⟨_, rfl, _, rfl⟩ | ⟨x, _, h1, _, h3, _⟩
      · simp; omega
      · rw [List.length_take]; omega
    exact h
  obtain ⟨ns0, hns0⟩ : ∃ ns, Hid (z0.take K = ns) := ⟨_, rfl⟩
  rw [hns0.out] at hsrc hzl
  clear hns0
  go_enter Try.func5, Try.ntmps5
  go_wp2_with fail
  refine (within_any kind 1 4 _ (by decide) (by decide) (by decide)).mono ?_
  rintro e w' ⟨⟨k, hk1, hk4, rfl⟩, he⟩; obtain rfl := he.symm; clear he
  go_upto_region 2 with fail
  go_cut [12] (fun v wx => ∃ ns : List Int, ns.length ≤ 20 ∧ wx.ownsRow w.heap.size 3 1 v ns.length (iv ns) ∧ Below w.heap.size w wx)
  case first =>
    rcases row0 with ⟨rfl, rfl, rfl, rfl⟩ | ⟨x, rfl, hlc, hcm, hzl2, hcell, hwf⟩
    · have hK0 : K = 0 := by omega
      subst hK0
      go_wp2_with (at_builtin; refine wpList_append_src _ (by rfl) _ _ 29 rfl w.heap.size 3 i0 (.int .i64 0) 8 Try.underlying29 hi hz0 hz1 hz2 rfl _ 0 [] rfl hown0 _ 0 (iv ns0) rfl hsrc.out (iv_one _) (by unfold maxLen; omega) (by omega) (by simp) ?_)
      intro v' w1 hown' hb1
      go_wp2_with fail
      go_meet
      refine ⟨ns0, by rw [hzl.out]; omega, ?_, (below_alloc w _).trans hb1⟩
      rw [hzl.out]; simpa using hown'
    · unfold maxLen at hcm
      clear hcell hwf
      rcases hmin with ⟨hle, rfl⟩ | ⟨hle, rfl⟩
      all_goals
        go_wp2_with (at_builtin; refine wpList_append_src _ (by rfl) _ _ 29 rfl w.heap.size 3 i0 (.int .i64 0) 8 Try.underlying29 hi hz0 hz1 hz2 rfl _ 0 [] rfl hown0 _ _ (iv ns0) rfl hsrc.out (iv_one _) (by unfold maxLen; omega) (by omega) (by simp) ?_)
        intro v' w1 hown' hb1
        go_wp2_with fail
        go_meet
        refine ⟨ns0, by rw [hzl.out]; exact hKB, ?_, (below_alloc w _).trans hb1⟩
        rw [hzl.out]; simpa using hown'
  case rest =>
    obtain ⟨ns, hnB, hown, t1⟩ := hcut
    clear hown0 hsrc hzl row0 hmin hKB hKl
    obtain ⟨ao, cp, rfl, hsh⟩ := own_shape hown
    have ho : Hid (Rd .i64 wc (.slice ao ns.length cp) ns) := rd_iv hown
    have apo0 : Hid (∀ g, wc.heap.size ≤ g → Apart g (.slice ao ns.length cp)) := fun g hg => own_apart hown hg
    clear hown
    obtain ⟨n, hn⟩ : ∃ n, Hid (ns.length = n) := ⟨_, rfl⟩
    rw [hn.out] at ho apo0 hsh hnB ⊢
    have hni : Hid ((ns.length : Int) = (n : Int)) := by
      have h : (ns.length : Int) = (n : Int) := by rw [hn.out]
      exact h
    go_wp2_with fail
    refine (within_any cut 0 (n : Int) _ (by decide) (by omega) (by omega)).mono ?_
    rintro e w' ⟨⟨C', h0, h1, rfl⟩, he⟩; obtain rfl := he.symm; clear he
    obtain ⟨C, rfl⟩ := Int.eq_ofNat_of_zero_le h0
    have hC : C ≤ n := by omega
    clear h0 h1
    go_wp2_with fail
    refine (within_any turn 0 (n : Int) _ (by decide) (by omega) (by omega)).mono ?_
    rintro e w' ⟨⟨T', h0, h1, rfl⟩, he⟩; obtain rfl := he.symm; clear he
    obtain ⟨T, rfl⟩ := Int.eq_ofNat_of_zero_le h0
    have hT : T ≤ n := by omega
    clear h0 h1
    go_wp2_with fail
    refine (new_any k _).mono ?_
    rintro e v0 ⟨rfl, n0⟩
    go_wp2_with fail
    refine (new_any k _).mono ?_
    rintro e v1 ⟨rfl, n1⟩
    go_wp2_with fail
    refine (new_any k _).mono ?_
    rintro e v2 ⟨rfl, n2⟩
    go_wp2_with fail
    refine (new_any k _).mono ?_
    rintro e v3 ⟨rfl, n3⟩
    have n01 := keep_call n0 n1 n0.size
    have n012 := keep_call n01 n2 n01.size
    have n0123 := keep_call n012 n3 n012.size
    have t4 := keep_call t1 n0123 t1.size
    have ho4 : Hid (Rd .i64 v3 (.slice ao n cp) ns) := ho.out.call n0123
    have apo : Hid (∀ g, v3.heap.size ≤ g → Apart g (.slice ao n cp)) := fun g hg => apo0.out g (Nat.le_trans n0123.size hg)
    clear n0 n1 n2 n3 n01 n012 n0123 t1 ho apo0
    go_upto_region 5 with fail
    have hs := t4.size
    refine world_gen (fun W => Hid (Agl W v3.heap.size k []) ∧ Hid (Agl W (v3.heap.size + 1) k []) ∧ Hid (Agl W (v3.heap.size + 1 + 1) k []) ∧ Hid (Agl W (v3.heap.size + 1 + 1 + 1) k []) ∧ Hid (Rd .i64 W (.slice ao n cp) ns) ∧ Below w.heap.size w W)
      ⟨(((agl_make v3 k _ rfl).alloc _).alloc _).alloc _, ((agl_make (v3.alloc _) k _ (size2 _ _)).alloc _).alloc _, (agl_make ((v3.alloc _).alloc _) k _ (size3 _ _ _)).alloc _, agl_make (((v3.alloc _).alloc _).alloc _) k _ (size4 _ _ _ _),
        (((ho4.out.alloc _).alloc _).alloc _).alloc _, (((t4.alloc hs _).alloc (by simp; omega) _).alloc (by simp; omega) _).alloc (by simp; omega) _⟩ ?_
    clear t4 ho4
    generalize hg4 : v3.heap.size + 1 + 1 + 1 = g4 at *
    generalize hg3 : v3.heap.size + 1 + 1 = g3 at *
    generalize hg2 : v3.heap.size + 1 = g2 at *
    generalize v3.heap.size = g1 at *
    rintro W ⟨a_0, b_0, x_0, y_0, o_0, hb_0⟩
    have hN : Hid (ns.length ≤ 20) := by
      have h : ns.length ≤ 20 := by rw [hn.out]; exact hnB
      exact h
    go_wp2_with fail
    refine (add_any g1 k [] ns _ _ a_0.out o_0.out (apo.out _ (by omega)) (by have := hN.out; simp; omega)).mono ?_
    rintro e W1 ⟨rfl, j1, q1⟩
    rw [List.nil_append] at j1
    have a_1 : Hid (Agl W1 g1 k ns) := j1
    have b_1 : Hid (Agl W1 g2 k []) := q1.agl (b_0.out) (by omega)
    have x_1 : Hid (Agl W1 g3 k []) := q1.agl (x_0.out) (by omega)
    have y_1 : Hid (Agl W1 g4 k []) := q1.agl (y_0.out) (by omega)
    have o_1 : Hid (Rd .i64 W1 (.slice ao n cp) ns) := (o_0.out).but q1 (apo.out _ (by omega))
    have hb_1 := keep_but hb_0 q1 (by omega)
    clear a_0 b_0 x_0 y_0 o_0 hb_0
    clear q1
    clear j1
    obtain ⟨u1, u2, hparts, hpa, hpr⟩ := parts_ex hsh hT
    have hpa' : Hid (∀ g, g1 ≤ g → Apart g u1 ∧ Apart g u2) := fun g hg => hpa g (apo.out g hg)
    have hpr' : Hid (∀ w ms, ms.length = n → Rd .i64 w (.slice ao n cp) ms → Rd .i64 w u1 (ms.drop T) ∧ Rd .i64 w u2 (ms.take T) ∧ Src w u1 (n - T) (iv (ms.drop T)) ∧ Src w u2 T (iv (ms.take T))) := hpr
    clear hpa hpr
    obtain ⟨u3, u4, hparts2, hpa2, hpr2⟩ := parts_ex hsh hC
    have hpa2' : Hid (∀ g, g1 ≤ g → Apart g u3 ∧ Apart g u4) := fun g hg => hpa2 g (apo.out g hg)
    have hpr2' : Hid (∀ w ms, ms.length = n → Rd .i64 w (.slice ao n cp) ms → Rd .i64 w u3 (ms.drop C) ∧ Rd .i64 w u4 (ms.take C) ∧ Src w u3 (n - C) (iv (ms.drop C)) ∧ Src w u4 C (iv (ms.take C))) := hpr2
    clear hpa2 hpr2
    have hparts2' : Hid (Parts ao n cp C u3 u4) := hparts2
    clear hparts2 hsh
    go_upto_region 6 with fail
    have a_2 : Hid (Agl W1.drew g1 k ns) := a_1.out.drew
    have b_2 : Hid (Agl W1.drew g2 k []) := b_1.out.drew
    have x_2 : Hid (Agl W1.drew g3 k []) := x_1.out.drew
    have y_2 : Hid (Agl W1.drew g4 k []) := y_1.out.drew
    have o_2 : Hid (Rd .i64 W1.drew (.slice ao n cp) ns) := o_1.out.drew
    have hb_2 : Below w.heap.size w W1.drew := hb_1.drew
    clear a_1 b_1 x_1 y_1 o_1 hb_1
    refine wp_region_held_drew (S := fun _ => True) (by kernel_rfl) trivial (fun hHeld => ?_)
    generalize W1.drew = V at a_2 b_2 x_2 y_2 o_2 hb_2 ⊢
    refine take_at (i := 1) (v := .slice ao n cp) rfl rfl (by kernel_rfl) (by kernel_rfl) (by kernel_rfl) (fun _ _ _ h => h) (Or.inl ⟨by rfl, fun X _ => by go_simp⟩) trivial ?_
    try simp only [Act.put, List.setIfInBounds_toArray, List.set_cons_zero, List.set_cons_succ]
    refine take_at (i := 2) (v := .int .i64 (T : Int)) rfl rfl (by kernel_rfl) (by kernel_rfl) (by kernel_rfl) (fun _ _ _ h => h) (Or.inl ⟨by rfl, fun X _ => by go_simp⟩) trivial ?_
    try simp only [Act.put, List.setIfInBounds_toArray, List.set_cons_zero, List.set_cons_succ]
    refine take_at (i := 3) (v := u1) rfl rfl (by kernel_rfl) (by kernel_rfl) (by kernel_rfl) (fun _ _ _ h => h) (Or.inl ⟨by rfl, fun X _ => ?sl1⟩) trivial ?_
    case sl1 =>
      rcases hparts with ⟨rfl, rfl, rfl, rfl, rfl, rfl⟩ | ⟨g, rfl, p1, p2, p3, rfl, ⟨rfl, rfl⟩ | ⟨p4, rfl⟩⟩
      · go_simp
      · have p5 : n = T := by omega
        subst p5
        go_simp
      · go_simp
        omega
    try simp only [Act.put, List.setIfInBounds_toArray, List.set_cons_zero, List.set_cons_succ]
    refine take_at (i := 5) (v := .slice ao n cp) rfl rfl (by kernel_rfl) (by kernel_rfl) (by kernel_rfl) (fun _ _ _ h => h) (Or.inl ⟨by rfl, fun X _ => by go_simp⟩) trivial ?_
    try simp only [Act.put, List.setIfInBounds_toArray, List.set_cons_zero, List.set_cons_succ]
    refine take_at (i := 6) (v := .int .i64 (T : Int)) rfl rfl (by kernel_rfl) (by kernel_rfl) (by kernel_rfl) (fun _ _ _ h => h) (Or.inl ⟨by rfl, fun X _ => by go_simp⟩) trivial ?_
    try simp only [Act.put, List.setIfInBounds_toArray, List.set_cons_zero, List.set_cons_succ]
    refine take_at (i := 7) (v := u2) rfl rfl (by kernel_rfl) (by kernel_rfl) (by kernel_rfl) (fun _ _ _ h => h) (Or.inl ⟨by rfl, fun X _ => ?sl2⟩) trivial ?_
    case sl2 =>
      rcases hparts with ⟨rfl, rfl, rfl, rfl, rfl, rfl⟩ | ⟨g, rfl, p1, p2, p3, rfl, ⟨rfl, rfl⟩ | ⟨p4, rfl⟩⟩
      · go_simp
      · go_simp
      · have p5 : T ≤ cp := by omega
        go_simp
    try simp only [Act.put, List.setIfInBounds_toArray, List.set_cons_zero, List.set_cons_succ]
    clear hparts
    obtain ⟨-, -, s1, s2⟩ := hpr'.out V ns hn.out o_2.out
    clear hpr'
    refine wpAnyH_ready (rs := [0]) (by kernel_rfl) (by simp) ?_
    refine AllReadyH.cons rfl (fun K hK => ?_) AllReadyH.nil
    rw [if_pos (by rfl)]
    go_simp
    refine hK.out _ _ trivial (fun hHeld => ?_)
    clear hK K
    try simp only [Act.put, List.setIfInBounds_toArray, List.set_cons_zero, List.set_cons_succ]
    have hownL : (V.alloc (.cells #[] 3)).ownsRow V.heap.size 3 1 (.slice (some ⟨V.heap.size, 0, none⟩) 0 0) 0 [] :=
      World.ownsRow_lit V #[] 0 (Nat.le_refl _) (by unfold maxLen; omega) (by simp)
    refine wpAnyH_ready (rs := [4]) (by kernel_rfl) (by simp) ?_
    refine AllReadyH.cons rfl (fun K hK => ?_) AllReadyH.nil
    refine step_append_src _ rfl (by rfl) (.tmp 48) (.tmp 51) 29 rfl V.heap.size 3 i0 (.int .i64 0) 8 Try.underlying29 hi hz0 hz1 hz2 rfl _ 0 [] rfl hownL u1 (n - T) (iv (ns.drop T)) rfl (s1.below (below_alloc V _) (Nat.le_refl _)) (iv_one _) (by unfold maxLen; omega) (by omega) (below_alloc V _).size ?_
    intro v5 V2 o5 b5
    have t5 : Below V.heap.size V V2 := (below_alloc V _).trans b5
    refine hK.out _ _ trivial (fun hHeld => ?_)
    clear hK K
    try simp only [Act.put, List.setIfInBounds_toArray, List.set_cons_zero, List.set_cons_succ]
    clear b5 hownL
    refine wpAnyH_ready (rs := [8]) (by kernel_rfl) (by simp) ?_
    refine AllReadyH.cons rfl (fun K hK => ?_) AllReadyH.nil
    refine step_append_src _ rfl (by rfl) (.tmp 52) (.tmp 55) 29 rfl V.heap.size 3 i0 (.int .i64 0) 8 Try.underlying29 hi hz0 hz1 hz2 rfl _ _ _ rfl o5 u2 T (iv (ns.take T)) rfl (s2.below t5 (Nat.le_refl _)) (iv_one _) (by unfold maxLen; omega) (by omega) t5.size ?_
    intro v6 V3 o6 b6
    have t6 : Below V.heap.size V V3 := t5.trans b6
    refine hK.out _ _ trivial (fun hHeld => ?_)
    clear hK K
    try simp only [Act.put, List.setIfInBounds_toArray, List.set_cons_zero, List.set_cons_succ]
    have e6 : (ns.drop T ++ ns.take T).length = 0 + (n - T) + T := by rw [turn_len, hn.out]; omega
    have o7 : V3.ownsRow V.heap.size 3 1 v6 (ns.drop T ++ ns.take T).length (iv (ns.drop T ++ ns.take T)) := by
      rw [e6, iv_append]; exact o6
    have r7 : Hid (Rd .i64 V3 v6 (ns.drop T ++ ns.take T)) := rd_iv o7
    have ap7 : Hid (Apart g2 v6) := by
      have h : Apart g2 v6 := by
        obtain ⟨_, h0 | ⟨g', cap, cur, rfl, hb, hh, h1, hm, _⟩⟩ := o7
        · rw [h0.1]; exact apart_nil _ _ _
        · exact apart_some (by have := b_2.out.lt; omega)
      exact h
    clear o5 o6 o7 e6 t5 b6 s1 s2
    have a_3 : Hid (Agl V3 g1 k ns) := a_2.out.call t6
    have b_3 : Hid (Agl V3 g2 k []) := b_2.out.call t6
    have x_3 : Hid (Agl V3 g3 k []) := x_2.out.call t6
    have y_3 : Hid (Agl V3 g4 k []) := y_2.out.call t6
    have o_3 : Hid (Rd .i64 V3 (.slice ao n cp) ns) := o_2.out.call t6
    have hb_3 := keep_call hb_2 t6 hb_2.size
    clear a_2 b_2 x_2 y_2 o_2 hb_2
    clear t6
    refine wpAnyH_ready (rs := [9]) (by kernel_rfl) (by simp) ?_
    refine AllReadyH.cons rfl (fun K hK => ?_) AllReadyH.nil
    rw [if_pos (by rfl)]
    go_wp2_with fail
    refine (add_any g2 k [] (ns.drop T ++ ns.take T) _ _ b_3.out r7.out ap7.out (by have := hN.out; rw [turn_len]; simp; omega)).mono ?_
    rintro e V4 ⟨rfl, j2, q2⟩
    rw [List.nil_append] at j2
    have j3 := j2.to (turn_len ns T) (val_turn k ns T)
    go_wp2_with fail
    refine hK.out _ _ trivial (fun hHeld => ?_)
    clear hK K
    try simp only [Act.put, List.setIfInBounds_toArray, List.set_cons_zero, List.set_cons_succ]
    have a_4 : Hid (Agl V4 g1 k ns) := q2.agl (a_3.out) (by omega)
    have b_4 : Hid (Agl V4 g2 k ns) := j3
    have x_4 : Hid (Agl V4 g3 k []) := q2.agl (x_3.out) (by omega)
    have y_4 : Hid (Agl V4 g4 k []) := q2.agl (y_3.out) (by omega)
    have o_4 : Hid (Rd .i64 V4 (.slice ao n cp) ns) := (o_3.out).but q2 (apo.out _ (by omega))
    have hb_4 := keep_but hb_3 q2 (by omega)
    clear a_3 b_3 x_3 y_3 o_3 hb_3
    clear q2
    clear j2 j3 r7 ap7
    refine wpAnyH_done (by kernel_rfl) ?_ _
    obtain ⟨-, r8, -, -⟩ := hpr2'.out V4 ns hn.out o_4.out
    have r8' : Hid (Rd .i64 V4 u4 (ns.take C)) := r8
    clear r8
    go_upto_region 7 with fail
    go_cut [61] (fun v wx => Agl wx g3 k (ns.take C) ∧ But g3 V4 wx)
    case first =>
      have hl : Hid (([] : List Int).length + (ns.take C).length ≤ 9223372036854775807) := by
        have h : ([] : List Int).length + (ns.take C).length ≤ 9223372036854775807 := by have := hN.out; rw [List.length_take]; simp; omega
        exact h
      have ha : Hid (Apart g3 u4) := (hpa2'.out g3 (by omega)).2
      rcases hparts2'.out with ⟨rfl, rfl, rfl, rfl, rfl, rfl⟩ | ⟨g, rfl, p1, p2, p3, rfl, hh⟩
      · go_wp2_with fail
        refine (add_any g3 k [] (ns.take 0) _ _ x_4.out r8'.out ha.out hl.out).mono ?_
        rintro e V5 ⟨rfl, j4, q4⟩
        rw [List.nil_append] at j4
        go_wp2_with fail
        go_meet
        exact ⟨j4, q4⟩
      · have p5 : C ≤ cp := by omega
        clear hh
        go_wp2_with fail
        refine (add_any g3 k [] (ns.take C) _ _ x_4.out r8'.out ha.out hl.out).mono ?_
        rintro e V5 ⟨rfl, j4, q4⟩
        rw [List.nil_append] at j4
        go_wp2_with fail
        go_meet
        exact ⟨j4, q4⟩
    case rest =>
      obtain ⟨j4, q4⟩ := hcut
      obtain ⟨V5, hV5⟩ : ∃ V5, V5 = wc := ⟨_, rfl⟩
      subst hV5
      clear r8'
      have a_5 : Hid (Agl V5 g1 k ns) := q4.agl (a_4.out) (by omega)
      have b_5 : Hid (Agl V5 g2 k ns) := q4.agl (b_4.out) (by omega)
      have x_5 : Hid (Agl V5 g3 k (ns.take C)) := j4
      have y_5 : Hid (Agl V5 g4 k []) := q4.agl (y_4.out) (by omega)
      have o_5 : Hid (Rd .i64 V5 (.slice ao n cp) ns) := (o_4.out).but q4 (apo.out _ (by omega))
      have hb_5 := keep_but hb_4 q4 (by omega)
      clear a_4 b_4 x_4 y_4 o_4 hb_4
      clear q4
      clear j4
      obtain ⟨r9, -, -, -⟩ := hpr2'.out V5 ns hn.out o_5.out
      have r9' : Hid (Rd .i64 V5 u3 (ns.drop C)) := r9
      clear r9
      go_upto_region 8 with fail
      go_cut [65] (fun v wx => Agl wx g4 k (ns.drop C) ∧ But g4 V5 wx)
      case first =>
        have hl : Hid (([] : List Int).length + (ns.drop C).length ≤ 9223372036854775807) := by
          have h : ([] : List Int).length + (ns.drop C).length ≤ 9223372036854775807 := by have := hN.out; rw [List.length_drop]; simp; omega
          exact h
        have ha : Hid (Apart g4 u3) := (hpa2'.out g4 (by omega)).1
        rcases hparts2'.out with ⟨rfl, rfl, rfl, rfl, rfl, rfl⟩ | ⟨g, rfl, p1, p2, p3, rfl, ⟨rfl, rfl⟩ | ⟨p4, rfl⟩⟩
        · go_wp2_with fail
          refine (add_any g4 k [] (ns.drop 0) _ _ y_5.out r9'.out ha.out hl.out).mono ?_
          rintro e V6 ⟨rfl, j4, q4⟩
          rw [List.nil_append] at j4
          go_wp2_with fail
          go_meet
          exact ⟨j4, q4⟩
        · have p5 : n = C := by omega
          subst p5
          go_wp2_with fail
          refine (add_any g4 k [] (ns.drop n) _ _ y_5.out r9'.out ha.out hl.out).mono ?_
          rintro e V6 ⟨rfl, j4, q4⟩
          rw [List.nil_append] at j4
          go_wp2_with fail
          go_meet
          exact ⟨j4, q4⟩
        · have p5 : ¬ cp = C := by omega
          go_wp2_with fail
          refine (add_any g4 k [] (ns.drop C) _ _ y_5.out r9'.out ha.out hl.out).mono ?_
          rintro e V6 ⟨rfl, j4, q4⟩
          rw [List.nil_append] at j4
          go_wp2_with fail
          go_meet
          exact ⟨j4, q4⟩
      case rest =>
        obtain ⟨j4, q4⟩ := hcut
        obtain ⟨V6, hV6⟩ : ∃ V6, V6 = wc := ⟨_, rfl⟩
        subst hV6
        clear r9' hpr2' hpa2' hpa' hparts2'
        have a_6 : Hid (Agl V6 g1 k ns) := q4.agl (a_5.out) (by omega)
        have b_6 : Hid (Agl V6 g2 k ns) := q4.agl (b_5.out) (by omega)
        have x_6 : Hid (Agl V6 g3 k (ns.take C)) := q4.agl (x_5.out) (by omega)
        have y_6 : Hid (Agl V6 g4 k (ns.drop C)) := j4
        have o_6 : Hid (Rd .i64 V6 (.slice ao n cp) ns) := (o_5.out).but q4 (apo.out _ (by omega))
        have hb_6 := keep_but hb_5 q4 (by omega)
        clear a_5 b_5 x_5 y_5 o_5 hb_5
        clear q4
        clear j4
        clear o_6 apo
        obtain ⟨V, hV⟩ : ∃ V, Hid (val k ns = V) := ⟨_, rfl⟩
        obtain ⟨mc, hmc⟩ : ∃ mc : Int, Hid (((ns.drop C).length : Int) = mc) := ⟨_, rfl⟩
        obtain ⟨mV, hmV⟩ : ∃ mV, Hid (val k (ns.drop C) = mV) := ⟨_, rfl⟩
        have hcd : Hid ((ns.take C).length + (ns.drop C).length ≤ 9223372036854775807) := by
          have h : (ns.take C).length + (ns.drop C).length ≤ 9223372036854775807 := by have := hN.out; rw [List.length_take, List.length_drop]; omega
          exact h
        obtain ⟨c0, c1, c2⟩ := y_6.out.cells (n := mc) (V := mV) hmc.out hmV.out
        go_wp2_with fail
        refine (merge_is g3 k (ns.take C) (ns.drop C) mc mV _ x_6.out hcd.out hmc.out hmV.out).mono ?_
        rintro e V7 ⟨rfl, j4, q4⟩
        rw [List.take_append_drop] at j4
        clear c0 c1 c2 hcd hmc hmV
        have a_7 : Hid (Agl V7 g1 k ns) := q4.agl (a_6.out) (by omega)
        have b_7 : Hid (Agl V7 g2 k ns) := q4.agl (b_6.out) (by omega)
        have x_7 : Hid (Agl V7 g3 k ns) := j4
        have y_7 : Hid (Agl V7 g4 k (ns.drop C)) := q4.agl (y_6.out) (by omega)
        have hb_7 := keep_but hb_6 q4 (by omega)
        clear a_6 b_6 x_6 y_6 hb_6
        clear q4
        clear j4
        clear y_7
        obtain ⟨c0, c1, c2⟩ := a_7.out.cells (n := (n : Int)) (V := V) hni.out hV.out
        obtain ⟨d0, d1, d2⟩ := b_7.out.cells (n := (n : Int)) (V := V) hni.out hV.out
        obtain ⟨e0, e1, e2⟩ := x_7.out.cells (n := (n : Int)) (V := V) hni.out hV.out
        go_wp2_with fail
        refine (new_any k _).mono ?_
        rintro e V8 ⟨rfl, q5⟩
        clear c0 c1 c2 d0 d1 d2 e0 e1 e2
        have a_8 : Hid (Agl V8 g1 k ns) := a_7.out.call q5
        have b_8 : Hid (Agl V8 g2 k ns) := b_7.out.call q5
        have x_8 : Hid (Agl V8 g3 k ns) := x_7.out.call q5
        have hb_8 := keep_call hb_7 q5 hb_7.size
        clear a_7 b_7 x_7 hb_7
        clear q5
        go_wp2_with fail
        refine (merge_is g3 k ns [] 0 0 _ x_8.out (by have := hN.out; simp; omega) rfl (val_nil k)).mono ?_
        rintro e V9 ⟨rfl, j4, q4⟩
        rw [List.append_nil] at j4
        have a_9 : Hid (Agl V9 g1 k ns) := q4.agl (a_8.out) (by omega)
        have b_9 : Hid (Agl V9 g2 k ns) := q4.agl (b_8.out) (by omega)
        have x_9 : Hid (Agl V9 g3 k ns) := j4
        have hb_9 := keep_but hb_8 q4 (by omega)
        clear a_8 b_8 x_8 hb_8
        clear q4
        clear j4
        obtain ⟨c0, c1, c2⟩ := a_9.out.cells (n := (n : Int)) (V := V) hni.out hV.out
        obtain ⟨e0, e1, e2⟩ := x_9.out.cells (n := (n : Int)) (V := V) hni.out hV.out
        go_wp2_with fail
        refine (new_any k _).mono ?_
        rintro e V10 ⟨rfl, q5⟩
        clear c0 c1 c2 e0 e1 e2
        clear x_9
        have a_10 : Hid (Agl V10 g1 k ns) := a_9.out.call q5
        have b_10 : Hid (Agl V10 g2 k ns) := b_9.out.call q5
        have hb_10 := keep_call hb_9 q5 hb_9.size
        clear a_9 b_9 hb_9
        clear q5
        go_upto_region 12 with fail
        have hs10 := hb_10.size
        have hlt2 := b_10.out.lt
        refine world_gen (fun W => Hid (Agl W g1 k ns) ∧ Hid (Agl W g2 k ns) ∧ Hid (Agl W V10.heap.size k []) ∧ Below w.heap.size w W) ⟨a_10.out.alloc _, b_10.out.alloc _, agl_make V10 k _ rfl, hb_10.alloc hs10 _⟩ ?_
        clear a_10 b_10 hb_10
        generalize V10.heap.size = g5 at *
        rintro V11 ⟨a_11, b_11, z_11, hb_11⟩
        obtain ⟨c0, c1, c2⟩ := a_11.out.cells (n := (n : Int)) (V := V) hni.out hV.out
        go_wp2_with fail
        refine (merge_is g5 k [] ns (n : Int) V _ z_11.out (by have := hN.out; simp; omega) hni.out hV.out).mono ?_
        rintro e V12 ⟨rfl, j4, q4⟩
        rw [List.nil_append] at j4
        clear c0 c1 c2
        have a_12 : Hid (Agl V12 g1 k ns) := q4.agl (a_11.out) (by omega)
        have b_12 : Hid (Agl V12 g2 k ns) := q4.agl (b_11.out) (by omega)
        have z_12 : Hid (Agl V12 g5 k ns) := j4
        have hb_12 := keep_but hb_11 q4 (by omega)
        clear a_11 b_11 z_11 hb_11
        clear q4
        clear j4
        obtain ⟨c0, c1, c2⟩ := a_12.out.cells (n := (n : Int)) (V := V) hni.out hV.out
        obtain ⟨d0, d1, d2⟩ := z_12.out.cells (n := (n : Int)) (V := V) hni.out hV.out
        go_wp2_with fail
        refine (within_any other 1 4 _ (by decide) (by decide) (by decide)).mono ?_
        rintro e w' ⟨⟨q, hq1, hq4, rfl⟩, he⟩; obtain rfl := he.symm; clear he
        clear c0 c1 c2 d0 d1 d2
        clear z_12
        go_wp2_with fail
        refine (new_any q _).mono ?_
        rintro e V13 ⟨rfl, q5⟩
        have a_13 : Hid (Agl V13 g1 k ns) := a_12.out.call q5
        have b_13 : Hid (Agl V13 g2 k ns) := b_12.out.call q5
        have hb_13 := keep_call hb_12 q5 hb_12.size
        clear a_12 b_12 hb_12
        clear q5
        by_cases hqk : q = k
        · subst hqk
          go_wp2_with fail
          refine (merge_is g1 q ns [] 0 0 _ a_13.out (by have := hN.out; simp; omega) rfl (val_nil q)).mono ?_
          rintro e V14 ⟨rfl, j4, q4⟩
          rw [List.append_nil] at j4
          have a_14 : Hid (Agl V14 g1 q ns) := j4
          have b_14 : Hid (Agl V14 g2 q ns) := q4.agl (b_13.out) (by omega)
          have hb_14 := keep_but hb_13 q4 (by omega)
          clear a_13 b_13 hb_13
          clear q4
          clear j4
          obtain ⟨c0, c1, c2⟩ := a_14.out.cells (n := (n : Int)) (V := V) hni.out hV.out
          obtain ⟨d0, d1, d2⟩ := b_14.out.cells (n := (n : Int)) (V := V) hni.out hV.out
          go_wp2_with fail
          refine (runs_any _).mono ?_
          rintro e V15 ⟨rfl, q5⟩
          have hb := keep_call hb_14 q5 hb_14.size
          go_wp2_with fail
          go_ret
          exact ⟨rfl, hb⟩
        · have hqk' : (q == k) = false := by simp; exact hqk
          go_wp2_with fail
          refine (merge_unlike g1 k q ns 0 0 _ a_13.out (fun h => hqk h.symm)).mono ?_
          rintro e V14 ⟨rfl, j4, q4⟩
          have a_14 : Hid (Agl V14 g1 k ns) := j4
          have b_14 : Hid (Agl V14 g2 k ns) := q4.agl (b_13.out) (by omega)
          have hb_14 := keep_but hb_13 q4 (by omega)
          clear a_13 b_13 hb_13
          clear q4
          clear j4
          obtain ⟨c0, c1, c2⟩ := a_14.out.cells (n := (n : Int)) (V := V) hni.out hV.out
          obtain ⟨d0, d1, d2⟩ := b_14.out.cells (n := (n : Int)) (V := V) hni.out hV.out
          go_wp2_with fail
          refine (runs_any _).mono ?_
          rintro e V15 ⟨rfl, q5⟩
          have hb := keep_call hb_14 q5 hb_14.size
          go_wp2_with fail
          go_ret
          exact ⟨rfl, hb⟩
theorem aggMerges_walk (kind other : Int) (a2 : Option Addr) (len2 cap2 : Nat) (z2 : List Int) (cut turn : Int) (w : World) (_ : (Lit.int .i64 kind).wf = true) (_ : (Lit.int .i64 other).wf = true) (row2 : IsInts w a2 len2 cap2 z2) (_ : (Lit.int .i64 cut).wf = true) (_ : (Lit.int .i64 turn).wf = true) :
    Calls Try.prog 5 #[.int .i64 kind, .int .i64 other, .slice a2 len2 cap2, .int .i64 cut, .int .i64 turn] w fun e w' => e = .returned (.bool true) ∧ Below w.heap.size w w' := merges_core kind other a2 len2 cap2 z2 cut turn w row2
end Go.Proofs.Ytbopojolmmnokaa
