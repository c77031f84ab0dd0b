/- WindowIn, walked: of any numbers it returns true, and nothing that was there is written. -/
import Derived.Test.YtfhfbiodpjpfjaaSet
namespace Go.Proofs.Ytfhfbiodpjpfjaa
open Go.RowKit M
open Go.Maps (keyOf_int_mk)
set_option linter.unusedVariables false

theorem next_eq {t n s : Int} (hs : 1 ≤ s) (hn : s ≤ n) (ht : 0 ≤ t) : lo (t + s) n s + (cnt (t + s) n s : Int) = lo t n s + (cnt t n s : Int) + 1 := by
  rw [cnt_eq hs hn ht, cnt_eq hs hn (by omega)]
  have h := shift_div t s 1 hs
  rw [Int.one_mul] at h
  omega
theorem next_late {t n s : Int} (hs : 1 ≤ s) (h : n ≤ t) : cnt (t + s) n s = cnt t n s := by
  have h := cnt_shift (k := 1) hs (by omega) h
  rw [Int.one_mul] at h
  exact h
theorem wf_small {a : Int} (h0 : 0 ≤ a) (h1 : a ≤ 9223372036854775807) : (Lit.int .i64 a).wf = true := WalkArith.wf_i64 (by omega)

set_option maxHeartbeats 1000000 in
set_option maxRecDepth 100000 in
theorem in_core (a b c d : Int) (w : World) :
    Calls Try.prog 5 #[.int .i64 a, .int .i64 b, .int .i64 c, .int .i64 d] w fun e w' => e = .returned (.bool true) ∧ Below w.heap.size w w' := by
  have hmm := @run_makeMap Try.prog
  go_enter Try.func5, Try.ntmps5
  go_wp2_with fail
  refine (within_any c 1 50 _ (by decide) (by decide) (by decide)).mono ?_
  rintro e w' ⟨⟨s, hs0, hs1, rfl⟩, he⟩; obtain rfl := he.symm; clear he
  go_wp2_with fail
  refine (within_any b s (8 * s) _ (by omega) (by omega) (by omega)).mono ?_
  rintro e w' ⟨⟨n, hn0, hn1, rfl⟩, he⟩; obtain rfl := he.symm; clear he
  go_wp2_with fail
  refine (within_any a 0 5000 _ (by decide) (by decide) (by decide)).mono ?_
  rintro e w' ⟨⟨x, hx0, hx1, rfl⟩, he⟩; obtain rfl := he.symm; clear he
  have hR : Hid (rightB n s = true) := right_mk hs0 hn0 hn1 (by omega)
  have hcl := cnt_le hR.out hx0
  have hcp := cnt_pos (t := x) hs0 hn0 hx0
  have hcm := cnt_most (t := x) hs0 hn0 hx0
  have hcm2 : Hid (n ≤ x → most n s - 1 ≤ (cnt x n s : Int)) := fun h => most_cnt hs0 hn0 h
  have hP0 : Hid (panes n s = most n s) := panes_of hR.out
  have hm8 := ((right_iff n s).1 hR.out).2.2.2
  obtain ⟨P, hP⟩ : ∃ P, Hid (most n s = P) := ⟨_, rfl⟩
  rw [hP.out] at hcm hcm2 hP0 hm8
  have hat : Hid (∀ j : Nat, j < cnt x n s → 0 ≤ (lo x n s + j) * s ∧ (lo x n s + j) * s ≤ x ∧ x < (lo x n s + j) * s + n) := fun j hj => at_bounds hs0 hn0 hx0 hj
  have hmem : Hid (∀ k : Int, 0 ≤ k → decide (k * s ∈ sts x n s) = decide (k * s ≤ x ∧ x < k * s + n)) := fun k hk => by
    rw [decide_eq_decide]; exact mem_iff hs0 hn0 hx0 hk
  have hnext : Hid (lo (x + s) n s + (cnt (x + s) n s : Int) = lo x n s + (cnt x n s : Int) + 1) := next_eq hs0 hn0 hx0
  have hlate : Hid (n ≤ x → cnt (x + s) n s = cnt x n s) := fun h => next_late hs0 h
  have hbd : Hid (∀ z ∈ sts x n s, 0 ≤ z ∧ z ≤ x) := sts_bd hs0 hn0 hx0
  obtain ⟨L, hL⟩ : ∃ L, Hid (lo x n s = L) := ⟨_, rfl⟩
  obtain ⟨C, hC⟩ : ∃ C, Hid (cnt x n s = C) := ⟨_, rfl⟩
  have hls0 : Hid (sts x n s = seg L s C) := by
    have h : sts x n s = seg L s C := by rw [sts, hL.out, hC.out]
    exact h
  rw [hC.out] at hcl hcp hcm hcm2 hat hnext hlate
  rw [hL.out] at hat hnext
  rw [hls0.out] at hmem hbd
  go_wp2_with fail
  refine (starts_some x n s _ hR.out hx0 (by omega)).mono ?_
  rintro e w1 ⟨u1, rfl, hown1, b1⟩
  rw [hC.out, hls0.out] at hown1
  obtain ⟨g1, p1, rfl, hp1, hp1', hg1, c1, r1⟩ := own_cells hown1 hcp
  have c1' : Hid (∀ j, j < C → w1.cell? ⟨g1, j, none⟩ = some (.int .i64 ((L + j) * s))) := c1
  have r1' : Hid (Rd .i64 w1 (.slice (some ⟨g1, 0, none⟩) C p1) (seg L s C)) := r1
  clear hown1 c1 r1
  go_upto_region 5 with fail
  go_cut [64] (fun v wx => v = .bool false ∧ wx = w1)
  case first =>
    by_cases hxn : n ≤ x
    · have hq := hcm2.out hxn
      go_wp2_with fail
      refine (right_is n s true _ hR.out).mono ?_
      rintro e w' ⟨rfl, he⟩; obtain rfl := he.symm; clear he
      go_wp2_with fail
      refine (panes_is n s P _ hP0.out).mono ?_
      rintro e w' ⟨rfl, he⟩; obtain rfl := he.symm; clear he
      go_wp2_with fail
      refine (panes_is n s P _ hP0.out).mono ?_
      rintro e w' ⟨rfl, he⟩; obtain rfl := he.symm; clear he
      go_wp2_with fail
      go_meet
      exact ⟨congrArg Value.bool (by simp; omega), rfl⟩
    · have hxn' : x < n := by omega
      go_wp2_with fail
      refine (right_is n s true _ hR.out).mono ?_
      rintro e w' ⟨rfl, he⟩; obtain rfl := he.symm; clear he
      go_wp2_with fail
      refine (panes_is n s P _ hP0.out).mono ?_
      rintro e w' ⟨rfl, he⟩; obtain rfl := he.symm; clear he
      go_wp2_with fail
      go_meet
      exact ⟨congrArg Value.bool (by simp; omega), rfl⟩
  case rest =>
    obtain ⟨rfl, he⟩ := hcut
    obtain rfl := he.symm
    clear he hcm hcm2 hP0 hP hm8
    go_wp2_with fail
    obtain ⟨B, hB⟩ : ∃ B, Hid (w1.heap.size = B) := ⟨_, rfl⟩
    have hmk := World.ownsMap_made w1 Try.prog 3 (plainElem (H := Unit) Try.prog 4)
    have hbm := below_alloc w1 (.map #[] 0)
    rw [hB.out] at hmk hbm hg1 ⊢
    go_loopw [68] (fun i wr => ∃ j : Nat, j ≤ C ∧ i = .int .i64 j ∧ wr.ownsMap Try.prog 3 (plainElem (H := Unit) Try.prog 4) B j (setB (seg L s j)) ∧ Below B w1 wr) (fun i _ => C - (intOf i).toNat)
    case atStart => exact ⟨0, Nat.zero_le _, rfl, hmk, hbm⟩
    case round =>
      obtain ⟨j, hj, rfl, hown, hbw⟩ := hrel
      clear hmk hbm hmm
      by_cases hlt : j < C
      · have d0 := c1'.out j hlt
        obtain ⟨hy0, hy1, hy2⟩ := hat.out j hlt
        rw [← hbw.cell (p := ⟨g1, j, none⟩) hg1] at d0
        have hym : Hid ((L + j) * s % s = 0) := Int.mul_emod_left _ _
        have hsn : Hid (setB (seg L s (j + 1)) = (setB (seg L s j)).put (.int .i64 ((L + j) * s)) (.lit (.bool true))) := by
          have h : setB (seg L s (j + 1)) = (setB (seg L s j)).put (.int .i64 ((L + j) * s)) (.lit (.bool true)) := by rw [seg_succ, setB_snoc]
          exact h
        by_cases hj0 : j = 0
        · subst hj0
          obtain ⟨y, hy⟩ : ∃ y, Hid ((L + ((0 : Nat) : Int)) * s = y) := ⟨_, rfl⟩
          rw [hy.out] at d0 hy0 hy1 hy2 hym hsn
          have hym0 := hym.out
          have hym1 : y.tmod s = 0 := by rw [Int.tmod_eq_emod_of_nonneg hy0]; exact hym0
          go_wp2_with (at_mapUpdate; refine wpList_mapUpdate_own _ rfl _ _ _ 31 rfl 3 4 keyLaw Try.underlying31 _ B 0 _ rfl hown (by unfold maxLen; omega) _ _ _ rfl rfl (keyOf_int_mk Try.underlying3 (wf_small hy0 (by omega))) _ [] (plainElem_bool Try.underlying4 true) ?_)
          intro wr1 hown2 hgrow2
          have hown3 : wr1.ownsMap Try.prog 3 (plainElem (H := Unit) Try.prog 4) B (0 + 1) (setB (seg L s (0 + 1))) := by rw [hsn.out]; exact hown2
          have hb3 : Below B w1 wr1 := hbw.grown hgrow2 (Nat.le_of_lt hown.lt) (fun j hj => by cases hj; exact Nat.le_refl _)
          clear hown2 hgrow2 hown hbw d0 hym0 hym1
          go_wp2_with fail
          go_roundw
          case rel => exact ⟨0 + 1, by omega, by go_num, hown3, hb3⟩
          case measure => simp [intOf]; omega
        · obtain ⟨i, rfl⟩ : ∃ i, j = i + 1 := ⟨j - 1, by omega⟩
          have d1 := c1'.out i (by omega)
          rw [← hbw.cell (p := ⟨g1, i, none⟩) hg1] at d1
          rw [at_next] at d0 hy0 hy1 hy2 hym hsn
          have hz0 := (hat.out i (by omega)).1
          obtain ⟨z, hz⟩ : ∃ z, Hid ((L + (i : Int)) * s = z) := ⟨_, rfl⟩
          rw [hz.out] at d0 d1 hy0 hy1 hy2 hym hsn hz0
          have hym0 := hym.out
          have hym1 : (z + s).tmod s = 0 := by rw [Int.tmod_eq_emod_of_nonneg hy0]; exact hym0
          go_wp2_with (at_mapUpdate; refine wpList_mapUpdate_own _ rfl _ _ _ 31 rfl 3 4 keyLaw Try.underlying31 _ B (i + 1) _ rfl hown (by unfold maxLen; omega) _ _ _ rfl rfl (keyOf_int_mk Try.underlying3 (wf_small hy0 (by omega))) _ [] (plainElem_bool Try.underlying4 true) ?_)
          intro wr1 hown2 hgrow2
          have hown3 : wr1.ownsMap Try.prog 3 (plainElem (H := Unit) Try.prog 4) B (i + 1 + 1) (setB (seg L s (i + 1 + 1))) := by rw [hsn.out]; exact hown2
          have hb3 : Below B w1 wr1 := hbw.grown hgrow2 (Nat.le_of_lt hown.lt) (fun j hj => by cases hj; exact Nat.le_refl _)
          clear hown2 hgrow2 hown hbw d0 d1 hym0 hym1
          go_wp2_with fail
          go_roundw
          case rel => exact ⟨i + 1 + 1, by omega, by go_num, hown3, hb3⟩
          case measure => simp [intOf]; omega
      · obtain rfl : j = C := by omega
        go_wp2_with fail
        refine (within_any d 0 6000 _ (by decide) (by decide) (by decide)).mono ?_
        rintro e w' ⟨⟨v, hv0, hv1, rfl⟩, he⟩; obtain rfl := he.symm; clear he
        have hq0 := hi_nonneg (t := v) (s := s) hs0 hv0
        have hq1 : v / s ≤ v := Int.ediv_le_self _ hv0
        have hq2 := (hi_mul (t := v) (s := s) hs0).1
        have hq3 : 0 ≤ v / s * s := Int.mul_nonneg hq0 (by omega)
        have hm := hmem.out (v / s) hq0
        go_upto_region 16 with fail
        obtain ⟨K, hK⟩ : ∃ K, Hid (v / s * s = K) := ⟨_, rfl⟩
        rw [hK.out] at hm hq2 hq3 ⊢
        have hm' : Hid (decide (K ∈ seg L s j) = decide (K ≤ x ∧ x < K + n)) := hm
        have hK0 := hq3
        clear hm hq0 hq1 hq3
        go_cut [130] (fun v wx => v = .bool false ∧ wx = wr)
        case first =>
          by_cases hk1 : K ≤ x
          · by_cases hk2 : x < K + n
            · have hp : Hid ((setB (seg L s j)).atKey (.int .i64 K) (.lit (.bool false)) = .lit (.bool true)) := by
                have h := setB_at (seg L s j) K
                rw [hm'.out, decide_eq_true ⟨hk1, hk2⟩] at h
                exact h
              go_wp2_with (at_lookup; refine wpList_lookup_own_bool _ rfl _ _ 31 rfl 3 4 keyLaw Try.underlying31 Try.underlying4 (zeroB _) B j _ rfl hown _ _ rfl (keyOf_int_mk Try.underlying3 (wf_small hK0 (by omega))) true hp.out ?_)
              go_meet
              exact ⟨rfl, rfl⟩
            · have hp : Hid ((setB (seg L s j)).atKey (.int .i64 K) (.lit (.bool false)) = .lit (.bool false)) := by
                have h := setB_at (seg L s j) K
                rw [hm'.out, decide_eq_false (fun h => hk2 h.2)] at h
                exact h
              go_wp2_with (at_lookup; refine wpList_lookup_own_bool _ rfl _ _ 31 rfl 3 4 keyLaw Try.underlying31 Try.underlying4 (zeroB _) B j _ rfl hown _ _ rfl (keyOf_int_mk Try.underlying3 (wf_small hK0 (by omega))) false hp.out ?_)
              go_meet
              exact ⟨rfl, rfl⟩
          · have hp : Hid ((setB (seg L s j)).atKey (.int .i64 K) (.lit (.bool false)) = .lit (.bool false)) := by
              have h := setB_at (seg L s j) K
              rw [hm'.out, decide_eq_false (fun h => hk1 h.1)] at h
              exact h
            go_wp2_with (at_lookup; refine wpList_lookup_own_bool _ rfl _ _ 31 rfl 3 4 keyLaw Try.underlying31 Try.underlying4 (zeroB _) B j _ rfl hown _ _ rfl (keyOf_int_mk Try.underlying3 (wf_small hK0 (by omega))) false hp.out ?_)
            go_meet
            exact ⟨rfl, rfl⟩
        case rest =>
          obtain ⟨rfl, he⟩ := hcut
          obtain rfl := he.symm
          clear he
          clear hown hm' hmem
          have hc2l := cnt_le (t := x + s) hR.out (by omega)
          have hc2p := cnt_pos (t := x + s) hs0 hn0 (by omega)
          have hat2 : Hid (∀ i : Nat, i < cnt (x + s) n s → 0 ≤ (lo (x + s) n s + i) * s ∧ (lo (x + s) n s + i) * s ≤ x + s) := fun i hi => by
            have := at_bounds (t := x + s) hs0 hn0 (by omega) hi
            exact ⟨this.1, this.2.1⟩
          obtain ⟨L2, hL2⟩ : ∃ L2, Hid (lo (x + s) n s = L2) := ⟨_, rfl⟩
          obtain ⟨C2, hC2⟩ : ∃ C2, Hid (cnt (x + s) n s = C2) := ⟨_, rfl⟩
          have hls2 : Hid (sts (x + s) n s = seg L2 s C2) := by
            have h : sts (x + s) n s = seg L2 s C2 := by rw [sts, hL2.out, hC2.out]
            exact h
          rw [hC2.out] at hc2l hc2p hat2 hnext hlate
          rw [hL2.out] at hat2 hnext
          go_wp2_with fail
          refine (starts_some (x + s) n s _ hR.out (by omega) (by omega)).mono ?_
          rintro e w2 ⟨u2, rfl, hown2, b2⟩
          rw [hC2.out, hls2.out] at hown2
          obtain ⟨g2, p2, rfl, hp2, hp2', hg2, c2, -⟩ := own_cells hown2 hc2p
          have c2' : Hid (∀ i, i < C2 → w2.cell? ⟨g2, i, none⟩ = some (.int .i64 ((L2 + i) * s))) := c2
          have c3' : Hid (∀ i, i < j → w2.cell? ⟨g1, i, none⟩ = some (.int .i64 ((L + i) * s))) := fun i hi => by
            rw [b2.cell (p := ⟨g1, i, none⟩) (show g1 < wr.heap.size by have := hbw.size; have := hB.out; omega), hbw.cell (p := ⟨g1, i, none⟩) hg1]
            exact c1'.out i hi
          have hBle : B ≤ wr.heap.size := by have h1 := hbw.size; have h2 := hB.out; omega
          have t2 : Below B w1 w2 := hbw.trans (b2.mono hBle)
          have r2 : Hid (Rd .i64 w2 (.slice (some ⟨g1, 0, none⟩) j p1) (seg L s j)) := r1'.out.below t2 (by have := hB.out; omega)
          have t3 : Below w.heap.size w w2 := b1.trans (t2.mono (by have h1 := b1.size; have h2 := hB.out; omega))
          clear hown2 c2 c1' r1' b2 hbw b1 t2 hBle
          go_wp2_with fail
          go_loop [139] (fun iv0 => ∃ i : Nat, i ≤ C2 ∧ iv0 = .int .i64 i) (fun i => C2 - (intOf i).toNat)
          case atStart => exact ⟨0, Nat.zero_le _, rfl⟩
          case round =>
            obtain ⟨i, hi, rfl⟩ := hrel
            by_cases hlt2 : i < C2
            · have e2 := c2'.out i hlt2
              obtain ⟨hb0, hb1⟩ := hat2.out i hlt2
              by_cases hneg : (j : Int) - (C2 : Int) + (i : Int) < 0
              · obtain ⟨y, hy⟩ : ∃ y, Hid ((L2 + (i : Int)) * s = y) := ⟨_, rfl⟩
                rw [hy.out] at e2 hb0 hb1
                go_wp2_with fail
                go_round
                case rel => exact ⟨i + 1, by omega, by go_num⟩
                case measure => simp [intOf]; omega
              · obtain ⟨m, hm⟩ : ∃ m : Nat, (j : Int) - (C2 : Int) + (i : Int) = (m : Int) := ⟨((j : Int) - (C2 : Int) + (i : Int)).toNat, by omega⟩
                have hmj : m < j := by omega
                have e1 := c3'.out m hmj
                have hz0 := (hat.out m hmj).1
                have e : (L2 + (i : Int)) * s = (L + (m : Int)) * s + s := by
                  rw [show L2 + (i : Int) = L + (m : Int) + 1 by have := hnext.out; omega, Int.add_mul (L + (m : Int)) 1 s, Int.one_mul]
                rw [e] at e2 hb0 hb1
                clear e hneg
                obtain ⟨z, hz⟩ : ∃ z, Hid ((L + (m : Int)) * s = z) := ⟨_, rfl⟩
                rw [hz.out] at e1 e2 hb0 hb1 hz0
                go_wp2_with fail
                go_round
                case rel => exact ⟨i + 1, by omega, by go_num⟩
                case measure => simp [intOf]; omega
            · have hll : Hid (x < last n (seg L s j)) := by
                have hne : seg L s j ≠ [] := by
                  intro e
                  have := congrArg List.length e
                  rw [seg_len, List.length_nil] at this
                  omega
                have h : x < last n (seg L s j) := by
                  rw [last_of _ _ hne]
                  have h1 := hat.out 0 (by omega)
                  have h2 := le_mx _ _ (show (L + ((0 : Nat) : Int)) * s ∈ seg L s j from mem_seg (by omega) (by omega))
                  omega
                exact h
              obtain ⟨A, hA⟩ : ∃ A, Hid (last n (seg L s j) = A) := ⟨_, rfl⟩
              rw [hA.out] at hll
              have hll' := hll.out
              by_cases hxn : x < n
              · go_wp2_with fail
                refine (last_is n _ _ A _ r2.out (by omega) (fun z hz => by have := hbd.out z hz; omega) hA.out).mono ?_
                rintro e w' ⟨rfl, he⟩; obtain rfl := he.symm; clear he
                go_wp2_with fail
                refine (runs_any _).mono ?_
                rintro e w6 ⟨rfl, b6⟩
                have t6 := t3.trans (b6.mono t3.size)
                go_wp2_with fail
                go_ret
                exact ⟨rfl, t6⟩
              · have hCC : C2 = j := hlate.out (by omega)
                subst hCC
                go_wp2_with fail
                refine (last_is n _ _ A _ r2.out (by omega) (fun z hz => by have := hbd.out z hz; omega) hA.out).mono ?_
                rintro e w' ⟨rfl, he⟩; obtain rfl := he.symm; clear he
                go_wp2_with fail
                refine (runs_any _).mono ?_
                rintro e w6 ⟨rfl, b6⟩
                have t6 := t3.trans (b6.mono t3.size)
                go_wp2_with fail
                go_ret
                exact ⟨rfl, t6⟩
theorem windowIn_walk (a b c d : Int) (w : World) (_ : (Lit.int .i64 a).wf = true) (_ : (Lit.int .i64 b).wf = true) (_ : (Lit.int .i64 c).wf = true) (_ : (Lit.int .i64 d).wf = true) :
    Calls Try.prog 5 #[.int .i64 a, .int .i64 b, .int .i64 c, .int .i64 d] w fun e w' => e = .returned (.bool true) ∧ Below w.heap.size w w' := in_core a b c d w
end Go.Proofs.Ytfhfbiodpjpfjaa
