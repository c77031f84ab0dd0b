/- QuotaPlays, walked: of any most, any spendings, any refusals it returns true, and nothing that was there is written. -/
import Derived.Test.YtldfdgbbfdedkaaRuns
import Derived.Test.YtldfdgbbfdedkaaOwn
namespace Go.Proofs.Ytldfdgbbfdedkaa
open Go.RowKit M
set_option linter.unusedVariables false

attribute [local go_sem ↓] Go.wp_at_zero Go.wp_at_succ
set_option maxHeartbeats 4000000 in
set_option maxRecDepth 100000 in
theorem plays_core (most M : Int) (a1 : Option Addr) (len1 cap1 : Nat) (a2 : Option Addr) (len2 cap2 : Nat) (w : World) (hM : 0 ≤ most ∧ M = most ∨ most < 0 ∧ M = 0) (hM1 : M ≤ 9223372036854775807) (row1 : IsRows w a1 len1 cap1 ()) (row2 : IsBools w a2 len2 cap2 ()) :
    Calls Try.prog 4 #[.int .i64 most, .slice a1 len1 cap1, .slice a2 len2 cap2] w fun e w' => e = .returned (.bool true) ∧ Below w.heap.size w w' := by
  obtain ⟨i0, hi, hz0, hz1, hz2⟩ := info_parts Try.info3
  obtain ⟨hlen1, hlc1, hcap1, hr1'⟩ := row1
  obtain ⟨hlen2, hlc2, hcap2, hr2'⟩ := row2
  have hr1 : Hid (∀ r, r < len1 → ∃ b off a' l c zs, a1 = some ⟨b, off, none⟩ ∧ b < w.heap.size ∧ w.cell? ⟨b, off + r, none⟩ = some (.slice a' l c) ∧ IsInts w a' l c zs) := hr1'
  have hr2 : Hid (∀ r, r < len2 → ∃ b off p, a2 = some ⟨b, off, none⟩ ∧ b < w.heap.size ∧ w.cell? ⟨b, off + r, none⟩ = some (.bool p)) := hr2'
  clear hr1' hr2'
  have hMh : Hid (0 ≤ most ∧ M = most ∨ most < 0 ∧ M = 0) := hM
  have hM0 : 0 ≤ M := by omega
  clear hM
  go_enter Try.func4, Try.ntmps4
  go_wp2_with fail
  refine (of_any most M _ hMh.out).mono ?_
  rintro e v0 ⟨rfl, n0⟩
  go_upto_region 2 with fail
  have hs := n0.size
  refine world_gen (fun W => Hid (Qt W v0.heap.size M 0 0) ∧ Hid (Below w.heap.size w W)) ⟨qt_new v0 M 0 0, n0.alloc hs _⟩ ?_
  clear n0
  generalize v0.heap.size = g at hs ⊢
  rintro W ⟨q0, t0⟩
  go_cut [8, 9, 10] (fun lv sv fv wx => lv = .int .i64 M ∧ sv = .int .i64 0 ∧ fv = .int .i64 0 ∧ wx = W)
  case first =>
    rcases hMh.out with ⟨h1, h2⟩ | ⟨h1, h2⟩
    all_goals
      go_wp2_with fail
      all_goals
        go_meet
        exact ⟨val_int (by omega), rfl, rfl, rfl⟩
  case rest =>
    obtain ⟨rfl, rfl, rfl, hwc⟩ := hcut
    obtain rfl := hwc.symm
    clear hwc
    go_wp2_with fail
    go_loopw [8, 9, 10, 11] (fun lv sv fv iv wr => ∃ (k : Nat) (L S F : Int), k ≤ len1 ∧ k ≤ 30 ∧ lv = .int .i64 L ∧ sv = .int .i64 S ∧ fv = .int .i64 F ∧ iv = .int .i64 k ∧ 0 ≤ L ∧ 0 ≤ S ∧ Hid (L + S = M) ∧ 0 ≤ F ∧ F ≤ 2 * k ∧ Hid (Qt wr g L S F) ∧ Hid (Below w.heap.size w wr)) (fun _ _ _ i _ => 30 - (intOf i).toNat)
    case atStart => exact ⟨0, M, 0, 0, Nat.zero_le _, Nat.zero_le _, rfl, rfl, rfl, rfl, hM0, Int.le_refl _, Int.add_zero _, Int.le_refl _, Int.le_refl _, q0, t0⟩
    case round =>
      obtain ⟨k, L, S, F, hk1, hk30, rfl, rfl, rfl, rfl, hL0, hS0, hLS, hF0, hF1, qr, tr⟩ := hrel
      clear q0 t0
      have hways : (k < len1 ∧ k < 30) ∨ (¬ k < len1 ∨ k < len1 ∧ ¬ k < 30) := by omega
      rcases hways with ⟨hlt, hlt2⟩ | hstop
      · obtain ⟨b, off, a', l', c', zs, rfl, hbl, hcell0, hrow⟩ := hr1.out k hlt
        have hcell : Hid (wr.cell? ⟨b, off + k, none⟩ = some (.slice a' l' c')) := (tr.out.cell (p := ⟨b, off + k, none⟩) hbl).trans hcell0
        have hblr : b < wr.heap.size := Nat.lt_of_lt_of_le hbl tr.out.size
        obtain ⟨K, hK5, hKl, hKe⟩ : ∃ K : Nat, K ≤ 5 ∧ K ≤ l' ∧ ((l' ≤ 5 ∧ K = l') ∨ (5 < l' ∧ K = 5)) := by
          by_cases h : l' ≤ 5
          · exact ⟨l', h, Nat.le_refl _, .inl ⟨h, rfl⟩⟩
          · exact ⟨5, Nat.le_refl _, by omega, .inr ⟨by omega, rfl⟩⟩
        obtain ⟨hxl0, hlc, hcc, hnil⟩ := row_len hrow K hKl
        have hsrc0 := (src_row hrow K hKl).below tr.out (Nat.le_refl _)
        obtain ⟨X, hX⟩ : ∃ X, Hid (zs.take K = X) := ⟨_, rfl⟩
        rw [hX.out] at hxl0 hsrc0
        have hXl : Hid (X.length = K) := hxl0
        have hsrc : Hid (Src wr (.slice a' K c') X.length (X.map (Value.int .i64))) := by
          have h : Src wr (.slice a' K c') X.length (X.map (Value.int .i64)) := by rw [hXl.out]; exact hsrc0
          exact h
        clear hX hsrc0 hxl0 hrow hcell0 hr1 hbl
        go_upto_region 6 with fail
        have hKe2 : Hid (((l' : Nat) : Int) ≤ 5 ∧ ((K : Nat) : Int) = ((l' : Nat) : Int) ∨ 5 < ((l' : Nat) : Int) ∧ ((K : Nat) : Int) = 5) := by
          rcases hKe with ⟨h1, h2⟩ | ⟨h1, h2⟩
          · exact .inl ⟨by omega, by omega⟩
          · exact .inr ⟨by omega, by omega⟩
        clear hKe
        go_cut [12] (fun v wx => Hid (Rd .i64 wx v X) ∧ Hid (Below wr.heap.size wr wx))
        case first =>
          have hS0 : Hid (wr.drew.cell? ⟨b, off + k, none⟩ = some (.slice a' l' c') ∧ Below wr.heap.size wr wr.drew) := ⟨hcell.out, (Below.refl _ _).drew⟩
          refine wp_region_held_drew (S := fun Y => Y.cell? ⟨b, off + k, none⟩ = some (.slice a' l' c') ∧ Below wr.heap.size wr Y) (by kernel_rfl) hS0.out (fun hHeld => ?_)
          generalize wr.drew = V at hS0 hHeld ⊢
          clear hS0 hcell
          refine take_at (i := 1) (v := .slice (some ⟨b, off, none⟩) len1 cap1) rfl rfl (by kernel_rfl) (by kernel_rfl) (by kernel_rfl) (fun _ _ _ h => h) (Or.inl ⟨by rfl, fun Y _ => by go_simp⟩) hHeld ?_
          try simp only [Act.put, List.setIfInBounds_toArray, List.set_cons_zero, List.set_cons_succ]
          refine take_at (i := 2) (v := .int .i64 ((k : Nat) : Int)) rfl rfl (by kernel_rfl) (by kernel_rfl) (by kernel_rfl) (fun _ _ _ h => h) (Or.inl ⟨by rfl, fun Y _ => by go_simp⟩) hHeld ?_
          try simp only [Act.put, List.setIfInBounds_toArray, List.set_cons_zero, List.set_cons_succ]
          refine take_at (i := 3) (v := .pointer (some ⟨b, off + k, none⟩)) rfl rfl (by kernel_rfl) (by kernel_rfl) (by kernel_rfl) (fun _ _ _ h => h) (Or.inl ⟨by rfl, fun Y _ => by go_simp⟩) hHeld ?_
          try simp only [Act.put, List.setIfInBounds_toArray, List.set_cons_zero, List.set_cons_succ]
          refine take_at (i := 4) (v := .slice a' l' c') rfl rfl (by kernel_rfl) (by kernel_rfl) (by kernel_rfl) (fun _ _ _ h => h) (Or.inl ⟨by rfl, fun Y hX => by obtain ⟨c0, _⟩ := hX; go_simp⟩) hHeld ?_
          try simp only [Act.put, List.setIfInBounds_toArray, List.set_cons_zero, List.set_cons_succ]
          refine take_at (i := 5) (v := .slice (some ⟨b, off, none⟩) len1 cap1) rfl rfl (by kernel_rfl) (by kernel_rfl) (by kernel_rfl) (fun _ _ _ h => h) (Or.inl ⟨by rfl, fun Y _ => by go_simp⟩) hHeld ?_
          try simp only [Act.put, List.setIfInBounds_toArray, List.set_cons_zero, List.set_cons_succ]
          refine take_at (i := 6) (v := .int .i64 ((k : Nat) : Int)) rfl rfl (by kernel_rfl) (by kernel_rfl) (by kernel_rfl) (fun _ _ _ h => h) (Or.inl ⟨by rfl, fun Y _ => by go_simp⟩) hHeld ?_
          try simp only [Act.put, List.setIfInBounds_toArray, List.set_cons_zero, List.set_cons_succ]
          refine take_at (i := 7) (v := .pointer (some ⟨b, off + k, none⟩)) rfl rfl (by kernel_rfl) (by kernel_rfl) (by kernel_rfl) (fun _ _ _ h => h) (Or.inl ⟨by rfl, fun Y _ => by go_simp⟩) hHeld ?_
          try simp only [Act.put, List.setIfInBounds_toArray, List.set_cons_zero, List.set_cons_succ]
          refine take_at (i := 8) (v := .slice a' l' c') rfl rfl (by kernel_rfl) (by kernel_rfl) (by kernel_rfl) (fun _ _ _ h => h) (Or.inl ⟨by rfl, fun Y hX => by obtain ⟨c0, _⟩ := hX; go_simp⟩) hHeld ?_
          try simp only [Act.put, List.setIfInBounds_toArray, List.set_cons_zero, List.set_cons_succ]
          refine take_at (i := 9) (v := .int .i64 ((l' : Nat) : Int)) rfl rfl (by kernel_rfl) (by kernel_rfl) (by kernel_rfl) (fun _ _ _ h => h) (Or.inl ⟨by rfl, fun Y _ => len_op (.tmp 40) a' l' c' rfl rfl⟩) hHeld ?_
          try simp only [Act.put, List.setIfInBounds_toArray, List.set_cons_zero, List.set_cons_succ]
          refine take_at (i := 10) (v := .int .i64 ((K : Nat) : Int)) rfl rfl (by kernel_rfl) (by kernel_rfl) (by kernel_rfl) (fun _ _ _ h => h) (Or.inl ⟨by rfl, fun Y _ => min_op (.tmp 41) _ _ rfl rfl hKe2.out rfl⟩) hHeld ?_
          try simp only [Act.put, List.setIfInBounds_toArray, List.set_cons_zero, List.set_cons_succ]
          refine take_at (i := 11) (v := .slice a' K c') rfl rfl (by kernel_rfl) (by kernel_rfl) (by kernel_rfl) (fun _ _ _ h => h) (Or.inl ⟨by rfl, fun Y _ => slice_op (.tmp 36) (.tmp 42) a' l' c' K rfl rfl rfl (by omega) hcc (fun h => (hnil h).2)⟩) hHeld ?_
          try simp only [Act.put, List.setIfInBounds_toArray, List.set_cons_zero, List.set_cons_succ]
          refine wpAnyH_ready (rs := [0]) (by kernel_rfl) (by simp) ?_
          refine AllReadyH.cons rfl (fun Kx hKx => ?_) AllReadyH.nil
          rw [if_pos (by rfl)]
          have hb1 := hHeld.2
          have hS1 : Hid ((V.alloc (.cells #[] 3)).cell? ⟨b, off + k, none⟩ = some (.slice a' l' c') ∧ Below wr.heap.size wr (V.alloc (.cells #[] 3))) := ⟨((below_alloc V _).cell (p := ⟨b, off + k, none⟩) (Nat.lt_of_lt_of_le hblr hb1.size)).trans hHeld.1, hb1.trans ((below_alloc V _).mono hb1.size)⟩
          clear hb1 hHeld
          go_simp
          refine hKx.out _ _ hS1.out (fun hHeld => ?_)
          clear hKx Kx hS1
          try simp only [Act.put, List.setIfInBounds_toArray, List.set_cons_zero, List.set_cons_succ]
          refine wpAnyH_ready (rs := [12]) (by kernel_rfl) (by simp) ?_
          refine AllReadyH.cons rfl (fun Kx hKx => ?_) AllReadyH.nil
          refine step_at _ rfl rfl (.tmp 32) (.tmp 43) 30 rfl 3 i0 (.int .i64 0) 8 .i64 Try.underlying30 hi hz0 hz1 hz2 rfl _ rfl _ X rfl (hsrc.out.below hHeld.2 (Nat.le_refl _)) (by unfold maxLen; have := hXl.out; omega) (by have := hXl.out; omega) ?_
          intro v5 w5 r5 q5 b5
          have hb5 : Below wr.heap.size wr w5 := hHeld.2.trans (b5.mono hHeld.2.size)
          refine hKx.out _ _ ⟨(b5.cell (p := ⟨b, off + k, none⟩) (Nat.lt_of_lt_of_le hblr hHeld.2.size)).trans hHeld.1, hb5⟩ (fun hHeld => ?_)
          clear hKx Kx
          try simp only [Act.put, List.setIfInBounds_toArray, List.set_cons_zero, List.set_cons_succ]
          refine take_at (i := 13) (v := v5) rfl rfl (by kernel_rfl) (by kernel_rfl) (by kernel_rfl) (fun _ _ _ h => h) (Or.inl ⟨by rfl, fun Y _ => by go_simp⟩) hHeld ?_
          try simp only [Act.put, List.setIfInBounds_toArray, List.set_cons_zero, List.set_cons_succ]
          refine wpAnyH_done (by kernel_rfl) ?_ _
          go_wp2_with fail
          go_meet
          exact ⟨r5, hb5⟩
        case rest =>
          obtain ⟨hrd, hbk⟩ := hcut
          have hLm : L ≤ 9223372036854775807 := by have := hLS.out; omega
          clear hcell hblr hKe2 hnil hsrc hlc hcc
          have tc : Hid (Below w.heap.size w wc) := keep_call tr.out hbk.out tr.out.size
          have qc : Hid (Qt wc g L S F) := qr.out.call hbk.out
          clear tr qr hbk
          obtain ⟨_, ao, cp, rfl, hcp1, hcp2, hcs⟩ := hrd.out
          rw [hXl.out] at hrd hcp1 hcs ⊢
          have hcl : Hid (∀ j, j < K → ∃ bb off, ao = some ⟨bb, off, none⟩ ∧ wc.cell? ⟨bb, off + j, none⟩ = some (.int .i64 (X.getD j 0))) := by
            intro j hj
            obtain ⟨bb, off, rfl, hcc⟩ := hcs (by omega)
            exact ⟨bb, off, rfl, hcc j hj⟩
          clear hcs
          go_wp2_with fail
          go_loopw [13, 14, 48] (fun pv rv iv wx => ∃ (j : Nat) (p : Bool) (r : Int), j ≤ K ∧ pv = .bool p ∧ rv = .int .i64 r ∧ iv = .int .i64 j ∧ 0 ≤ r ∧ r ≤ L ∧ Hid (okl L (X.take j) = p) ∧ Hid (p = true → r = L - (X.take j).sum) ∧ wx = wc) (fun _ _ i _ => K - (intOf i).toNat)
          case atStart => exact ⟨0, true, L, Nat.zero_le _, rfl, rfl, rfl, hL0, Int.le_refl _, rfl, (fun _ => (Int.sub_zero L).symm : true = true → L = L - (0 : Int)), rfl⟩
          case round =>
            obtain ⟨j, p, r, hj, rfl, rfl, rfl, hr0, hrL, hok, hre, hwx⟩ := hrel
            obtain rfl := hwx.symm
            clear hwx
            by_cases hjK : j < K
            · obtain ⟨bb, off2, rfl, gc⟩ := hcl.out j hjK
              obtain ⟨y, hy⟩ : ∃ y, Hid (X.getD j 0 = y) := ⟨_, rfl⟩
              rw [hy.out] at gc
              have hnx : Hid (X.take (j + 1) = X.take j ++ [y]) := by
                have h : X.take (j + 1) = X.take j ++ [y] := by rw [take_snoc' X 0 j (by have := hXl.out; omega), hy.out]
                exact h
              clear hy
              cases p with
              | false =>
                have hok2 : Hid (okl L (X.take (j + 1)) = false) := by
                  have h : okl L (X.take (j + 1)) = false := by rw [hnx.out, okl_snoc, hok.out]; rfl
                  exact h
                clear hok hnx hre
                go_wp2_with fail
                go_roundw
                case rel => exact ⟨j + 1, false, r, by omega, rfl, rfl, by go_num, hr0, hrL, hok2, (fun h => nomatch h : false = true → r = L - (X.take (j + 1)).sum), trivial⟩
                case measure => simp [intOf]; omega
              | true =>
                have hrs : Hid (r = L - (X.take j).sum) := hre.out rfl
                have hok2 : Hid (okl L (X.take (j + 1)) = decide (0 ≤ y ∧ y ≤ r)) := by
                  have h : okl L (X.take (j + 1)) = decide (0 ≤ y ∧ y ≤ r) := by rw [hnx.out, okl_snoc, hok.out, ← hrs.out]; rfl
                  exact h
                have hrs2 : Hid (r - y = L - (X.take (j + 1)).sum) := by
                  have h : r - y = L - (X.take (j + 1)).sum := by
                    rw [hnx.out, List.sum_append, show ([y] : List Int).sum = y by simp]
                    have := hrs.out
                    omega
                  exact h
                clear hok hnx hre hrs
                by_cases hy0 : 0 ≤ y
                · by_cases hy1 : y ≤ r
                  · have hok3 : Hid (okl L (X.take (j + 1)) = true) := hok2.out.trans (decide_eq_true ⟨hy0, hy1⟩)
                    clear hok2
                    go_wp2_with fail
                    go_roundw
                    case rel => exact ⟨j + 1, true, r - y, by omega, by first | rfl | (refine congrArg Value.bool ?_; simp; omega), by go_num, by go_num, by omega, by omega, hok3, (fun _ => hrs2.out : true = true → r - y = L - (X.take (j + 1)).sum), trivial⟩
                    case measure => simp [intOf]; omega
                  · have hok3 : Hid (okl L (X.take (j + 1)) = false) := hok2.out.trans (decide_eq_false fun h => hy1 h.2)
                    clear hok2 hrs2
                    go_wp2_with fail
                    go_roundw
                    case rel => exact ⟨j + 1, false, r, by omega, by first | rfl | (refine congrArg Value.bool ?_; simp; omega), rfl, by go_num, hr0, hrL, hok3, (fun h => nomatch h : false = true → r = L - (X.take (j + 1)).sum), trivial⟩
                    case measure => simp [intOf]; omega
                · have hok3 : Hid (okl L (X.take (j + 1)) = false) := hok2.out.trans (decide_eq_false fun h => hy0 h.1)
                  clear hok2 hrs2
                  go_wp2_with fail
                  go_roundw
                  case rel => exact ⟨j + 1, false, r, by omega, by first | rfl | (refine congrArg Value.bool ?_; simp; omega), rfl, by go_num, hr0, hrL, hok3, (fun h => nomatch h : false = true → r = L - (X.take (j + 1)).sum), trivial⟩
                  case measure => simp [intOf]; omega
            · have hjn : j = K := by omega
              have hok2 : Hid (okl L X = p) := by
                have h := hok.out
                rw [List.take_of_length_le (by have := hXl.out; omega)] at h
                exact h
              have hre2 : Hid (p = true → r = L - X.sum) := by
                have h := hre.out
                rw [List.take_of_length_le (by have := hXl.out; omega)] at h
                exact h
              obtain ⟨L', S', F', hsp, hpt, hpf, hL0', hS0', hLS', hF0', hF1'⟩ : ∃ L' S' F', Hid (Sp L S F X p L' S' F') ∧ Hid (p = true → L' = r ∧ S' = S + L - r ∧ F' = F) ∧ Hid (p = false → L' = L ∧ S' = S ∧ F' = F + 1) ∧ 0 ≤ L' ∧ 0 ≤ S' ∧ Hid (L' + S' = M) ∧ F ≤ F' ∧ F' ≤ F + 1 := by
                have e1 := hLS.out
                cases p with
                | true =>
                  have e := hre2.out rfl
                  exact ⟨L - X.sum, S + X.sum, F, ⟨hok2.out, .inl ⟨rfl, rfl, rfl, rfl⟩⟩, (fun _ => ⟨e.symm, by omega, rfl⟩ : true = true → L - X.sum = r ∧ S + X.sum = S + L - r ∧ F = F), (fun h => nomatch h : true = false → L - X.sum = L ∧ S + X.sum = S ∧ F = F + 1), by omega, by omega, (by omega : L - X.sum + (S + X.sum) = M), by omega, by omega⟩
                | false => exact ⟨L, S, F + 1, ⟨hok2.out, .inr ⟨rfl, rfl, rfl, rfl⟩⟩, (fun h => nomatch h : false = true → L = r ∧ S = S + L - r ∧ F + 1 = F), (fun _ => ⟨rfl, rfl, rfl⟩ : false = false → L = L ∧ S = S ∧ F + 1 = F + 1), hL0, hS0, e1, by omega, by omega⟩
              have hls : Hid (L + S ≤ 9223372036854775807) := by
                have h : L + S ≤ 9223372036854775807 := by rw [hLS.out]; exact hM1
                exact h
              have hjK2 : ¬ ((j : Nat) : Int) < ((K : Nat) : Int) := by omega
              clear hok hre hok2 hre2 hcl hjn
              go_wp2_with fail
              refine (spend_any g L S F _ X _ qc.out hrd.out hL0 hS0 hls.out ⟨hF0, by omega⟩ p L' S' F' hsp.out).mono ?_
              rintro e w1 ⟨rfl, k1, b1⟩
              have q1 : Hid (Qt w1 g L' S' F') := k1
              have t1 : Hid (Below w.heap.size w w1) := keep_but tc.out b1 hs
              clear qc tc k1 b1 hsp hrd hXl
              go_upto_if 71 with fail
              go_cut [8, 9, 10] (fun lv sv fv wx => lv = .int .i64 L' ∧ sv = .int .i64 S' ∧ fv = .int .i64 F' ∧ wx = w1)
              case first =>
                cases p with
                | true =>
                  obtain ⟨e1, e2, e3⟩ := hpt.out rfl
                  have e1' : Hid (L' = r) := e1
                  have e2' : Hid (S' = S + L - r) := e2
                  have e3' : Hid (F' = F) := e3
                  have h0 : S + L ≤ 9223372036854775807 := by have := hls.out; omega
                  clear e1 e2 e3 hpt hpf
                  go_wp2_with fail
                  go_meet
                  exact ⟨val_int e1'.out.symm, val_int e2'.out.symm, val_int e3'.out.symm, rfl⟩
                | false =>
                  obtain ⟨e1, e2, e3⟩ := hpf.out rfl
                  have e1' : Hid (L' = L) := e1
                  have e2' : Hid (S' = S) := e2
                  have e3' : Hid (F' = F + 1) := e3
                  clear e1 e2 e3 hpt hpf
                  go_wp2_with fail
                  go_meet
                  exact ⟨val_int e1'.out.symm, val_int e2'.out.symm, val_int e3'.out.symm, rfl⟩
              case rest =>
                obtain ⟨rfl, rfl, rfl, hwx⟩ := hcut
                obtain rfl := hwx.symm
                clear hwx hpt hpf hr0 hrL hcp1 hcp2
                go_upto_region 20 with fail
                go_cut [89] (fun v wx => ∃ q : Bool, v = .bool q ∧ wx = w1)
                case first =>
                  by_cases hk2 : k < len2
                  · obtain ⟨b3, off3, q, rfl, hb3, hc3⟩ := hr2.out k hk2
                    have gq := (t1.out.cell (p := ⟨b3, off3 + k, none⟩) hb3).trans hc3
                    clear hc3 hb3
                    go_wp2_with fail
                    go_meet
                    exact ⟨q, by first | rfl | (cases q <;> rfl), rfl⟩
                  · go_wp2_with fail
                    go_meet
                    exact ⟨false, rfl, rfl⟩
                case rest =>
                  obtain ⟨q, rfl, hwx⟩ := hcut
                  obtain rfl := hwx.symm
                  clear hwx
                  go_upto_if 89 with fail
                  go_cut [10] (fun fv wx => ∃ F2, F' ≤ F2 ∧ F2 ≤ F' + 1 ∧ fv = .int .i64 F2 ∧ Hid (Qt wx g L' S' F2) ∧ Hid (Below w.heap.size w wx))
                  case first =>
                    cases q with
                    | false =>
                      go_wp2_with fail
                      go_meet
                      exact ⟨F', Int.le_refl _, by omega, rfl, q1, t1⟩
                    | true =>
                      have hls2 : Hid (L' + S' ≤ 9223372036854775807) := by
                        have h : L' + S' ≤ 9223372036854775807 := by rw [hLS'.out]; exact hM1
                        exact h
                      go_wp2_with fail
                      refine (refuse_any g L' S' F' _ q1.out ⟨by omega, by omega⟩).mono ?_
                      rintro e w2 ⟨rfl, k2, b2⟩
                      have q2 : Hid (Qt w2 g L' S' (F' + 1)) := k2
                      have t2 : Hid (Below w.heap.size w w2) := keep_but t1.out b2 hs
                      clear q1 t1 k2 b2
                      have c0 := q2.out.c0
                      have c1 := q2.out.c1
                      have c2 := q2.out.c2
                      go_upto_region 24 with fail
                      have hg2 : g < w2.heap.size := q2.out.lt
                      have hs2 : w.heap.size ≤ w2.heap.size := t2.out.size
                      refine world_gen (fun W => Hid (Qt W g L' S' (F' + 1)) ∧ Hid (Qt W w2.heap.size L' S' (F' + 1)) ∧ Hid (Below w.heap.size w W)) ⟨q2.out.call (below_alloc _ _), qt_new w2 _ _ _, t2.out.alloc hs2 _⟩ ?_
                      clear c0 c1 c2 q2 t2
                      generalize w2.heap.size = g2 at hg2 hs2 ⊢
                      rintro w3 ⟨q3, p3, t3⟩
                      have r4 := rd_one w3 0
                      have q4 : Hid (Qt (w3.alloc (.cells #[.int .i64 0] 3)) g L' S' (F' + 1)) := q3.out.call (below_alloc _ _)
                      have p4 : Hid (Qt (w3.alloc (.cells #[.int .i64 0] 3)) g2 L' S' (F' + 1)) := p3.out.call (below_alloc _ _)
                      have t4 : Hid (Below w.heap.size w (w3.alloc (.cells #[.int .i64 0] 3))) := keep_call t3.out (below_alloc _ _) t3.out.size
                      have z0 : Hid (Sp L' S' (F' + 1) [0] true L' S' (F' + 1)) := by
                        have h : Sp L' S' (F' + 1) [0] true L' S' (F' + 1) := ⟨by simp [okl]; omega, .inl ⟨rfl, by simp, by simp, rfl⟩⟩
                        exact h
                      clear q3 p3 t3
                      go_wp2_with fail
                      refine (spend_any g2 L' S' (F' + 1) _ [0] _ p4.out r4 hL0' hS0' hls2.out ⟨by omega, by omega⟩ true L' S' (F' + 1) z0.out).mono ?_
                      rintro e w5 ⟨rfl, k5, b5⟩
                      have q5 : Hid (Qt w5 g L' S' (F' + 1)) := b5.qt q4.out (by omega)
                      have p5 : Hid (Qt w5 g2 L' S' (F' + 1)) := k5
                      have t5 : Hid (Below w.heap.size w w5) := keep_but t4.out b5 hs2
                      clear r4 q4 p4 t4 z0 k5 b5
                      have r6 := rd_one w5 (-1)
                      have q6 : Hid (Qt (w5.alloc (.cells #[.int .i64 (-1)] 3)) g L' S' (F' + 1)) := q5.out.call (below_alloc _ _)
                      have p6 : Hid (Qt (w5.alloc (.cells #[.int .i64 (-1)] 3)) g2 L' S' (F' + 1)) := p5.out.call (below_alloc _ _)
                      have t6 : Hid (Below w.heap.size w (w5.alloc (.cells #[.int .i64 (-1)] 3))) := keep_call t5.out (below_alloc _ _) t5.out.size
                      have z0 : Hid (Sp L' S' (F' + 1) [-1] false L' S' (F' + 1 + 1)) := by
                        have h : Sp L' S' (F' + 1) [-1] false L' S' (F' + 1 + 1) := ⟨by simp [okl], .inr ⟨rfl, rfl, rfl, rfl⟩⟩
                        exact h
                      clear q5 p5 t5
                      go_wp2_with fail
                      refine (spend_any g2 L' S' (F' + 1) _ [-1] _ p6.out r6 hL0' hS0' hls2.out ⟨by omega, by omega⟩ false L' S' (F' + 1 + 1) z0.out).mono ?_
                      rintro e w7 ⟨rfl, k7, b7⟩
                      have q7 : Hid (Qt w7 g L' S' (F' + 1)) := b7.qt q6.out (by omega)
                      have p7 : Hid (Qt w7 g2 L' S' (F' + 1 + 1)) := k7
                      have t7 : Hid (Below w.heap.size w w7) := keep_but t6.out b7 hs2
                      clear r6 q6 p6 t6 z0 k7 b7
                      go_wp2_with fail
                      refine (refuse_any g2 L' S' (F' + 1 + 1) _ p7.out ⟨by omega, by omega⟩).mono ?_
                      rintro e w8 ⟨rfl, k8, b8⟩
                      have q8 : Hid (Qt w8 g L' S' (F' + 1)) := b8.qt q7.out (by omega)
                      have t8 : Hid (Below w.heap.size w w8) := keep_but t7.out b8 hs2
                      clear q7 p7 t7 k8 b8
                      go_wp2_with fail
                      go_meet
                      exact ⟨F' + 1, by omega, Int.le_refl _, rfl, q8, t8⟩
                  case rest =>
                    obtain ⟨F2, hF20, hF21, rfl, q2, t2⟩ := hcut
                    clear q1 t1
                    have c0 := q2.out.c0
                    have c1 := q2.out.c1
                    have c2 := q2.out.c2
                    go_wp2_with fail
                    refine (left_any _ _ _ _).mono ?_
                    rintro e w3 ⟨rfl, b3⟩
                    have q3 : Hid (Qt w3 g L' S' F2) := q2.out.call b3
                    have t3 : Hid (Below w.heap.size w w3) := keep_call t2.out b3 t2.out.size
                    clear c0 c1 c2 q2 t2 b3
                    have c0 := q3.out.c0
                    have c1 := q3.out.c1
                    have c2 := q3.out.c2
                    go_wp2_with fail
                    refine (spent_any _ _ _ _).mono ?_
                    rintro e w4 ⟨rfl, b4⟩
                    have q4 : Hid (Qt w4 g L' S' F2) := q3.out.call b4
                    have t4 : Hid (Below w.heap.size w w4) := keep_call t3.out b4 t3.out.size
                    clear c0 c1 c2 q3 t3 b4
                    have c0 := q4.out.c0
                    have c1 := q4.out.c1
                    have c2 := q4.out.c2
                    go_wp2_with fail
                    refine (refused_any _ _ _ _).mono ?_
                    rintro e w5 ⟨rfl, b5⟩
                    have q5 : Hid (Qt w5 g L' S' F2) := q4.out.call b5
                    have t5 : Hid (Below w.heap.size w w5) := keep_call t4.out b5 t4.out.size
                    clear c0 c1 c2 q4 t4 b5
                    have hMw : L' + S' = M := hLS'.out
                    rcases hMh.out with ⟨hm0, rfl⟩ | ⟨hm0, rfl⟩
                    all_goals
                      go_wp2_with fail
                      go_roundw
                      case rel => exact ⟨k + 1, L', S', F2, by omega, by omega, rfl, rfl, rfl, by go_num, hL0', hS0', hMw, by omega, by omega, q5, t5⟩
                      case measure => simp [intOf]; omega
      · rcases hstop with hstop | ⟨hs1, hs2⟩
        all_goals
          go_wp2_with fail
          refine (quotaRuns_walk wr).mono ?_
          rintro e W1 ⟨rfl, b1⟩
          have t1 := keep_call tr.out b1 tr.out.size
          go_wp2
          go_ret
          exact ⟨rfl, t1⟩
theorem quotaPlays_walk (a0 : Int) (a1 : Option Addr) (len1 cap1 : Nat) (z1 : Unit) (a2 : Option Addr) (len2 cap2 : Nat) (z2 : Unit) (w : World) (w0 : (Lit.int .i64 a0).wf = true) (w1 : IsRows w a1 len1 cap1 z1) (w2 : IsBools w a2 len2 cap2 z2) :
    Calls Try.prog 4 #[.int .i64 a0, .slice a1 len1 cap1, .slice a2 len2 cap2] w fun e w' => e = .returned (.bool true) ∧ Below w.heap.size w w' := by
  obtain ⟨h0, h1⟩ := bounds_i64 w0
  by_cases h : 0 ≤ a0
  · exact plays_core a0 a0 a1 len1 cap1 a2 len2 cap2 w (.inl ⟨h, rfl⟩) (by omega) w1 w2
  · exact plays_core a0 0 a1 len1 cap1 a2 len2 cap2 w (.inr ⟨by omega, rfl⟩) (by decide) w1 w2
end Go.Proofs.Ytldfdgbbfdedkaa
