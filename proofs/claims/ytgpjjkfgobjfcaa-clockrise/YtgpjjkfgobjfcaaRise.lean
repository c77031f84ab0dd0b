/- ClockRise, walked: of any marks, any times and any number it returns true, and nothing that was there is written. -/
import Derived.Test.YtgpjjkfgobjfcaaPlays
namespace Go.Proofs.Ytgpjjkfgobjfcaa
open Go.RowKit

set_option maxHeartbeats 1000000 in
set_option maxRecDepth 100000 in
theorem rise_core (a0 : Option Addr) (len0 cap0 : Nat) (z0 : List Int) (a1 : Option Addr) (len1 cap1 : Nat) (z1 : List Int) (odd : Int) (w : World) (row0 : IsInts w a0 len0 cap0 z0) (row1 : IsInts w a1 len1 cap1 z1) :
    Calls Try.prog 6 #[.slice a0 len0 cap0, .slice a1 len1 cap1, .int .i64 odd] w fun e w' => e = .returned (.bool true) ∧ Below w.heap.size w w' := by
  have hn := clk_new w
  have hb := (Below.refl w.heap.size w).alloc (Nat.le_refl _) (.cells #[.int .i64 0, .int .i64 0, .int .i64 0] 23)
  obtain ⟨hlen0, hcap0, hlc0, hr0'⟩ := ints_at row0
  obtain ⟨hlen1, hcap1, hlc1, hr1'⟩ := ints_at row1
  have hr0 : Hid (∀ k, k < len0 → ∃ b off n, a0 = some ⟨b, off, none⟩ ∧ b < w.heap.size ∧ w.cell? ⟨b, off + k, none⟩ = some (.int .i64 n) ∧ (Lit.int .i64 n).wf = true) := hr0'
  have hr1 : Hid (∀ k, k < len1 → ∃ b off n, a1 = some ⟨b, off, none⟩ ∧ b < w.heap.size ∧ w.cell? ⟨b, off + k, none⟩ = some (.int .i64 n) ∧ (Lit.int .i64 n).wf = true) := hr1'
  clear row0 row1 hr0' hr1'
  go_enter Try.func6, Try.ntmps6
  go_wp2_with fail
  go_loopw [8, 9] (fun tv iv wr => ∃ (k : Nat) (top : Int), k ≤ len0 ∧ k ≤ 15 ∧ tv = .int .i64 top ∧ iv = .int .i64 k ∧ (0 ≤ top ∧ top ≤ 500) ∧ Clk wr w.heap.size top 0 0 ∧ Below w.heap.size w wr) (fun _ i _ => len0 - (intOf i).toNat)
  case atStart => exact ⟨0, 0, Nat.zero_le _, Nat.zero_le _, rfl, rfl, by decide, hn, hb⟩
  case round =>
    obtain ⟨k, top, hk, hk15, rfl, rfl, ⟨ht0, ht5⟩, hclk, hbw⟩ := hrel
    clear hn hb
    have hways : (k < len0 ∧ k < 15) ∨ (¬ k < len0 ∨ k < len0 ∧ ¬ k < 15) := by omega
    rcases hways with ⟨hlt, hlt2⟩ | hstop
    · obtain ⟨b, off, n, rfl, hb, c0, -⟩ := hr0.out k hlt
      rw [← hbw.cell (p := ⟨b, off + k, none⟩) hb] at c0
      clear hr0 hr1
      go_wp2_with fail
      refine (within_any n 0 500 wr (by decide) (by decide) (by decide)).mono ?_
      rintro e w' ⟨⟨m, hm0, hm1, rfl⟩, he⟩; obtain rfl := he.symm; clear he
      by_cases h1 : top < m
      · have hmx : max top m = m := by omega
        go_wp2_with fail
        refine (advance_any _ _ _ _ _ _ hclk true m (.inl ⟨⟨h1, by omega⟩, rfl, rfl⟩)).mono ?_
        rintro e W1 ⟨rfl, k1, b1⟩
        have hb1 := hbw.trans b1.below
        have e0 := k1.c0
        have e1 := k1.c1
        have e2 := k1.c2
        clear hclk hbw b1
        go_wp2_with fail
        refine (mark_any _ _ _ _).mono ?_
        rintro e W2 ⟨rfl, b2⟩
        have k2 := k1.below b2 k1.lt
        have hb2 := keep_call hb1 b2 (Nat.le_of_lt k1.lt)
        clear e0 e1 e2 k1 hb1 b2
        go_wp2_with fail
        go_roundw
        case rel => exact ⟨k + 1, m, by omega, by omega, val_int (by omega), by go_num, by omega, k2, hb2⟩
        case measure => simp [intOf]; omega
      · have hmx : max top m = top := by omega
        go_wp2_with fail
        refine (advance_any _ _ _ _ _ _ hclk false top (.inr ⟨by omega, rfl, rfl⟩)).mono ?_
        rintro e W1 ⟨rfl, k1, b1⟩
        have hb1 := hbw.trans b1.below
        have e0 := k1.c0
        have e1 := k1.c1
        have e2 := k1.c2
        clear hclk hbw b1
        go_wp2_with fail
        refine (mark_any _ _ _ _).mono ?_
        rintro e W2 ⟨rfl, b2⟩
        have k2 := k1.below b2 k1.lt
        have hb2 := keep_call hb1 b2 (Nat.le_of_lt k1.lt)
        clear e0 e1 e2 k1 hb1 b2
        go_wp2_with fail
        go_roundw
        case rel => exact ⟨k + 1, top, by omega, by omega, val_int (by omega), by go_num, by omega, k2, hb2⟩
        case measure => simp [intOf]; omega
    · clear hr0
      rcases hstop with hs | ⟨hs, hs'⟩
      · go_wp2_with fail
        go_loopw [11, 12, 13] (fun lv nv iv w2 => ∃ (j : Nat) (l : Int), j ≤ len1 ∧ j ≤ 20 ∧ lv = .int .i64 l ∧ nv = .int .i64 j ∧ iv = .int .i64 j ∧ (0 ≤ l ∧ l ≤ j) ∧ Clk w2 w.heap.size top l j ∧ Below w.heap.size w w2) (fun _ _ i _ => len1 - (intOf i).toNat)
        case atStart => exact ⟨0, 0, Nat.zero_le _, Nat.zero_le _, rfl, rfl, rfl, by decide, hclk, hbw⟩
        case round =>
          clear hclk hbw
          obtain ⟨j, l, hj, hj20, rfl, rfl, rfl, ⟨hl0, hl1⟩, hclk, hbw⟩ := hrel
          have hways : (j < len1 ∧ j < 20) ∨ (¬ j < len1 ∨ j < len1 ∧ ¬ j < 20) := by omega
          rcases hways with ⟨hlt, hlt2⟩ | hstop
          · obtain ⟨b, off, n, rfl, hb, c0, -⟩ := hr1.out j hlt
            rw [← hbw.cell (p := ⟨b, off + j, none⟩) hb] at c0
            clear hr1
            go_wp2_with fail
            refine (within_any n 0 600 _ (by decide) (by decide) (by decide)).mono ?_
            rintro e w' ⟨⟨t, hm0, hm1, rfl⟩, he⟩; subst he
            have ej : ((j + 1 : Nat) : Int) = (j : Int) + 1 := by omega
            obtain ⟨J, hJ⟩ : ∃ J, Hid (((j + 1 : Nat) : Int) = J) := ⟨_, rfl⟩
            rw [hJ.out] at ej
            by_cases h1 : t < top
            · go_wp2_with fail
              refine (on_any _ _ _ _ _ _ hclk false (l + 1) (j + 1) (.inl ⟨by omega, .inl ⟨h1, rfl, rfl, rfl⟩⟩) (by omega) (by omega)).mono ?_
              rintro e W1 ⟨rfl, k1, b1⟩
              have hb1 := hbw.trans b1.below
              clear hclk hbw b1
              go_wp2_with fail
              go_roundw
              case rel => exact ⟨j + 1, l + 1, by omega, by omega, rfl, by go_num, by go_num, by omega, k1, hb1⟩
              case measure => simp [intOf]; omega
            · go_wp2_with fail
              refine (on_any _ _ _ _ _ _ hclk true l (j + 1) (.inl ⟨by omega, .inr ⟨by omega, rfl, rfl, rfl⟩⟩) (by omega) (by omega)).mono ?_
              rintro e W1 ⟨rfl, k1, b1⟩
              have hb1 := hbw.trans b1.below
              clear hclk hbw b1
              go_wp2_with fail
              go_roundw
              case rel => exact ⟨j + 1, l, by omega, by omega, rfl, by go_num, by go_num, by omega, k1, hb1⟩
              case measure => simp [intOf]; omega
          · clear hr1
            rcases hstop with hs2 | ⟨hs2, hs3⟩
            · go_wp2_with fail
              refine (within_any odd 0 1125899906842624 _ (by decide) (by decide) (by decide)).mono ?_
              rintro e w' ⟨⟨o, ho0, ho1, rfl⟩, he⟩; subst he
              go_wp2_with fail
              refine (on_any _ _ _ _ _ _ hclk false l j (.inr ⟨by omega, rfl, rfl, rfl⟩) (by omega) (by omega)).mono ?_
              rintro e W1 ⟨rfl, k1, b1⟩
              have hb1 := hbw.trans b1.below
              clear hclk hbw b1
              go_wp2_with fail
              refine (on_any _ _ _ _ _ _ k1 false l j (.inr ⟨by omega, rfl, rfl, rfl⟩) (by omega) (by omega)).mono ?_
              rintro e W2 ⟨rfl, k2, b2⟩
              have hb2 := hb1.trans b2.below
              clear k1 hb1 b2
              go_wp2_with fail
              refine (advance_any _ _ _ _ _ _ k2 false top (.inr ⟨by omega, rfl, rfl⟩)).mono ?_
              rintro e W3 ⟨rfl, k3, b3⟩
              have hb3 := hb2.trans b3.below
              clear k2 hb2 b3
              have e0 := k3.c0
              have e1 := k3.c1
              have e2 := k3.c2
              go_wp2_with fail
              refine (late_any _ _ _ _).mono ?_
              rintro e W4 ⟨rfl, b4⟩
              have k4 := k3.below b4 k3.lt
              have hb4 := keep_call hb3 b4 (Nat.le_of_lt k3.lt)
              clear e0 e1 e2 k3 hb3 b4
              have e0 := k4.c0
              have e1 := k4.c1
              have e2 := k4.c2
              go_wp2_with fail
              refine (seen_any _ _ _ _).mono ?_
              rintro e W5 ⟨rfl, b5⟩
              have k5 := k4.below b5 k4.lt
              have hb5 := keep_call hb4 b5 (Nat.le_of_lt k4.lt)
              clear e0 e1 e2 k4 hb4 b5
              have e0 := k5.c0
              have e1 := k5.c1
              have e2 := k5.c2
              go_wp2_with fail
              refine (mark_any _ _ _ _).mono ?_
              rintro e W6 ⟨rfl, b6⟩
              have k6 := k5.below b6 k5.lt
              have hb6 := keep_call hb5 b6 (Nat.le_of_lt k5.lt)
              clear e0 e1 e2 k5 hb5 b6
              go_wp2_with fail
              refine (advance_any _ _ _ _ _ _ k6 true 1099512676352 (.inl ⟨by omega, rfl, rfl⟩)).mono ?_
              rintro e W7 ⟨rfl, k7, b7⟩
              have hb7 := hb6.trans b7.below
              clear k6 hb6 b7
              go_wp2_with fail
              refine (clockRuns_walk W7).mono ?_
              rintro e W8 ⟨rfl, b8⟩
              go_wp2
              go_ret
              exact ⟨rfl, keep_call hb7 b8 hb7.size⟩
            · go_wp2_with fail
              refine (within_any odd 0 1125899906842624 _ (by decide) (by decide) (by decide)).mono ?_
              rintro e w' ⟨⟨o, ho0, ho1, rfl⟩, he⟩; subst he
              go_wp2_with fail
              refine (on_any _ _ _ _ _ _ hclk false l j (.inr ⟨by omega, rfl, rfl, rfl⟩) (by omega) (by omega)).mono ?_
              rintro e W1 ⟨rfl, k1, b1⟩
              have hb1 := hbw.trans b1.below
              clear hclk hbw b1
              go_wp2_with fail
              refine (on_any _ _ _ _ _ _ k1 false l j (.inr ⟨by omega, rfl, rfl, rfl⟩) (by omega) (by omega)).mono ?_
              rintro e W2 ⟨rfl, k2, b2⟩
              have hb2 := hb1.trans b2.below
              clear k1 hb1 b2
              go_wp2_with fail
              refine (advance_any _ _ _ _ _ _ k2 false top (.inr ⟨by omega, rfl, rfl⟩)).mono ?_
              rintro e W3 ⟨rfl, k3, b3⟩
              have hb3 := hb2.trans b3.below
              clear k2 hb2 b3
              have e0 := k3.c0
              have e1 := k3.c1
              have e2 := k3.c2
              go_wp2_with fail
              refine (late_any _ _ _ _).mono ?_
              rintro e W4 ⟨rfl, b4⟩
              have k4 := k3.below b4 k3.lt
              have hb4 := keep_call hb3 b4 (Nat.le_of_lt k3.lt)
              clear e0 e1 e2 k3 hb3 b4
              have e0 := k4.c0
              have e1 := k4.c1
              have e2 := k4.c2
              go_wp2_with fail
              refine (seen_any _ _ _ _).mono ?_
              rintro e W5 ⟨rfl, b5⟩
              have k5 := k4.below b5 k4.lt
              have hb5 := keep_call hb4 b5 (Nat.le_of_lt k4.lt)
              clear e0 e1 e2 k4 hb4 b5
              have e0 := k5.c0
              have e1 := k5.c1
              have e2 := k5.c2
              go_wp2_with fail
              refine (mark_any _ _ _ _).mono ?_
              rintro e W6 ⟨rfl, b6⟩
              have k6 := k5.below b6 k5.lt
              have hb6 := keep_call hb5 b6 (Nat.le_of_lt k5.lt)
              clear e0 e1 e2 k5 hb5 b6
              go_wp2_with fail
              refine (advance_any _ _ _ _ _ _ k6 true 1099512676352 (.inl ⟨by omega, rfl, rfl⟩)).mono ?_
              rintro e W7 ⟨rfl, k7, b7⟩
              have hb7 := hb6.trans b7.below
              clear k6 hb6 b7
              go_wp2_with fail
              refine (clockRuns_walk W7).mono ?_
              rintro e W8 ⟨rfl, b8⟩
              go_wp2
              go_ret
              exact ⟨rfl, keep_call hb7 b8 hb7.size⟩
      · go_wp2_with fail
        go_loopw [11, 12, 13] (fun lv nv iv w2 => ∃ (j : Nat) (l : Int), j ≤ len1 ∧ j ≤ 20 ∧ lv = .int .i64 l ∧ nv = .int .i64 j ∧ iv = .int .i64 j ∧ (0 ≤ l ∧ l ≤ j) ∧ Clk w2 w.heap.size top l j ∧ Below w.heap.size w w2) (fun _ _ i _ => len1 - (intOf i).toNat)
        case atStart => exact ⟨0, 0, Nat.zero_le _, Nat.zero_le _, rfl, rfl, rfl, by decide, hclk, hbw⟩
        case round =>
          clear hclk hbw
          obtain ⟨j, l, hj, hj20, rfl, rfl, rfl, ⟨hl0, hl1⟩, hclk, hbw⟩ := hrel
          have hways : (j < len1 ∧ j < 20) ∨ (¬ j < len1 ∨ j < len1 ∧ ¬ j < 20) := by omega
          rcases hways with ⟨hlt, hlt2⟩ | hstop
          · obtain ⟨b, off, n, rfl, hb, c0, -⟩ := hr1.out j hlt
            rw [← hbw.cell (p := ⟨b, off + j, none⟩) hb] at c0
            clear hr1
            go_wp2_with fail
            refine (within_any n 0 600 _ (by decide) (by decide) (by decide)).mono ?_
            rintro e w' ⟨⟨t, hm0, hm1, rfl⟩, he⟩; subst he
            have ej : ((j + 1 : Nat) : Int) = (j : Int) + 1 := by omega
            obtain ⟨J, hJ⟩ : ∃ J, Hid (((j + 1 : Nat) : Int) = J) := ⟨_, rfl⟩
            rw [hJ.out] at ej
            by_cases h1 : t < top
            · go_wp2_with fail
              refine (on_any _ _ _ _ _ _ hclk false (l + 1) (j + 1) (.inl ⟨by omega, .inl ⟨h1, rfl, rfl, rfl⟩⟩) (by omega) (by omega)).mono ?_
              rintro e W1 ⟨rfl, k1, b1⟩
              have hb1 := hbw.trans b1.below
              clear hclk hbw b1
              go_wp2_with fail
              go_roundw
              case rel => exact ⟨j + 1, l + 1, by omega, by omega, rfl, by go_num, by go_num, by omega, k1, hb1⟩
              case measure => simp [intOf]; omega
            · go_wp2_with fail
              refine (on_any _ _ _ _ _ _ hclk true l (j + 1) (.inl ⟨by omega, .inr ⟨by omega, rfl, rfl, rfl⟩⟩) (by omega) (by omega)).mono ?_
              rintro e W1 ⟨rfl, k1, b1⟩
              have hb1 := hbw.trans b1.below
              clear hclk hbw b1
              go_wp2_with fail
              go_roundw
              case rel => exact ⟨j + 1, l, by omega, by omega, rfl, by go_num, by go_num, by omega, k1, hb1⟩
              case measure => simp [intOf]; omega
          · clear hr1
            rcases hstop with hs2 | ⟨hs2, hs3⟩
            · go_wp2_with fail
              refine (within_any odd 0 1125899906842624 _ (by decide) (by decide) (by decide)).mono ?_
              rintro e w' ⟨⟨o, ho0, ho1, rfl⟩, he⟩; subst he
              go_wp2_with fail
              refine (on_any _ _ _ _ _ _ hclk false l j (.inr ⟨by omega, rfl, rfl, rfl⟩) (by omega) (by omega)).mono ?_
              rintro e W1 ⟨rfl, k1, b1⟩
              have hb1 := hbw.trans b1.below
              clear hclk hbw b1
              go_wp2_with fail
              refine (on_any _ _ _ _ _ _ k1 false l j (.inr ⟨by omega, rfl, rfl, rfl⟩) (by omega) (by omega)).mono ?_
              rintro e W2 ⟨rfl, k2, b2⟩
              have hb2 := hb1.trans b2.below
              clear k1 hb1 b2
              go_wp2_with fail
              refine (advance_any _ _ _ _ _ _ k2 false top (.inr ⟨by omega, rfl, rfl⟩)).mono ?_
              rintro e W3 ⟨rfl, k3, b3⟩
              have hb3 := hb2.trans b3.below
              clear k2 hb2 b3
              have e0 := k3.c0
              have e1 := k3.c1
              have e2 := k3.c2
              go_wp2_with fail
              refine (late_any _ _ _ _).mono ?_
              rintro e W4 ⟨rfl, b4⟩
              have k4 := k3.below b4 k3.lt
              have hb4 := keep_call hb3 b4 (Nat.le_of_lt k3.lt)
              clear e0 e1 e2 k3 hb3 b4
              have e0 := k4.c0
              have e1 := k4.c1
              have e2 := k4.c2
              go_wp2_with fail
              refine (seen_any _ _ _ _).mono ?_
              rintro e W5 ⟨rfl, b5⟩
              have k5 := k4.below b5 k4.lt
              have hb5 := keep_call hb4 b5 (Nat.le_of_lt k4.lt)
              clear e0 e1 e2 k4 hb4 b5
              have e0 := k5.c0
              have e1 := k5.c1
              have e2 := k5.c2
              go_wp2_with fail
              refine (mark_any _ _ _ _).mono ?_
              rintro e W6 ⟨rfl, b6⟩
              have k6 := k5.below b6 k5.lt
              have hb6 := keep_call hb5 b6 (Nat.le_of_lt k5.lt)
              clear e0 e1 e2 k5 hb5 b6
              go_wp2_with fail
              refine (advance_any _ _ _ _ _ _ k6 true 1099512676352 (.inl ⟨by omega, rfl, rfl⟩)).mono ?_
              rintro e W7 ⟨rfl, k7, b7⟩
              have hb7 := hb6.trans b7.below
              clear k6 hb6 b7
              go_wp2_with fail
              refine (clockRuns_walk W7).mono ?_
              rintro e W8 ⟨rfl, b8⟩
              go_wp2
              go_ret
              exact ⟨rfl, keep_call hb7 b8 hb7.size⟩
            · go_wp2_with fail
              refine (within_any odd 0 1125899906842624 _ (by decide) (by decide) (by decide)).mono ?_
              rintro e w' ⟨⟨o, ho0, ho1, rfl⟩, he⟩; subst he
              go_wp2_with fail
              refine (on_any _ _ _ _ _ _ hclk false l j (.inr ⟨by omega, rfl, rfl, rfl⟩) (by omega) (by omega)).mono ?_
              rintro e W1 ⟨rfl, k1, b1⟩
              have hb1 := hbw.trans b1.below
              clear hclk hbw b1
              go_wp2_with fail
              refine (on_any _ _ _ _ _ _ k1 false l j (.inr ⟨by omega, rfl, rfl, rfl⟩) (by omega) (by omega)).mono ?_
              rintro e W2 ⟨rfl, k2, b2⟩
              have hb2 := hb1.trans b2.below
              clear k1 hb1 b2
              go_wp2_with fail
              refine (advance_any _ _ _ _ _ _ k2 false top (.inr ⟨by omega, rfl, rfl⟩)).mono ?_
              rintro e W3 ⟨rfl, k3, b3⟩
              have hb3 := hb2.trans b3.below
              clear k2 hb2 b3
              have e0 := k3.c0
              have e1 := k3.c1
              have e2 := k3.c2
              go_wp2_with fail
              refine (late_any _ _ _ _).mono ?_
              rintro e W4 ⟨rfl, b4⟩
              have k4 := k3.below b4 k3.lt
              have hb4 := keep_call hb3 b4 (Nat.le_of_lt k3.lt)
              clear e0 e1 e2 k3 hb3 b4
              have e0 := k4.c0
              have e1 := k4.c1
              have e2 := k4.c2
              go_wp2_with fail
              refine (seen_any _ _ _ _).mono ?_
              rintro e W5 ⟨rfl, b5⟩
              have k5 := k4.below b5 k4.lt
              have hb5 := keep_call hb4 b5 (Nat.le_of_lt k4.lt)
              clear e0 e1 e2 k4 hb4 b5
              have e0 := k5.c0
              have e1 := k5.c1
              have e2 := k5.c2
              go_wp2_with fail
              refine (mark_any _ _ _ _).mono ?_
              rintro e W6 ⟨rfl, b6⟩
              have k6 := k5.below b6 k5.lt
              have hb6 := keep_call hb5 b6 (Nat.le_of_lt k5.lt)
              clear e0 e1 e2 k5 hb5 b6
              go_wp2_with fail
              refine (advance_any _ _ _ _ _ _ k6 true 1099512676352 (.inl ⟨by omega, rfl, rfl⟩)).mono ?_
              rintro e W7 ⟨rfl, k7, b7⟩
              have hb7 := hb6.trans b7.below
              clear k6 hb6 b7
              go_wp2_with fail
              refine (clockRuns_walk W7).mono ?_
              rintro e W8 ⟨rfl, b8⟩
              go_wp2
              go_ret
              exact ⟨rfl, keep_call hb7 b8 hb7.size⟩
theorem clockRise_walk (a0 : Option Addr) (len0 cap0 : Nat) (z0 : List Int) (a1 : Option Addr) (len1 cap1 : Nat) (z1 : List Int) (odd : Int) (w : World) (w0 : IsInts w a0 len0 cap0 z0) (w1 : IsInts w a1 len1 cap1 z1) (_w2 : (Lit.int .i64 odd).wf = true) :
    Calls Try.prog 6 #[.slice a0 len0 cap0, .slice a1 len1 cap1, .int .i64 odd] w fun e w' => e = .returned (.bool true) ∧ Below w.heap.size w w' := rise_core a0 len0 cap0 z0 a1 len1 cap1 z1 odd w w0 w1
end Go.Proofs.Ytgpjjkfgobjfcaa
