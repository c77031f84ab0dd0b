/- WindowTumble, walked: of any numbers it returns true, and nothing that was there is written. -/
import Derived.Test.YtfhfbiodpjpfjaaRuns
import Derived.Deep.Cut
namespace Go.Proofs.Ytfhfbiodpjpfjaa
open Go.RowKit M
set_option linter.unusedVariables false

theorem sumTo_bd (f : Nat → Int) (h : ∀ i, 0 ≤ f i ∧ f i ≤ 8) : ∀ k, 0 ≤ sumTo f k ∧ sumTo f k ≤ 8 * k
  | 0 => ⟨Int.le_refl _, Int.le_refl _⟩
  | k + 1 => by
    have h1 := sumTo_bd f h k
    have h2 := h k
    rw [sumTo]
    omega
/-- Where windows don't overlap. -/
theorem tumble {x n : Int} (hn : 1 ≤ n) (hx : 0 ≤ x) : cnt x n n = 1 ∧ most n n = 1 := by
  have h1 : most n n = 1 := by
    have h1 := most_le (n := n) (s := n) (k := 1) hn (by omega)
    have h2 := most_pos (n := n) (s := n) hn (by omega)
    omega
  have h2 := cnt_most (t := x) hn (Int.le_refl n) hx
  have h3 := cnt_pos (t := x) hn (Int.le_refl n) hx
  exact ⟨by omega, h1⟩

set_option maxHeartbeats 1000000 in
set_option maxRecDepth 100000 in
theorem tumble_core (a b c : Int) (w : World) :
    Calls Try.prog 6 #[.int .i64 a, .int .i64 b, .int .i64 c] w fun e w' => e = .returned (.bool true) ∧ Below w.heap.size w w' := by
  go_enter Try.func6, Try.ntmps6
  go_wp2_with fail
  refine (within_any b 1 1000 _ (by decide) (by decide) (by decide)).mono ?_
  rintro e w' ⟨⟨n, hn0, hn1, rfl⟩, he⟩; obtain rfl := he.symm; clear he
  go_wp2_with fail
  refine (within_any a 0 1099511627776 _ (by decide) (by decide) (by decide)).mono ?_
  rintro e w' ⟨⟨x, hx0, hx1, rfl⟩, he⟩; obtain rfl := he.symm; clear he
  have hR : Hid (rightB n n = true) := right_mk hn0 (Int.le_refl _) (by omega) (by omega)
  have hT := tumble (x := x) hn0 hx0
  have hP : Hid (panes n n = 1) := by
    have h : panes n n = 1 := by rw [panes_of hR.out, hT.2]
    exact h
  have hat := at_bounds (t := x) (n := n) (s := n) hn0 (Int.le_refl _) hx0 (i := 0) (by omega)
  have hy0 : (lo x n n + ((0 : Nat) : Int)) * n = lo x n n * n := by simp
  rw [hy0] at hat
  clear hy0
  have hone : Hid (iv (sts x n n) = [.int .i64 (lo x n n * n)]) := by
    have h : iv (sts x n n) = [.int .i64 (lo x n n * n)] := by
      rw [sts, hT.1, seg_cons, seg_nil]; rfl
    exact h
  have hmod : Hid (lo x n n * n % n = 0) := Int.mul_emod_left _ _
  obtain ⟨y, hy⟩ : ∃ y, Hid (lo x n n * n = y) := ⟨_, rfl⟩
  rw [hy.out] at hat hone hmod
  obtain ⟨hy0, hy1, hy2⟩ := hat
  have hc1 : Hid (cnt x n n = 1) := hT.1
  clear hT
  go_wp2_with fail
  refine (starts_some x n n _ hR.out hx0 hx1).mono ?_
  rintro e w1 ⟨u, rfl, hown, b1⟩
  rw [hc1.out, hone.out] at hown
  obtain ⟨g, cp, rfl, hg1, hg2, -, -⟩ := own_some hown (by omega)
  have c0 := hown.cellAt 0 (by omega)
  simp only [List.getElem?_cons_zero] at c0
  unfold maxLen at hg2
  have hm0 := hmod.out
  have hm1 : y.tmod n = 0 := by rw [Int.tmod_eq_emod_of_nonneg hy0]; exact hm0
  clear hown
  go_wp2_with fail
  refine (panes_is n n 1 _ hP.out).mono ?_
  rintro e w' ⟨rfl, he⟩; obtain rfl := he.symm; clear he
  clear hm0 hm1
  go_wp2_with fail
  refine (within_any c 1 30 _ (by decide) (by decide) (by decide)).mono ?_
  rintro e w' ⟨⟨s, hs0, hs1, rfl⟩, he⟩; obtain rfl := he.symm; clear he
  clear c0 hg1 hg2 hmod hy hone hc1 hR hP hy0 hy1 hy2
  go_wp2_with fail
  refine (within_any b s (8 * s) _ (by omega) (by omega) (by omega)).mono ?_
  rintro e w' ⟨⟨m, hm0, hm1, rfl⟩, he⟩; obtain rfl := he.symm; clear he
  go_wp2_with fail
  refine (within_any a 0 500 _ (by decide) (by decide) (by decide)).mono ?_
  rintro e w' ⟨⟨d, hd0, hd1, rfl⟩, he⟩; obtain rfl := he.symm; clear he
  have hR : Hid (rightB m s = true) := right_mk hs0 hm0 hm1 (by omega)
  have hR1 : Hid (rightB (8 * s + 1) s = false) := right_no hs0 (by omega)
  have hR2 : Hid (rightB (s - 1) s = false) := right_no' (by omega)
  go_upto_region 9 with fail
  obtain ⟨F, hF⟩ : ∃ F, Hid (m + d = F) := ⟨_, rfl⟩
  rw [hF.out]
  have hF1 : m ≤ F := by have := hF.out; omega
  have hF2 : F ≤ 740 := by have := hF.out; omega
  clear hF hd0 hd1
  obtain ⟨S, hS⟩ : ∃ S : Nat, s = S := ⟨s.toNat, by omega⟩
  subst hS
  have hsum : Hid (sumTo (fun i => (cnt (F + i) m S : Int)) S = m) := sum_windows S m F (by omega) hm0 hF1
  have hbd : Hid (∀ k, 0 ≤ sumTo (fun i => (cnt (F + i) m S : Int)) k ∧ sumTo (fun i => (cnt (F + i) m S : Int)) k ≤ 8 * k) := sumTo_bd _ (fun i => ⟨by omega, by have := cnt_le hR.out (show 0 ≤ F + (i : Int) by omega); omega⟩)
  go_wp2_with fail
  go_loopw [13, 68] (fun sv i wr => ∃ k : Nat, k ≤ S ∧ i = .int .i64 k ∧ sv = .int .i64 (sumTo (fun i => (cnt (F + i) m S : Int)) k) ∧ Below w.heap.size w wr) (fun _ i _ => S - (intOf i).toNat)
  case atStart => exact ⟨0, Nat.zero_le _, rfl, rfl, b1⟩
  case round =>
    obtain ⟨k, hk, rfl, rfl, hbw⟩ := hrel
    have hb := hbd.out k
    by_cases hlt : k < S
    · have hnx : Hid (sumTo (fun i => (cnt (F + i) m S : Int)) (k + 1) = sumTo (fun i => (cnt (F + i) m S : Int)) k + (cnt (F + k) m S : Int)) := rfl
      obtain ⟨q, hq⟩ : ∃ q, Hid (sumTo (fun i => (cnt (F + i) m S : Int)) k = q) := ⟨_, rfl⟩
      rw [hq.out] at hnx hb ⊢
      have hcl := cnt_le hR.out (show 0 ≤ F + (k : Int) by omega)
      have hcp := cnt_pos (t := F + k) hs0 hm0 (by omega)
      go_wp2_with fail
      refine (starts_some (F + k) m S _ hR.out (by omega) (by omega)).mono ?_
      rintro e w2 ⟨u, rfl, hown, b2⟩
      obtain ⟨C, hC⟩ : ∃ C, Hid (cnt (F + k) m S = C) := ⟨_, rfl⟩
      rw [hC.out] at hown hnx hcl hcp
      obtain ⟨g, cp, rfl, hg1, hg2, -, -⟩ := own_some hown (by omega)
      clear hown
      unfold maxLen at hg2
      have t2 := hbw.trans (b2.mono hbw.size)
      clear b2 hbw
      go_wp2_with fail
      go_roundw
      case rel => exact ⟨k + 1, by omega, by go_num, val_int hnx.out.symm, t2⟩
      case measure => simp [intOf]; omega
    · obtain rfl : k = S := by omega
      rw [hsum.out]
      clear hb hsum
      go_wp2_with fail
      refine (right_is m k true _ hR.out).mono ?_
      rintro e w' ⟨rfl, he⟩; obtain rfl := he.symm; clear he
      go_wp2_with fail
      refine (right_is (8 * k + 1) k false _ hR1.out).mono ?_
      rintro e w' ⟨rfl, he⟩; obtain rfl := he.symm; clear he
      go_wp2_with fail
      refine (right_is (k - 1) k false _ hR2.out).mono ?_
      rintro e w' ⟨rfl, he⟩; obtain rfl := he.symm; clear he
      go_wp2_with fail
      refine (runs_any _).mono ?_
      rintro e w4 ⟨rfl, b4⟩
      have t4 := hbw.trans (b4.mono hbw.size)
      go_wp2_with fail
      go_ret
      exact ⟨rfl, t4⟩
theorem windowTumble_walk (a b c : Int) (w : World) (_ : (Lit.int .i64 a).wf = true) (_ : (Lit.int .i64 b).wf = true) (_ : (Lit.int .i64 c).wf = true) :
    Calls Try.prog 6 #[.int .i64 a, .int .i64 b, .int .i64 c] w fun e w' => e = .returned (.bool true) ∧ Below w.heap.size w w' := tumble_core a b c w
end Go.Proofs.Ytfhfbiodpjpfjaa
