/- What the small functions of package window compute, each for every argument; cordonref1.RightWindow, cordonbook.Within. -/
import Derived.Test.YtfhfbiodpjpfjaaRows
import Derived.Test.YtfhfbiodpjpfjaaMath
import Derived.WalkKit
import Derived.WalkSpells
import Derived.WalkLawsBesides
import Derived.Below
namespace Go.Proofs.Ytfhfbiodpjpfjaa
open Go.RowKit M
set_option linter.unusedVariables false

theorem ret_int {k : IntKind} {a b : Int} (h : a = b) : Ending.returned (.int k a) = .returned (.int k b) := by rw [h]
theorem ret_bool {a b : Bool} (h : a = b) : Ending.returned (.bool a) = .returned (.bool b) := by rw [h]
theorem val_int {k : IntKind} {a b : Int} (h : a = b) : Value.int k a = .int k b := by rw [h]

/-- window.most. -/
theorem most_is (n s k : Int) (w : World) (hs : 1 ≤ s) (h1 : s ≤ n) (h2 : n ≤ 1048576) (hk : most n s = k) :
    Calls Try.prog 16 #[.int .i64 n, .int .i64 s] w fun e w' => e = .returned (.int .i64 k) ∧ w' = w := by
  have hk' : Hid (most n s = k) := hk
  clear hk
  go_enter Try.func16, Try.ntmps16
  go_wp2
  go_ret
  exact ⟨ret_int hk'.out, rfl⟩

/-- window.Right. -/
theorem right_is (n s : Int) (p : Bool) (w : World) (hp : rightB n s = p) :
    Calls Try.prog 14 #[.int .i64 n, .int .i64 s] w fun e w' => e = .returned (.bool p) ∧ w' = w := by
  have hp' : Hid (rightB n s = p) := hp
  clear hp
  by_cases h1 : s < 1
  · have hf : Hid (p = false) := by
      have h : p = false := by
        rw [← hp'.out, Bool.eq_false_iff]
        intro h
        have := right_of h
        omega
      exact h
    go_enter Try.func14, Try.ntmps14
    go_wp2
    go_ret
    exact ⟨ret_bool hf.out.symm, rfl⟩
  by_cases h2 : n < s
  · have hf : Hid (p = false) := by
      have h : p = false := by
        rw [← hp'.out]
        exact right_no' h2
      exact h
    go_enter Try.func14, Try.ntmps14
    go_wp2
    go_ret
    exact ⟨ret_bool hf.out.symm, rfl⟩
  by_cases h3 : 1048576 < n
  · have hf : Hid (p = false) := by
      have h : p = false := by
        rw [← hp'.out, Bool.eq_false_iff]
        intro h
        have := right_of h
        omega
      exact h
    go_enter Try.func14, Try.ntmps14
    go_wp2
    go_ret
    exact ⟨ret_bool hf.out.symm, rfl⟩
  obtain ⟨k, hk⟩ : ∃ k, Hid (most n s = k) := ⟨_, rfl⟩
  have hd : Hid (decide (k ≤ 8) = p) := by
    have h : decide (k ≤ 8) = p := by
      rw [← hp'.out, ← hk.out, Bool.eq_iff_iff, right_iff]
      simp
      omega
    exact h
  go_enter Try.func14, Try.ntmps14
  go_wp2_with fail
  refine (most_is n s k _ (by omega) (by omega) (by omega) hk.out).mono ?_
  rintro e w' ⟨rfl, he⟩; obtain rfl := he.symm; clear he
  go_wp2_with fail
  go_ret
  exact ⟨ret_bool hd.out, rfl⟩

/-- window.Panes. -/
theorem panes_is (n s k : Int) (w : World) (hk : panes n s = k) :
    Calls Try.prog 10 #[.int .i64 n, .int .i64 s] w fun e w' => e = .returned (.int .i64 k) ∧ w' = w := by
  have hk' : Hid (panes n s = k) := hk
  clear hk
  obtain ⟨p, hp⟩ : ∃ p, Hid (rightB n s = p) := ⟨_, rfl⟩
  cases p with
  | true =>
    have hb := right_of hp.out
    go_enter Try.func10, Try.ntmps10
    go_wp2_with fail
    refine (right_is n s true _ hp.out).mono ?_
    rintro e w' ⟨rfl, he⟩; obtain rfl := he.symm; clear he
    go_wp2_with fail
    refine (most_is n s k _ (by omega) (by omega) (by omega) (by rw [← panes_of hp.out]; exact hk'.out)).mono ?_
    rintro e w' ⟨rfl, he⟩; obtain rfl := he.symm; clear he
    go_wp2_with fail
    go_ret
    exact ⟨rfl, rfl⟩
  | false =>
    have h0 : Hid (0 = k) := by
      have h : 0 = k := by rw [← hk'.out, panes_no hp.out]
      exact h
    go_enter Try.func10, Try.ntmps10
    go_wp2_with fail
    refine (right_is n s false _ hp.out).mono ?_
    rintro e w' ⟨rfl, he⟩; obtain rfl := he.symm; clear he
    go_wp2_with fail
    go_ret
    exact ⟨ret_int h0.out, rfl⟩

/-- window.first. -/
theorem first_is (t n s k : Int) (w : World) (hs : 1 ≤ s) (h1 : s ≤ n) (h2 : n ≤ 1048576) (ht : 0 ≤ t) (ht2 : t ≤ 1099511627776) (hk : lo t n s * s = k) :
    Calls Try.prog 17 #[.int .i64 t, .int .i64 n, .int .i64 s] w fun e w' => e = .returned (.int .i64 k) ∧ w' = w := by
  have hk' : Hid (lo t n s * s = k) := hk
  clear hk
  by_cases h : t < n
  · have h0 : Hid (0 = k) := by
      have h : 0 = k := by rw [← hk'.out, lo, if_pos h, Int.zero_mul]
      exact h
    go_enter Try.func17, Try.ntmps17
    go_wp2
    go_ret
    exact ⟨ret_int h0.out, rfl⟩
  · have h0 : Hid (((t - n) / s + 1) * s = k) := by
      have h : ((t - n) / s + 1) * s = k := by rw [← hk'.out, lo, if_neg h]
      exact h
    have hq := hi_nonneg (t := t - n) (s := s) hs (by omega)
    have hq2 := hi_mul (t := t - n) (s := s) hs
    have hb : 0 ≤ ((t - n) / s + 1) * s ∧ ((t - n) / s + 1) * s ≤ 2199023255552 := by
      rw [Int.add_mul] at hq2 ⊢
      have : 0 ≤ (t - n) / s * s := Int.mul_nonneg hq (by omega)
      omega
    have hq3 : (t - n) / s ≤ t - n := Int.ediv_le_self _ (by omega)
    clear hq2
    go_enter Try.func17, Try.ntmps17
    go_wp2
    go_ret
    exact ⟨ret_int h0.out, rfl⟩

/-- cordonref1.RightWindow. -/
theorem rright_is (n s : Int) (p : Bool) (w : World) (hp : rightB n s = p) :
    Calls Try.prog 12 #[.int .i64 n, .int .i64 s] w fun e w' => e = .returned (.bool p) ∧ w' = w := by
  have hp' : Hid (rightB n s = p) := hp
  clear hp
  by_cases h1 : s < 1
  · have hf : Hid (p = false) := by
      have h : p = false := by
        rw [← hp'.out, Bool.eq_false_iff]
        intro h
        have := right_of h
        omega
      exact h
    go_enter Try.func12, Try.ntmps12
    go_wp2
    go_ret
    exact ⟨ret_bool hf.out.symm, rfl⟩
  by_cases h2 : n < s
  · have hf : Hid (p = false) := by
      have h : p = false := by
        rw [← hp'.out]
        exact right_no' h2
      exact h
    go_enter Try.func12, Try.ntmps12
    go_wp2
    go_ret
    exact ⟨ret_bool hf.out.symm, rfl⟩
  by_cases h3 : 1048576 < n
  · have hf : Hid (p = false) := by
      have h : p = false := by
        rw [← hp'.out, Bool.eq_false_iff]
        intro h
        have := right_of h
        omega
      exact h
    go_enter Try.func12, Try.ntmps12
    go_wp2
    go_ret
    exact ⟨ret_bool hf.out.symm, rfl⟩
  have hd : Hid (decide ((n + s - 1) / s ≤ 8) = p) := by
    have h : decide ((n + s - 1) / s ≤ 8) = p := by
      rw [← hp'.out, Bool.eq_iff_iff, right_iff, most]
      simp
      omega
    exact h
  go_enter Try.func12, Try.ntmps12
  go_wp2
  go_ret
  exact ⟨ret_bool hd.out, rfl⟩

/-- cordonbook.Within. -/
theorem within_any (n lo hi : Int) (w : World) (hlo : -1099511627776 ≤ lo) (h : lo ≤ hi) (h1 : hi ≤ 1099511627776) :
    Calls Try.prog 13 #[.int .i64 n, .int .i64 lo, .int .i64 hi] w fun e w' => (∃ k : Int, lo ≤ k ∧ k ≤ hi ∧ e = .returned (.int .i64 k)) ∧ w' = w := by
  have hb1 : -(hi - lo + 1) < n.tmod (hi - lo + 1) := Int.lt_tmod_of_pos _ (by omega)
  have hb2 : n.tmod (hi - lo + 1) < hi - lo + 1 := Int.tmod_lt_of_pos _ (by omega)
  by_cases hn : n.tmod (hi - lo + 1) < 0
  · go_enter Try.func13, Try.ntmps13
    go_wp2
    go_ret
    exact ⟨⟨lo + (n.tmod (hi - lo + 1) + hi - lo + 1), by omega, by omega, rfl⟩, rfl⟩
  · have hn' : 0 ≤ n.tmod (hi - lo + 1) := by omega
    go_enter Try.func13, Try.ntmps13
    go_wp2
    go_ret
    exact ⟨⟨lo + n.tmod (hi - lo + 1), by omega, by omega, rfl⟩, rfl⟩
end Go.Proofs.Ytfhfbiodpjpfjaa
