/- What the small functions under package panes compute: of window, cmp, mask, agg; cordonref1.RightWindow, cordonbook.Within. -/
import Derived.Test.YtnamjnopicghhaaRows
import Derived.Test.YtnamjnopicghhaaMathW
import Derived.Test.YtnamjnopicghhaaMathA
import Derived.WalkKit
import Derived.WalkSpells
import Derived.WalkLawsBesides
import Derived.Laws.BitsAll
import Derived.Laws.Bits128
import Derived.Below
namespace Go.Proofs.Ytnamjnopicghhaa
open Go.RowKit M
set_option linter.unusedVariables false

theorem ret_int {k : IntKind} {a b : Int} (h : a = b) : Ending.returned (.int k a) = .returned (.int k b) := by rw [h]
theorem ret_bool {a b : Bool} (h : a = b) : Ending.returned (.bool a) = .returned (.bool b) := by rw [h]
theorem val_int {k : IntKind} {a b : Int} (h : a = b) : Value.int k a = .int k b := by rw [h]
/-- window.most. -/
theorem most_is (n s k : Int) (w : World) (hs : 1 ≤ s) (h1 : s ≤ n) (h2 : n ≤ 1048576) (hk : most n s = k) :
    Calls Try.prog 77 #[.int .i64 n, .int .i64 s] w fun e w' => e = .returned (.int .i64 k) ∧ w' = w := by
  have hk' : Hid (most n s = k) := hk
  clear hk
  go_enter Try.func77, Try.ntmps77
  go_wp2
  go_ret
  exact ⟨ret_int hk'.out, rfl⟩
/-- window.Right. -/
theorem right_is (n s : Int) (p : Bool) (w : World) (hp : rightB n s = p) :
    Calls Try.prog 64 #[.int .i64 n, .int .i64 s] w fun e w' => e = .returned (.bool p) ∧ w' = w := by
  have hp' : Hid (rightB n s = p) := hp
  clear hp
  by_cases h1 : s < 1
  · have hf : Hid (p = false) := by
      have h : p = false := by
        rw [← hp'.out, Bool.eq_false_iff]
        intro h
        have := right_of h
        omega
      exact h
    go_enter Try.func64, Try.ntmps64
    go_wp2
    go_ret
    exact ⟨ret_bool hf.out.symm, rfl⟩
  by_cases h2 : n < s
  · have hf : Hid (p = false) := by
      have h : p = false := by
        rw [← hp'.out]
        exact right_no' h2
      exact h
    go_enter Try.func64, Try.ntmps64
    go_wp2
    go_ret
    exact ⟨ret_bool hf.out.symm, rfl⟩
  by_cases h3 : 1048576 < n
  · have hf : Hid (p = false) := by
      have h : p = false := by
        rw [← hp'.out, Bool.eq_false_iff]
        intro h
        have := right_of h
        omega
      exact h
    go_enter Try.func64, Try.ntmps64
    go_wp2
    go_ret
    exact ⟨ret_bool hf.out.symm, rfl⟩
  obtain ⟨k, hk⟩ : ∃ k, Hid (most n s = k) := ⟨_, rfl⟩
  have hd : Hid (decide (k ≤ 8) = p) := by
    have h : decide (k ≤ 8) = p := by
      rw [← hp'.out, ← hk.out, Bool.eq_iff_iff, right_iff]
      simp
      omega
    exact h
  go_enter Try.func64, Try.ntmps64
  go_wp2_with fail
  refine (most_is n s k _ (by omega) (by omega) (by omega) hk.out).mono ?_
  rintro e w' ⟨rfl, he⟩; obtain rfl := he.symm; clear he
  go_wp2_with fail
  go_ret
  exact ⟨ret_bool hd.out, rfl⟩
/-- window.first. -/
theorem first_is (t n s k : Int) (w : World) (hs : 1 ≤ s) (h1 : s ≤ n) (h2 : n ≤ 1048576) (ht : 0 ≤ t) (ht2 : t ≤ 1099511627776) (hk : lo t n s * s = k) :
    Calls Try.prog 88 #[.int .i64 t, .int .i64 n, .int .i64 s] w fun e w' => e = .returned (.int .i64 k) ∧ w' = w := by
  have hk' : Hid (lo t n s * s = k) := hk
  clear hk
  by_cases h : t < n
  · have h0 : Hid (0 = k) := by
      have h : 0 = k := by rw [← hk'.out, lo, if_pos h, Int.zero_mul]
      exact h
    go_enter Try.func88, Try.ntmps88
    go_wp2
    go_ret
    exact ⟨ret_int h0.out, rfl⟩
  · have h0 : Hid (((t - n) / s + 1) * s = k) := by
      have h : ((t - n) / s + 1) * s = k := by rw [← hk'.out, lo, if_neg h]
      exact h
    have hq := hi_nonneg (t := t - n) (s := s) hs (by omega)
    have hq2 := hi_mul (t := t - n) (s := s) hs
    have hb : 0 ≤ ((t - n) / s + 1) * s ∧ ((t - n) / s + 1) * s ≤ 2199023255552 := by
      rw [Int.add_mul] at hq2 ⊢
      have : 0 ≤ (t - n) / s * s := Int.mul_nonneg hq (by omega)
      omega
    have hq3 : (t - n) / s ≤ t - n := Int.ediv_le_self _ (by omega)
    clear hq2
    go_enter Try.func88, Try.ntmps88
    go_wp2
    go_ret
    exact ⟨ret_int h0.out, rfl⟩
/-- cordonref1.RightWindow. -/
theorem rright_is (n s : Int) (p : Bool) (w : World) (hp : rightB n s = p) :
    Calls Try.prog 84 #[.int .i64 n, .int .i64 s] w fun e w' => e = .returned (.bool p) ∧ w' = w := by
  have hp' : Hid (rightB n s = p) := hp
  clear hp
  by_cases h1 : s < 1
  · have hf : Hid (p = false) := by
      have h : p = false := by
        rw [← hp'.out, Bool.eq_false_iff]
        intro h
        have := right_of h
        omega
      exact h
    go_enter Try.func84, Try.ntmps84
    go_wp2
    go_ret
    exact ⟨ret_bool hf.out.symm, rfl⟩
  by_cases h2 : n < s
  · have hf : Hid (p = false) := by
      have h : p = false := by
        rw [← hp'.out]
        exact right_no' h2
      exact h
    go_enter Try.func84, Try.ntmps84
    go_wp2
    go_ret
    exact ⟨ret_bool hf.out.symm, rfl⟩
  by_cases h3 : 1048576 < n
  · have hf : Hid (p = false) := by
      have h : p = false := by
        rw [← hp'.out, Bool.eq_false_iff]
        intro h
        have := right_of h
        omega
      exact h
    go_enter Try.func84, Try.ntmps84
    go_wp2
    go_ret
    exact ⟨ret_bool hf.out.symm, rfl⟩
  have hd : Hid (decide ((n + s - 1) / s ≤ 8) = p) := by
    have h : decide ((n + s - 1) / s ≤ 8) = p := by
      rw [← hp'.out, Bool.eq_iff_iff, right_iff, most]
      simp
      omega
    exact h
  go_enter Try.func84, Try.ntmps84
  go_wp2
  go_ret
  exact ⟨ret_bool hd.out, rfl⟩
/-- cordonbook.Within. -/
theorem within_any (n lo hi : Int) (w : World) (hlo : -1099511627776 ≤ lo) (h : lo ≤ hi) (h1 : hi ≤ 1099511627776) :
    Calls Try.prog 17 #[.int .i64 n, .int .i64 lo, .int .i64 hi] w fun e w' => (∃ k : Int, lo ≤ k ∧ k ≤ hi ∧ e = .returned (.int .i64 k)) ∧ w' = w := by
  have hb1 : -(hi - lo + 1) < n.tmod (hi - lo + 1) := Int.lt_tmod_of_pos _ (by omega)
  have hb2 : n.tmod (hi - lo + 1) < hi - lo + 1 := Int.tmod_lt_of_pos _ (by omega)
  by_cases hn : n.tmod (hi - lo + 1) < 0
  · go_enter Try.func17, Try.ntmps17
    go_wp2
    go_ret
    exact ⟨⟨lo + (n.tmod (hi - lo + 1) + hi - lo + 1), by omega, by omega, rfl⟩, rfl⟩
  · have hn' : 0 ≤ n.tmod (hi - lo + 1) := by omega
    go_enter Try.func17, Try.ntmps17
    go_wp2
    go_ret
    exact ⟨⟨lo + n.tmod (hi - lo + 1), by omega, by omega, rfl⟩, rfl⟩
def cmpI (a b : Int) : Int := if a < b then -1 else if b < a then 1 else 0
def orL : List Int → Int
  | [] => 0
  | x :: r => if x ≠ 0 then x else orL r
theorem cmpI_cases (a b : Int) : (a < b ∧ cmpI a b = -1) ∨ (b < a ∧ cmpI a b = 1) ∨ (a = b ∧ cmpI a b = 0) := by
  unfold cmpI
  by_cases h : a < b
  · rw [if_pos h]; exact .inl ⟨h, rfl⟩
  · by_cases h2 : b < a
    · rw [if_neg h, if_pos h2]; exact .inr (.inl ⟨h2, rfl⟩)
    · rw [if_neg h, if_neg h2]; exact .inr (.inr ⟨by omega, rfl⟩)
/-- cmp.isNaN[int]. -/
theorem nan_i (n : Int) (w : World) : Calls Try.prog 101 #[.int .i64 n] w fun e w' => e = .returned (.bool false) ∧ w' = w := by
  go_enter Try.func101, Try.ntmps101
  go_wp2
  go_ret
  exact ⟨rfl, rfl⟩
/-- cmp.Compare[int]. -/
theorem cmp_i (a b : Int) (w : World) : Calls Try.prog 97 #[.int .i64 a, .int .i64 b] w fun e w' => e = .returned (.int .i64 (cmpI a b)) ∧ w' = w := by
  have hc : Hid _ := cmpI_cases a b
  by_cases h1 : a < b
  · have hd : Hid (cmpI a b = -1) := by rcases hc.out with h | h | h; exact h.2; all_goals (exfalso; omega)
    go_enter Try.func97, Try.ntmps97
    go_wp2_with (go_at_call 101; refine (nan_i _ _).mono ?_; rintro e w' ⟨rfl, rfl⟩)
    go_ret
    exact ⟨ret_int hd.out.symm, rfl⟩
  · by_cases h2 : b < a
    · have hd : Hid (cmpI a b = 1) := by rcases hc.out with h | h | h; (exfalso; omega); exact h.2; (exfalso; omega)
      go_enter Try.func97, Try.ntmps97
      go_wp2_with (go_at_call 101; refine (nan_i _ _).mono ?_; rintro e w' ⟨rfl, rfl⟩)
      go_ret
      exact ⟨ret_int hd.out.symm, rfl⟩
    · have hd : Hid (cmpI a b = 0) := by rcases hc.out with h | h | h; (exfalso; omega); (exfalso; omega); exact h.2
      go_enter Try.func97, Try.ntmps97
      go_wp2_with (go_at_call 101; refine (nan_i _ _).mono ?_; rintro e w' ⟨rfl, rfl⟩)
      go_ret
      exact ⟨ret_int hd.out.symm, rfl⟩
theorem orL_drop (zs : List Int) (k : Nat) (h : k < zs.length) (h0 : zs.getD k 0 = 0) : orL (zs.drop k) = orL (zs.drop (k + 1)) := by
  rw [List.drop_eq_getElem_cons h]
  have : zs[k] = 0 := by simpa [List.getD_eq_getElem?_getD, h] using h0
  simp [orL, this]
theorem orL_here (zs : List Int) (k : Nat) (h : k < zs.length) (h0 : zs.getD k 0 ≠ 0) : orL (zs.drop k) = zs.getD k 0 := by
  rw [List.drop_eq_getElem_cons h]
  have e : zs.getD k 0 = zs[k] := by simp [List.getD_eq_getElem?_getD, h]
  rw [e] at h0 ⊢
  simp [orL, h0]
set_option maxHeartbeats 400000 in
/-- cmp.Or[int], of any list of ints that lies in a row of cells. -/
theorem or_any (zs : List Int) (b off cap : Nat) (w : World) (hl : zs.length ≤ 1000000) (hc : ∀ j, j < zs.length → w.cell? ⟨b, off + j, none⟩ = some (.int .i64 (zs.getD j 0))) :
    Calls Try.prog 96 #[.slice (some ⟨b, off, none⟩) zs.length cap] w fun e w' => e = .returned (.int .i64 (orL zs)) ∧ w' = w := by
  obtain ⟨n, hn⟩ : ∃ n, n = zs.length := ⟨_, rfl⟩
  have hn' : Hid (n = zs.length) := hn
  have hc' : Hid (∀ j, j < zs.length → w.cell? ⟨b, off + j, none⟩ = some (.int .i64 (zs.getD j 0))) := hc
  rw [← hn] at hl ⊢
  clear hc hn
  go_enter Try.func96, Try.ntmps96
  go_wp2
  go_loop [8] (fun i => ∃ k : Nat, k ≤ n ∧ i = .int .i64 k ∧ Hid (orL zs = orL (zs.drop k))) (fun i => n - (intOf i).toNat)
  case atStart => exact ⟨0, Nat.zero_le _, rfl, rfl⟩
  case round =>
    obtain ⟨k, hk, rfl, hr⟩ := hrel
    by_cases hlt : k < n
    · have hx := hc'.out k (by have := hn'.out; omega)
      have h1 : Hid (zs.getD k 0 = 0 → orL (zs.drop k) = orL (zs.drop (k + 1))) := orL_drop zs k (by have := hn'.out; omega)
      have h2 : Hid (zs.getD k 0 ≠ 0 → orL (zs.drop k) = zs.getD k 0) := orL_here zs k (by have := hn'.out; omega)
      obtain ⟨x, hxx⟩ : ∃ x, Hid (zs.getD k 0 = x) := ⟨_, rfl⟩
      rw [hxx.out] at hx h1 h2
      by_cases h0 : x = 0
      · subst h0
        go_wp2
        go_round
        case rel => exact ⟨k + 1, by omega, by go_num, by have := h1.out rfl; rw [← this]; exact hr⟩
        case measure => simp [intOf]; omega
      · go_wp2
        go_ret
        exact ⟨ret_int (by rw [hr.out, h2.out h0]), rfl⟩
    · go_wp2
      go_ret
      refine ⟨ret_int ?_, rfl⟩
      rw [hr.out, List.drop_of_length_le (by have := hn'.out; omega)]
      rfl
end Go.Proofs.Ytnamjnopicghhaa
