/- What slices.Max and window.Last answer. -/
import Derived.Test.YtnamjnopicghhaaBase
namespace Go.Proofs.Ytnamjnopicghhaa
open Go.RowKit M
set_option linter.unusedVariables false

set_option maxHeartbeats 1000000 in
set_option maxRecDepth 100000 in
/-- slices.Max, of a list that isn't empty. -/
theorem max_any (v : Value) (zs : List Int) (m : Int) (w : World) (hv : Rd .i64 w v zs) (hne : zs ≠ []) (hm : mx zs = m) :
    Calls Try.prog 95 #[v] w fun e w' => e = .returned (.int .i64 m) ∧ w' = w := by
  have hm' : Hid (mx zs = m) := hm
  clear hm
  obtain ⟨hl, ao, cap, rfl, _, _, hc⟩ := hv
  have hpos : 1 ≤ zs.length := by
    cases zs with
    | nil => exact absurd rfl hne
    | cons a r => simp
  obtain ⟨b, off, rfl, hcell⟩ := hc (by omega)
  have hcell' : Hid (∀ j, j < zs.length → w.cell? ⟨b, off + j, none⟩ = some (.int .i64 (zs.getD j 0))) := hcell
  clear hc hcell hne
  have c0 := hcell'.out 0 (by omega)
  rw [Nat.add_zero] at c0
  have hst : Hid (zs.getD 0 0 = mx (zs.take 1)) := by
    have h : zs.getD 0 0 = mx (zs.take 1) := by
      cases zs with
      | nil => simp at hpos
      | cons a r => rfl
    exact h
  obtain ⟨x0, hx0⟩ : ∃ x0, Hid (zs.getD 0 0 = x0) := ⟨_, rfl⟩
  rw [hx0.out] at c0 hst
  obtain ⟨n, hn⟩ : ∃ n, Hid (zs.length = n) := ⟨_, rfl⟩
  rw [hn.out] at hl hpos hcell' ⊢
  go_enter Try.func95, Try.ntmps95
  go_wp2_with fail
  go_loop [3, 4] (fun mv i => ∃ (k : Nat) (y : Int), 1 ≤ k ∧ k ≤ n ∧ i = .int .i64 k ∧ mv = .int .i64 y ∧ Hid (y = mx (zs.take k))) (fun _ i => n - (intOf i).toNat)
  case atStart => exact ⟨1, x0, Nat.le_refl _, hpos, rfl, rfl, hst⟩
  case round =>
    obtain ⟨k, y, hk1, hk, rfl, rfl, hy⟩ := hrel
    by_cases hlt : k < n
    · have g := hcell'.out k hlt
      obtain ⟨x, hx⟩ : ∃ x, Hid (zs.getD k 0 = x) := ⟨_, rfl⟩
      rw [hx.out] at g
      have hnx : Hid (max y x = mx (zs.take (k + 1))) := by
        have h : max y x = mx (zs.take (k + 1)) := by
          have hkl : k < zs.length := by have := hn.out; omega
          rw [take_snoc' zs 0 k hkl, mx_snoc _ _ (by
            intro e
            have := congrArg List.length e
            rw [List.length_take, List.length_nil] at this
            omega), ← hy.out, hx.out]
        exact h
      go_wp2_with fail
      go_round
      case rel => exact ⟨k + 1, max y x, by omega, by omega, by go_num, by go_num, hnx⟩
      case measure => simp [intOf]; omega
    · go_wp2_with fail
      go_ret
      have hkn : k = n := by omega
      refine ⟨ret_int ?_, rfl⟩
      rw [hy.out, List.take_of_length_le (by have := hn.out; omega)]
      exact hm'.out

set_option maxHeartbeats 1000000 in
set_option maxRecDepth 100000 in
/-- window.Last, where the sum has room. -/
theorem last_is (n : Int) (v : Value) (zs : List Int) (m : Int) (w : World) (hv : Rd .i64 w v zs) (hn : 0 ≤ n ∧ n ≤ 2305843009213693952) (hz : ∀ z ∈ zs, 0 ≤ z ∧ z ≤ 2305843009213693952) (hm : last n zs = m) :
    Calls Try.prog 85 #[.int .i64 n, v] w fun e w' => e = .returned (.int .i64 m) ∧ w' = w := by
  have hm' : Hid (last n zs = m) := hm
  clear hm
  by_cases h0 : zs = []
  · subst h0
    have h : Hid (0 = m) := by
      have h : 0 = m := by rw [← hm'.out, last_nil]
      exact h
    obtain ⟨_, ao, cap, rfl, _, _, _⟩ := hv
    go_enter Try.func85, Try.ntmps85
    go_wp2_with fail
    go_ret
    exact ⟨ret_int h.out, rfl⟩
  · have hb := hz _ (mx_mem zs h0)
    have h : Hid (mx zs + n = m) := by
      have h : mx zs + n = m := by rw [← hm'.out, last_of n zs h0]
      exact h
    have hne : Hid (zs ≠ []) := h0
    have hv' : Hid (Rd .i64 w v zs) := hv
    obtain ⟨x, hx⟩ : ∃ x, Hid (mx zs = x) := ⟨_, rfl⟩
    rw [hx.out] at hb h
    obtain ⟨hl, ao, cap, rfl, _, _, hc⟩ := hv
    have hpos : 1 ≤ zs.length := by
      cases zs with
      | nil => exact absurd rfl h0
      | cons a r => simp
    have hpos2 : ((zs.length : Int) == 0) = false := by simp; omega
    clear hc hz h0
    go_enter Try.func85, Try.ntmps85
    go_wp2_with fail
    refine (max_any _ zs x _ hv'.out hne.out hx.out).mono ?_
    rintro e w' ⟨rfl, he⟩; obtain rfl := he.symm; clear he
    go_wp2_with fail
    go_ret
    exact ⟨ret_int h.out, rfl⟩
end Go.Proofs.Ytnamjnopicghhaa
