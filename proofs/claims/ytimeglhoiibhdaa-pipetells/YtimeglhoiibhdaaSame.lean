/- What cordonbook.Same tells of two lists: are they the same? -/
import Derived.Test.YtimeglhoiibhdaaBase
namespace Go.Proofs.Ytimeglhoiibhdaa
open Go.RowKit M

theorem take_same (z1 z2 : List Int) (k : Nat) (h1 : k < z1.length) (h2 : k < z2.length) (a : Int) (e1 : z1.getD k 0 = a) (e2 : z2.getD k 0 = a) (h : z1.take k = z2.take k) : z1.take (k + 1) = z2.take (k + 1) := by
  rw [take_snoc' z1 0 k h1, take_snoc' z2 0 k h2, e1, e2, h]

set_option maxHeartbeats 1000000 in
set_option maxRecDepth 100000 in
theorem same_b (v1 v2 : Value) (z1 z2 : List Int) (w : World) (p : Bool) (h1 : Rd .u8 w v1 z1) (h2 : Rd .u8 w v2 z2) (hp : decide (z1 = z2) = p) :
    Calls Try.prog 10 #[v1, v2] w fun e w' => e = .returned (.bool p) ∧ Below w.heap.size w w' := by
  have hp' : Hid (decide (z1 = z2) = p) := hp
  clear hp
  obtain ⟨hl1, ao, cap, rfl, _, _, hc0⟩ := h1
  obtain ⟨hl2, ao2, cap2, rfl, _, _, hc2⟩ := h2
  by_cases hne : z1.length = z2.length
  · rw [← hne] at hc2 hl2 ⊢
    by_cases hn : z1.length = 0
    · have hd : Hid (p = true) := by
        have e1 := List.eq_nil_of_length_eq_zero hn
        have e2 : z2 = [] := List.eq_nil_of_length_eq_zero (by omega)
        have h := hp'.out
        rw [e1, e2] at h
        exact h.symm
      rw [hn]
      clear hc0 hc2 hn hl1 hl2 hne hp'
      go_enter Try.func10, Try.ntmps10
      go_wp2_with fail
      go_loop [5] (fun i => i = .int .i64 0) (fun _ => 0)
      case atStart => exact rfl
      case round =>
        obtain rfl := hrel
        go_wp2_with fail
        go_ret
        exact ⟨ret_bool hd.out.symm, Below.refl _ _⟩
    · obtain ⟨b, off, rfl, hc⟩ := hc0 hn
      obtain ⟨b2, off2, rfl, hd⟩ := hc2 hn
      have hc' : Hid (∀ j, j < z1.length → w.cell? ⟨b, off + j, none⟩ = some (.int .u8 (z1.getD j 0))) := hc
      have hd' : Hid (∀ j, j < z1.length → w.cell? ⟨b2, off2 + j, none⟩ = some (.int .u8 (z2.getD j 0))) := hd
      have hne' : Hid (z1.length = z2.length) := hne
      clear hc0 hc2 hc hd hne hl2
      obtain ⟨m, hm⟩ : ∃ m, Hid (z1.length = m) := ⟨_, rfl⟩
      rw [hm.out] at hc' hd' hl1 hn hne' ⊢
      go_enter Try.func10, Try.ntmps10
      go_wp2_with fail
      go_loopw [5] (fun i wr => ∃ k n : Nat, k ≤ m ∧ i = .int .i64 k ∧ wr = w.drewN n ∧ Hid (z1.take k = z2.take k)) (fun i _ => m - (intOf i).toNat)
      case atStart => exact ⟨0, 0, Nat.zero_le _, rfl, rfl, rfl⟩
      case round =>
        obtain ⟨k, n, hk, rfl, rfl, hs⟩ := hrel
        by_cases hlt : k < m
        · have g1 := hc'.out k hlt
          have g2 := hd'.out k hlt
          obtain ⟨x, hx⟩ : ∃ x, Hid (z1.getD k 0 = x) := ⟨_, rfl⟩
          obtain ⟨y, hy⟩ : ∃ y, Hid (z2.getD k 0 = y) := ⟨_, rfl⟩
          rw [hx.out] at g1
          rw [hy.out] at g2
          by_cases hxy : x = y
          · subst hxy
            have hs2 : Hid (z1.take (k + 1) = z2.take (k + 1)) := take_same z1 z2 k (by have := hm.out; omega) (by have := hne'.out; omega) x hx.out hy.out hs.out
            clear hx hy hs
            go_wp2_with fail
            go_quiet (fail)
            go_wp2_with fail
            go_roundw
            case rel => exact ⟨k + 1, n + nq, by omega, by go_num, rfl, hs2⟩
            case measure => simp [intOf]; omega
          · have hd : Hid (p = false) := by
              have h : p = false := by
                rw [← hp'.out]
                refine decide_eq_false fun e => hxy ?_
                rw [← hx.out, ← hy.out, e]
              exact h
            have hxy' : (x != y) = true := by simp; exact hxy
            clear hx hy hs
            go_wp2_with fail
            go_quiet (fail)
            go_wp2_with fail
            go_ret
            exact ⟨ret_bool hd.out.symm, below_drewN (below_drewN (Below.refl _ _) _) _⟩
        · have hd : Hid (p = true) := by
            have hkm : k = m := by omega
            have h : p = true := by
              rw [← hp'.out]
              refine decide_eq_true ?_
              have e := hs.out
              rw [List.take_of_length_le (by have := hm.out; omega), List.take_of_length_le (by have := hne'.out; omega)] at e
              exact e
            exact h
          clear hs
          go_wp2_with fail
          go_ret
          exact ⟨ret_bool hd.out.symm, below_drewN (Below.refl _ _) _⟩
  · have hd : Hid (p = false) := by
      have h : p = false := by
        rw [← hp'.out]
        exact decide_eq_false fun e => hne (by rw [e])
      exact h
    have hne2 : ((z1.length : Int) != (z2.length : Int)) = true := by simp; omega
    clear hc0 hc2 hp'
    go_enter Try.func10, Try.ntmps10
    go_wp2_with fail
    go_ret
    exact ⟨ret_bool hd.out.symm, Below.refl _ _⟩

/-- Two lists of bytes. -/
theorem same_bytes (v1 v2 : Value) (l1 l2 : List Nat) (w : World) (p : Bool) (h1 : Rd .u8 w v1 (toI l1)) (h2 : Rd .u8 w v2 (toI l2)) (hp : decide (l1 = l2) = p) :
    Calls Try.prog 10 #[v1, v2] w fun e w' => e = .returned (.bool p) ∧ Below w.heap.size w w' := by
  refine same_b v1 v2 _ _ w p h1 h2 ?_
  rw [← hp, Bool.eq_iff_iff, decide_eq_true_iff, decide_eq_true_iff]
  exact ⟨toI_inj, fun h => by rw [h]⟩
end Go.Proofs.Ytimeglhoiibhdaa
