/- cordonbook.Same of inputs that are the same. -/
import Derived.Test.YtnamjnopicghhaaRIns
import Derived.Deep.QuietTactic
import Derived.BigQuiet
namespace Go.Proofs.Ytnamjnopicghhaa
open Go.RowKit M
set_option linter.unusedVariables false
set_option linter.unusedSimpArgs false
attribute [local go_sem ↓] Go.wp_at_zero Go.wp_at_succ
set_option maxHeartbeats 1000000 in
set_option maxRecDepth 100000 in
theorem same_i (v1 v2 : Value) (q1 q2 : Nat) (L : List Inp) (w : World) (h1 : RdI w v1 q1 L) (h2 : RdI w v2 q2 L) :
    Calls Try.prog 22 #[v1, v2] w fun e w' => e = .returned (.bool true) ∧ Below w.heap.size w w' := by
  obtain ⟨hl1, _, ao, cap, rfl, _, _, hc0⟩ := h1
  obtain ⟨_, _, ao2, cap2, rfl, _, _, hc2⟩ := h2
  have hc' : Hid (L.length ≠ 0 → ∃ off, ao = some ⟨q1, off, none⟩ ∧ q1 < w.heap.size ∧ ∀ j, j < L.length → InAt w q1 (off + j * 5) (iAt L j)) := hc0
  have hd' : Hid (L.length ≠ 0 → ∃ off, ao2 = some ⟨q2, off, none⟩ ∧ q2 < w.heap.size ∧ ∀ j, j < L.length → InAt w q2 (off + j * 5) (iAt L j)) := hc2
  clear hc0 hc2
  obtain ⟨m, hm⟩ : ∃ m, Hid (L.length = m) := ⟨_, rfl⟩
  rw [hm.out] at hc' hd' hl1 ⊢
  go_enter Try.func22, Try.ntmps22
  go_wp2_with fail
  go_loopw [5] (fun i wr => ∃ k n : Nat, k ≤ m ∧ i = .int .i64 k ∧ wr = w.drewN n) (fun i _ => m - (intOf i).toNat)
  case atStart => exact ⟨0, 0, Nat.zero_le _, rfl, rfl⟩
  case round =>
    obtain ⟨k, n, hk, rfl, rfl⟩ := hrel
    by_cases hlt : k < m
    · obtain ⟨off, rfl, _, hc⟩ := hc'.out (by omega)
      obtain ⟨off2, rfl, _, hd⟩ := hd'.out (by omega)
      obtain ⟨p0, p1, p2, p3, p4⟩ := hc k hlt
      obtain ⟨r0, r1, r2, r3, r4⟩ := hd k hlt
      clear hc hd hc' hd'
      obtain ⟨⟨x1, ⟨x2, x3, x4, x5⟩⟩, hee⟩ : ∃ x, iAt L k = x := ⟨_, rfl⟩
      rw [hee] at p0 p1 p2 p3 p4 r0 r1 r2 r3 r4
      clear hee
      simp only at p0 p1 p2 p3 p4 r0 r1 r2 r3 r4
      go_wp2_with fail
      go_quiet (fail)
      go_wp2_with fail
      go_roundw
      case rel => exact ⟨k + 1, n + nq, by omega, by go_num, rfl⟩
      case measure => simp [intOf]; omega
    · go_wp2_with fail
      go_ret
      exact ⟨rfl, below_drewN (Below.refl _ _) _⟩
end Go.Proofs.Ytnamjnopicghhaa
