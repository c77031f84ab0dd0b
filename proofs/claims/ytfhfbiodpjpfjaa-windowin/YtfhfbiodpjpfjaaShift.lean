/- WindowShift, walked: of any numbers it returns true, and nothing that was there is written. -/
import Derived.Test.YtfhfbiodpjpfjaaRuns
import Derived.Deep.Cut
import Derived.Deep.CutBlock
import Derived.Deep.DeepCutAuto
namespace Go.Proofs.Ytfhfbiodpjpfjaa
open Go.RowKit M
set_option linter.unusedVariables false

/-- A list of the call's own that isn't empty: where it lies, and what its cells are. -/
theorem own_cells {w : World} {base : Nat} {v : Value} {L s : Int} {C : Nat} (h : w.ownsRow base 3 1 v C (iv (seg L s C))) (hC : 1 ≤ C) :
    ∃ g cap, v = .slice (some ⟨g, 0, none⟩) C cap ∧ C ≤ cap ∧ cap ≤ 9223372036854775807 ∧ g < w.heap.size ∧ (∀ j, j < C → w.cell? ⟨g, j, none⟩ = some (.int .i64 ((L + j) * s))) ∧ Rd .i64 w (.slice (some ⟨g, 0, none⟩) C cap) (seg L s C) := by
  obtain ⟨g, cap, rfl, h1, h2, -, h3⟩ := own_some h (by omega)
  unfold maxLen at h2
  refine ⟨g, cap, rfl, h1, by omega, h3, fun j hj => ?_, ?_⟩
  · rw [h.cellAt j (by omega)]
    simp [iv, seg, hj]
  · have h' : w.ownsRow base 3 1 (.slice (some ⟨g, 0, none⟩) C cap) (seg L s C).length (iv (seg L s C)) := by rw [seg_len]; exact h
    have := rd_iv h'
    exact this
/-- A lesser size: the same windows from a later one on. -/
theorem less_eq {t m n s : Int} (hs : 1 ≤ s) (hm : s ≤ m) (h : m ≤ n) (ht : 0 ≤ t) : cnt t m s ≤ cnt t n s ∧ sts t m s = (sts t n s).drop (cnt t n s - cnt t m s) := by
  have h1 := lo_less hs hm h ht
  have h2 := cnt_eq hs hm ht
  have h3 := cnt_eq (n := n) hs (by omega) ht
  refine ⟨by omega, ?_⟩
  rw [sts, sts, seg_drop _ _ _ _ (by omega)]
  congr 1
  · omega
  · omega
theorem sts_bd {t n s : Int} (hs : 1 ≤ s) (hn : s ≤ n) (ht : 0 ≤ t) : ∀ z ∈ sts t n s, 0 ≤ z ∧ z ≤ t := by
  intro z hz
  obtain ⟨i, hi, rfl⟩ := seg_mem hz
  have := at_bounds hs hn ht hi
  exact ⟨this.1, this.2.1⟩
theorem last_less {t m n s : Int} (hs : 1 ≤ s) (hm : s ≤ m) (h : m ≤ n) (ht : 0 ≤ t) : last m (sts t m s) ≤ last n (sts t n s) := by
  have hp := cnt_pos (n := m) hs hm ht
  have hp2 := cnt_pos (n := n) hs (by omega) ht
  have e1 : sts t m s ≠ [] := by
    intro e
    have := congrArg List.length e
    rw [sts, seg_len, List.length_nil] at this
    omega
  have e2 : sts t n s ≠ [] := by
    intro e
    have := congrArg List.length e
    rw [sts, seg_len, List.length_nil] at this
    omega
  rw [last_of _ _ e1, last_of _ _ e2]
  have h1 := mx_mem _ e1
  rw [(less_eq hs hm h ht).2] at h1
  have h2 := le_mx _ _ (List.mem_of_mem_drop h1)
  rw [← (less_eq hs hm h ht).2] at h2
  omega

set_option maxHeartbeats 1000000 in
set_option maxRecDepth 100000 in
theorem shift_core (a b c d : Int) (w : World) :
    Calls Try.prog 7 #[.int .i64 a, .int .i64 b, .int .i64 c, .int .i64 d] w fun e w' => e = .returned (.bool true) ∧ Below w.heap.size w w' := by
  go_enter Try.func7, Try.ntmps7
  go_wp2_with fail
  refine (within_any c 1 40 _ (by decide) (by decide) (by decide)).mono ?_
  rintro e w' ⟨⟨s, hs0, hs1, rfl⟩, he⟩; obtain rfl := he.symm; clear he
  go_wp2_with fail
  refine (within_any b s (8 * s) _ (by omega) (by omega) (by omega)).mono ?_
  rintro e w' ⟨⟨n, hn0, hn1, rfl⟩, he⟩; obtain rfl := he.symm; clear he
  go_wp2_with fail
  refine (within_any a 0 2000 _ (by decide) (by decide) (by decide)).mono ?_
  rintro e w' ⟨⟨z, hz0, hz1, rfl⟩, he⟩; obtain rfl := he.symm; clear he
  go_upto_region 4 with fail
  obtain ⟨x, hx⟩ : ∃ x, Hid (n + z = x) := ⟨_, rfl⟩
  rw [hx.out]
  have hx1 : n ≤ x := by have := hx.out; omega
  have hx2 : x ≤ 2320 := by have := hx.out; omega
  clear hx hz0 hz1
  go_wp2_with fail
  refine (within_any d 0 50 _ (by decide) (by decide) (by decide)).mono ?_
  rintro e w' ⟨⟨k, hk0, hk1, rfl⟩, he⟩; obtain rfl := he.symm; clear he
  have hR : Hid (rightB n s = true) := right_mk hs0 hn0 hn1 (by omega)
  have hcl := cnt_le hR.out (show 0 ≤ x by omega)
  have hcp := cnt_pos (t := x) hs0 hn0 (by omega)
  have hks0 : 0 ≤ k * s := Int.mul_nonneg hk0 (by omega)
  have hks1 : k * s ≤ 2000 := by
    have h1 : k * s ≤ 50 * s := Int.mul_le_mul_of_nonneg_right hk1 (by omega)
    omega
  have hcs : Hid (cnt (x + k * s) n s = cnt x n s) := cnt_shift hs0 hk0 hx1
  have hls : Hid (sts (x + k * s) n s = seg (lo x n s + k) s (cnt x n s)) := by
    have h : sts (x + k * s) n s = seg (lo x n s + k) s (cnt x n s) := by rw [sts, hcs.out, lo_shift hs0 hk0 hx1]
    exact h
  obtain ⟨L, hL⟩ : ∃ L, Hid (lo x n s = L) := ⟨_, rfl⟩
  obtain ⟨C, hC⟩ : ∃ C, Hid (cnt x n s = C) := ⟨_, rfl⟩
  have hls0 : Hid (sts x n s = seg L s C) := by
    have h : sts x n s = seg L s C := by rw [sts, hL.out, hC.out]
    exact h
  rw [hL.out, hC.out] at hls
  rw [hC.out] at hcs hcl hcp
  obtain ⟨ks, hks⟩ : ∃ ks, Hid (k * s = ks) := ⟨_, rfl⟩
  go_wp2_with fail
  refine (starts_some x n s _ hR.out (by omega) (by omega)).mono ?_
  rintro e w1 ⟨u1, rfl, hown1, b1⟩
  rw [hC.out, hls0.out] at hown1
  have hown1' : Hid (w1.ownsRow w.heap.size 3 1 u1 C (iv (seg L s C))) := hown1
  clear hown1
  go_wp2_with fail
  refine (starts_some (x + k * s) n s _ hR.out (by omega) (by omega)).mono ?_
  rintro e w2 ⟨u2, rfl, hown2, b2⟩
  rw [hcs.out, hls.out] at hown2
  obtain ⟨g1, p1, rfl, hp1, hp1', hg1, c1, r1⟩ := own_cells (own_below hown1'.out b2) hcp
  obtain ⟨g2, p2, rfl, hp2, hp2', hg2, c2, -⟩ := own_cells hown2 hcp
  have c1' : Hid (∀ j, j < C → w2.cell? ⟨g1, j, none⟩ = some (.int .i64 ((L + j) * s))) := c1
  have c2' : Hid (∀ j, j < C → w2.cell? ⟨g2, j, none⟩ = some (.int .i64 ((L + k + j) * s))) := c2
  have r1' : Hid (Rd .i64 w2 (.slice (some ⟨g1, 0, none⟩) C p1) (seg L s C)) := r1
  have t2 : Below w.heap.size w w2 := b1.trans (b2.mono b1.size)
  have hCp : ((C : Int) == 0) = false := by simp; omega
  clear hown1' hown2 b1 b2 c1 c2 r1
  have hLb : Hid (∀ j : Nat, j < C → 0 ≤ (L + j) * s ∧ (L + j) * s ≤ x) := fun j hj => by
    rw [← hC.out] at hj
    rw [← hL.out]
    have := at_bounds hs0 hn0 (show 0 ≤ x by omega) hj
    exact ⟨this.1, this.2.1⟩
  go_wp2_with fail
  go_loopw [55] (fun i wr => ∃ j q : Nat, j ≤ C ∧ i = .int .i64 j ∧ wr = w2.drewN q) (fun i _ => C - (intOf i).toNat)
  case atStart => exact ⟨0, 0, Nat.zero_le _, rfl, rfl⟩
  case round =>
    obtain ⟨j, q, hj, rfl, rfl⟩ := hrel
    by_cases hlt : j < C
    · have d1 := c1'.out j hlt
      have d2 := c2'.out j hlt
      have hb := hLb.out j hlt
      have e : (L + k + j) * s = (L + j) * s + k * s := by
        rw [← Int.add_mul]
        congr 1
        omega
      rw [e] at d2
      clear e
      obtain ⟨y, hy⟩ : ∃ y, Hid ((L + j) * s = y) := ⟨_, rfl⟩
      rw [hy.out] at d1 d2 hb
      obtain ⟨hb0, hb1⟩ := hb
      go_wp2_with fail
      go_quiet (fail)
      go_wp2_with fail
      go_roundw
      case rel => exact ⟨j + 1, q + nq, by omega, by go_num, rfl⟩
      case measure => simp [intOf]; omega
    · obtain rfl : j = C := by omega
      have hw3 : Below w2.heap.size w2 (w2.drewN q) := below_drewN (Below.refl _ _) q
      obtain ⟨w3, hw⟩ : ∃ w3, w3 = w2.drewN q := ⟨_, rfl⟩
      rw [← hw] at hw3 ⊢
      clear hw
      have t3 := t2.trans (hw3.mono t2.size)
      have r3 : Hid (Rd .i64 w3 (.slice (some ⟨g1, 0, none⟩) j p1) (seg L s j)) := r1'.out.below hw3 (Nat.le_refl _)
      clear hw3 t2 r1' c1' c2'
      go_wp2_with fail
      refine (within_any b s n _ (by omega) (by omega) (by omega)).mono ?_
      rintro e w' ⟨⟨m, hm0, hm1, rfl⟩, he⟩; obtain rfl := he.symm; clear he
      have hR2 : Hid (rightB m s = true) := right_mk hs0 hm0 (by omega) (by omega)
      have hle := less_eq (t := x) hs0 hm0 hm1 (by omega)
      rw [hls0.out, hC.out] at hle
      have hcp2 := cnt_pos (t := x) hs0 hm0 (by omega)
      have hbd1 : Hid (∀ z ∈ seg L s j, 0 ≤ z ∧ z ≤ x) := by
        have h := sts_bd (t := x) hs0 hn0 (by omega)
        rw [hls0.out] at h
        exact h
      have hbd2 : Hid (∀ z ∈ sts x m s, 0 ≤ z ∧ z ≤ x) := sts_bd (t := x) hs0 hm0 (by omega)
      have hll : Hid (last m (sts x m s) ≤ last n (seg L s j)) := by
        have h := last_less (t := x) hs0 hm0 hm1 (by omega)
        rw [hls0.out] at h
        exact h
      go_wp2_with fail
      refine (starts_some x m s _ hR2.out (by omega) (by omega)).mono ?_
      rintro e w4 ⟨u4, rfl, hown4, b4⟩
      obtain ⟨D, hD⟩ : ∃ D, Hid (cnt x m s = D) := ⟨_, rfl⟩
      rw [hD.out] at hle hcp2 hown4
      obtain ⟨g4, p4, rfl, hp4, hp4', -, -⟩ := own_some hown4 (by omega)
      unfold maxLen at hp4'
      have t4 := t3.trans (b4.mono t3.size)
      have r4 : Hid (Rd .i64 w4 (.slice (some ⟨g1, 0, none⟩) j p1) (seg L s j)) := r3.out.below b4 (Nat.le_refl _)
      have q4 : Hid (Rd .i64 w4 (.slice (some ⟨g4, 0, none⟩) D p4) (sts x m s)) := by
        have e : (sts x m s).length = D := by rw [sts, seg_len]; exact hD.out
        have h' : w4.ownsRow w3.heap.size 3 1 (.slice (some ⟨g4, 0, none⟩) D p4) (sts x m s).length (iv (sts x m s)) := by rw [e]; exact hown4
        exact rd_iv h'
      clear hown4 b4 t3 r3
      obtain ⟨hle1, hle2⟩ := hle
      have hle3 : Hid (sts x m s = (seg L s j).drop (j - D)) := hle2
      clear hle2
      obtain ⟨E, hE⟩ : ∃ E, Hid (j - D = E) := ⟨_, rfl⟩
      rw [hE.out] at hle3
      have hE1 : (j : Int) - (D : Int) = (E : Int) := by have := hE.out; omega
      have hE2 : E < p1 := by have := hE.out; omega
      have hE3 : ¬ p1 = E := by omega
      have hE4 : E ≤ j := by omega
      have rd4 : Hid (Rd .i64 w4 (.slice (some ⟨g1, E, none⟩) (j - E) (p1 - E)) (sts x m s)) := by
        have h := r4.out.drop E (by rw [seg_len]; exact hE4)
        rw [seg_len, ← hle3.out, Nat.zero_add] at h
        exact h
      go_wp2_with fail
      refine (same_i _ _ _ _ _ true q4.out rd4.out (decide_eq_true rfl)).mono ?_
      rintro e w5 ⟨rfl, b5⟩
      have t5 := t4.trans (b5.mono t4.size)
      have r5 : Hid (Rd .i64 w5 (.slice (some ⟨g1, 0, none⟩) j p1) (seg L s j)) := r4.out.below b5 (Nat.le_refl _)
      have q5 : Hid (Rd .i64 w5 (.slice (some ⟨g4, 0, none⟩) D p4) (sts x m s)) := q4.out.below b5 (Nat.le_refl _)
      clear b5 t4 r4 q4 rd4 hE1
      obtain ⟨A, hA⟩ : ∃ A, Hid (last n (seg L s j) = A) := ⟨_, rfl⟩
      obtain ⟨B, hB⟩ : ∃ B, Hid (last m (sts x m s) = B) := ⟨_, rfl⟩
      rw [hA.out, hB.out] at hll
      have hll' := hll.out
      go_wp2_with fail
      refine (last_is n _ _ A _ r5.out (by omega) (fun z hz => by have := hbd1.out z hz; omega) hA.out).mono ?_
      rintro e w' ⟨rfl, he⟩; obtain rfl := he.symm; clear he
      go_wp2_with fail
      refine (last_is m _ _ B _ q5.out (by omega) (fun z hz => by have := hbd2.out z hz; omega) hB.out).mono ?_
      rintro e w' ⟨rfl, he⟩; obtain rfl := he.symm; clear he
      go_wp2_with fail
      refine (runs_any _).mono ?_
      rintro e w6 ⟨rfl, b6⟩
      have t6 := t5.trans (b6.mono t5.size)
      go_wp2_with fail
      go_ret
      exact ⟨rfl, t6⟩
theorem windowShift_walk (a b c d : Int) (w : World) (_ : (Lit.int .i64 a).wf = true) (_ : (Lit.int .i64 b).wf = true) (_ : (Lit.int .i64 c).wf = true) (_ : (Lit.int .i64 d).wf = true) :
    Calls Try.prog 7 #[.int .i64 a, .int .i64 b, .int .i64 c, .int .i64 d] w fun e w' => e = .returned (.bool true) ∧ Below w.heap.size w w' := shift_core a b c d w
end Go.Proofs.Ytfhfbiodpjpfjaa
