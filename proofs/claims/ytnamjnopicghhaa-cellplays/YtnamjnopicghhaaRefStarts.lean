/- What the document's own Starts (cordonref1) answers. -/
import Derived.Test.YtnamjnopicghhaaStarts
namespace Go.Proofs.Ytnamjnopicghhaa
open Go.RowKit M
set_option linter.unusedVariables false

set_option maxHeartbeats 1000000 in
set_option maxRecDepth 100000 in
theorem rstarts_some (t n s : Int) (w : World) (h : rightB n s = true) (h0 : 0 ≤ t) (h1 : t ≤ 1099511627776) :
    Calls Try.prog 73 #[.int .i64 t, .int .i64 n, .int .i64 s] w fun e w' => ∃ u, e = .returned u ∧ w'.ownsRow w.heap.size 3 1 u (cnt t n s) (iv (sts t n s)) ∧ Below w.heap.size w w' := by
  obtain ⟨i0, hi, hz0, hz1, hz2⟩ := info_parts Try.info3
  have hR : Hid (rightB n s = true) := h
  have hr := right_iff n s |>.1 h
  obtain ⟨hs, hn, hn2, hm8⟩ := hr
  clear hm8
  have hC8 := cnt_le h h0
  have hC1 := cnt_pos hs hn h0
  obtain ⟨L, hL⟩ : ∃ L, Hid (lo t n s = L) := ⟨_, rfl⟩
  obtain ⟨C, hC⟩ : ∃ C, Hid (cnt t n s = C) := ⟨_, rfl⟩
  have hL0 : 0 ≤ L := by rw [← hL.out]; exact lo_nonneg hs h0
  have hat : Hid (∀ k : Nat, k < C → 0 ≤ (L + k) * s ∧ (L + k) * s ≤ t ∧ t < (L + k) * s + n) := fun k hk => by
    rw [← hC.out] at hk
    rw [← hL.out]
    exact at_bounds hs hn h0 hk
  have hahead : Hid (∀ x : Int, x = (L - 1) * s → x < 0 ∨ x + n ≤ t) := fun x hx => by
    by_cases hneg : L - 1 < 0
    · left
      have h : (L - 1) * s < 0 := Int.mul_neg_of_neg_of_pos hneg (by omega)
      omega
    · right
      have h := (lo_iff (t := t) (n := n) (s := s) (k := L - 1) hs hn (by omega)).2
      rw [hL.out] at h
      rw [hx]
      omega
  rw [hC.out] at hC8 hC1
  have htop : Hid (t / s * s = (L + (C - 1 : Nat)) * s) := by
    have h := cnt_eq hs hn h0
    rw [hL.out, hC.out] at h
    have h2 : t / s * s = (L + (C - 1 : Nat)) * s := by
      congr 1
      omega
    exact h2
  have hsts : Hid (sts t n s = seg L s C) := by
    have h : sts t n s = seg L s C := by rw [sts, hL.out, hC.out]
    exact h
  rw [hC.out]
  rw [hsts.out]
  clear h
  have hq0 := hi_nonneg (t := t) (s := s) hs h0
  have hq1 : t / s ≤ t := Int.ediv_le_self _ h0
  have hq2 := (hi_mul (t := t) (s := s) hs).1
  have hq3 : 0 ≤ t / s * s := Int.mul_nonneg hq0 (by omega)
  go_enter Try.func73, Try.ntmps73
  go_wp2_with fail
  refine (rright_is n s true _ hR.out).mono ?_
  rintro e w' ⟨rfl, he⟩; obtain rfl := he.symm; clear he
  go_wp2_with fail
  go_loopw [7, 8] (fun v i wr => ∃ (k : Nat) (x : Int), k ≤ C ∧ -s ≤ x ∧ x ≤ t ∧ i = .int .i64 x ∧ Hid (x = (L + ((C : Int) - k - 1)) * s) ∧ wr.ownsRow w.heap.size 3 1 v k (iv (seg (L + ((C : Int) - k)) s k)) ∧ Below w.heap.size w wr) (fun _ i _ => (intOf i + s).toNat)
  case atStart =>
    refine ⟨0, t / s * s, Nat.zero_le _, by omega, hq2, rfl, ?_, World.ownsRow_nil _ _ _ _, Below.refl _ _⟩
    have h2 : t / s * s = (L + ((C : Int) - (0 : Nat) - 1)) * s := by
      rw [htop.out]
      congr 1
      omega
    exact h2
  case round =>
    obtain ⟨k, x, hk, hxn, hxs, rfl, hxe, hown, hbw⟩ := hrel
    clear hq0 hq1 hq2 hq3
    by_cases hlt : k < C
    · have hb := hat.out (C - k - 1) (by omega)
      rw [show (L + ((C - k - 1 : Nat) : Int)) * s = x by rw [hxe.out]; congr 1; omega] at hb
      obtain ⟨hx0, -, hx2⟩ := hb
      have hnx : Hid (x - s = (L + ((C : Int) - (k + 1 : Nat) - 1)) * s) := by
        have h : x - s = (L + ((C : Int) - (k + 1 : Nat) - 1)) * s := by
          rw [show L + ((C : Int) - (k + 1 : Nat) - 1) = L + ((C : Int) - k - 1) - 1 by omega, Int.sub_mul (L + ((C : Int) - k - 1)) 1 s, Int.one_mul, ← hxe.out]
        exact h
      have hsn : Hid (iv (seg (L + ((C : Int) - (k + 1 : Nat))) s (k + 1)) = [.int .i64 x] ++ iv (seg (L + ((C : Int) - k)) s k)) := by
        have h : iv (seg (L + ((C : Int) - (k + 1 : Nat))) s (k + 1)) = [.int .i64 x] ++ iv (seg (L + ((C : Int) - k)) s k) := by
          rw [seg_cons, show L + ((C : Int) - (k + 1 : Nat)) = L + ((C : Int) - k - 1) by omega, ← hxe.out, show L + ((C : Int) - k - 1) + 1 = L + ((C : Int) - k) by omega]
          rfl
        exact h
      have hsrc := src_own (hown.alloc (.cells #[.int .i64 x] 3))
      have hlit := World.ownsRow_lit (base := w.heap.size) (e := 3) (size := 1) wr #[.int .i64 x] 1 hbw.size (by unfold maxLen; omega) (by simp)
      have hbz := hbw.size
      go_wp2_with (at_builtin; refine wpList_append_src _ rfl _ _ 51 rfl w.heap.size 3 i0 (.int .i64 0) 8 Try.underlying51 hi hz0 hz1 hz2 rfl _ 1 [.int .i64 x] rfl hlit _ k _ rfl hsrc (iv_one _) (by unfold maxLen; omega) (by omega) (by simp; omega) ?_)
      intro v' w2 hown' hb2
      have hb3 : Below w.heap.size w w2 := (hbw.alloc hbw.size _).trans hb2
      have hown3 : w2.ownsRow w.heap.size 3 1 v' (k + 1) (iv (seg (L + ((C : Int) - (k + 1 : Nat))) s (k + 1))) := by
        rw [hsn.out, Nat.add_comm k 1]; exact hown'
      clear hown' hb2 hown hsrc hlit hbw
      go_wp2_with fail
      go_roundw
      case rel => exact ⟨k + 1, x - s, by omega, by omega, by omega, rfl, hnx, hown3, hb3⟩
      case measure => simp [intOf]; omega
    · obtain rfl : k = C := by omega
      have hout := hahead.out x (by rw [hxe.out]; congr 1; omega)
      have e : L + ((k : Int) - k) = L := by omega
      rw [e] at hown
      clear e
      by_cases hx0 : x < 0
      · go_wp2_with fail
        go_ret
        exact ⟨_, rfl, hown, hbw⟩
      · have hx2 : x + n ≤ t := by omega
        go_wp2_with fail
        go_ret
        exact ⟨_, rfl, hown, hbw⟩
theorem rstarts_none (t n s : Int) (w : World) (h : rightB n s = false) :
    Calls Try.prog 73 #[.int .i64 t, .int .i64 n, .int .i64 s] w fun e w' => e = .returned (.slice none 0 0) ∧ w' = w := by
  have hR : Hid (rightB n s = false) := h
  clear h
  go_enter Try.func73, Try.ntmps73
  go_wp2_with fail
  refine (rright_is n s false _ hR.out).mono ?_
  rintro e w' ⟨rfl, he⟩; obtain rfl := he.symm; clear he
  go_wp2_with fail
  go_ret
  exact ⟨rfl, rfl⟩
theorem rstarts_out (t n s : Int) (w : World) (h : rightB n s = true) (h0 : t < 0 ∨ 1099511627776 < t) :
    Calls Try.prog 73 #[.int .i64 t, .int .i64 n, .int .i64 s] w fun e w' => e = .returned (.slice none 0 0) ∧ w' = w := by
  have hR : Hid (rightB n s = true) := h
  clear h
  by_cases ht : t < 0
  · go_enter Try.func73, Try.ntmps73
    go_wp2_with fail
    refine (rright_is n s true _ hR.out).mono ?_
    rintro e w' ⟨rfl, he⟩; obtain rfl := he.symm; clear he
    go_wp2_with fail
    go_ret
    exact ⟨rfl, rfl⟩
  · have h2 : 1099511627776 < t := by omega
    clear h0
    go_enter Try.func73, Try.ntmps73
    go_wp2_with fail
    refine (rright_is n s true _ hR.out).mono ?_
    rintro e w' ⟨rfl, he⟩; obtain rfl := he.symm; clear he
    go_wp2_with fail
    go_ret
    exact ⟨rfl, rfl⟩
/-- cordonref1.Starts. -/
theorem rstarts_any (t n s : Int) (w : World) :
    Calls Try.prog 73 #[.int .i64 t, .int .i64 n, .int .i64 s] w fun e w' => ∃ u, e = .returned u ∧ Rd .i64 w' u (starts t n s) ∧ Below w.heap.size w w' := by
  by_cases h : rightB n s = true
  · by_cases h0 : 0 ≤ t ∧ t ≤ 1099511627776
    · refine (rstarts_some t n s w h h0.1 h0.2).mono ?_
      rintro e w' ⟨u, rfl, hown, hb⟩
      refine ⟨u, rfl, ?_, hb⟩
      rw [starts_of h h0.1 h0.2]
      refine rd_iv (base := w.heap.size) (e := 3) ?_
      have e : (sts t n s).length = cnt t n s := seg_len _ _ _
      rw [e]
      exact hown
    · refine (rstarts_out t n s w h (by omega)).mono ?_
      rintro e w' ⟨rfl, rfl⟩
      refine ⟨_, rfl, ?_, Below.refl _ _⟩
      rw [starts_no' (by unfold okT; exact decide_eq_false h0)]
      exact rd_nil _ _
  · refine (rstarts_none t n s w (by simpa using h)).mono ?_
    rintro e w' ⟨rfl, rfl⟩
    refine ⟨_, rfl, ?_, Below.refl _ _⟩
    rw [starts_no (by simpa using h)]
    exact rd_nil _ _
end Go.Proofs.Ytnamjnopicghhaa
