/- What window.Starts and cordonref1.Starts answer: the begins of the windows that a time is in, in new memory. -/
import Derived.Test.YtnamjnopicghhaaBase
namespace Go.Proofs.Ytnamjnopicghhaa
open Go.RowKit M
set_option linter.unusedVariables false

theorem at_next {a s : Int} {k : Nat} : (a + ((k + 1 : Nat) : Int)) * s = (a + k) * s + s := by
  rw [show a + ((k + 1 : Nat) : Int) = a + k + 1 by omega, Int.add_mul (a + k) 1 s, Int.one_mul]
theorem at_end {t n s : Int} (hs : 1 ≤ s) (hn : s ≤ n) (ht : 0 ≤ t) : t < (lo t n s + cnt t n s) * s ∧ (lo t n s + cnt t n s) * s ≤ t + s := by
  have h1 := cnt_eq hs hn ht
  rw [show lo t n s + (cnt t n s : Int) = t / s + 1 by omega]
  have h2 := hi_mul (t := t) (s := s) hs
  refine ⟨h2.2, ?_⟩
  rw [Int.add_mul]
  omega
theorem below_grown_none {a w w' : World} (h : Below a.heap.size a w) (hg : w.grownBy w' none) : Below a.heap.size a w' := h.grown hg h.size (fun k hk => by cases hk)

set_option maxHeartbeats 1000000 in
set_option maxRecDepth 100000 in
theorem starts_some (t n s : Int) (w : World) (h : rightB n s = true) (h0 : 0 ≤ t) (h1 : t ≤ 1099511627776) :
    Calls Try.prog 81 #[.int .i64 t, .int .i64 n, .int .i64 s] w fun e w' => ∃ u, e = .returned u ∧ w'.ownsRow w.heap.size 3 1 u (cnt t n s) (iv (sts t n s)) ∧ Below w.heap.size w w' := by
  obtain ⟨i0, hi, hz0, hz1, hz2⟩ := info_parts Try.info3
  have hR : Hid (rightB n s = true) := h
  have hr := right_iff n s |>.1 h
  obtain ⟨hs, hn, hn2, hm8⟩ := hr
  have hmp := most_pos hs hn
  have hC8 := cnt_le h h0
  have hC1 := cnt_pos hs hn h0
  obtain ⟨L, hL⟩ : ∃ L, Hid (lo t n s = L) := ⟨_, rfl⟩
  obtain ⟨C, hC⟩ : ∃ C, Hid (cnt t n s = C) := ⟨_, rfl⟩
  have hL0 : 0 ≤ L := by rw [← hL.out]; exact lo_nonneg hs h0
  have hat : Hid (∀ k : Nat, k < C → 0 ≤ (L + k) * s ∧ (L + k) * s ≤ t) := fun k hk => by
    rw [← hC.out] at hk
    rw [← hL.out]
    have := at_bounds hs hn h0 hk
    exact ⟨this.1, this.2.1⟩
  have hend : Hid (t < (L + C) * s ∧ (L + C) * s ≤ t + s) := by
    have h := at_end hs hn h0
    rw [hL.out, hC.out] at h
    exact h
  have hsts : Hid (sts t n s = seg L s C) := by
    have h : sts t n s = seg L s C := by rw [sts, hL.out, hC.out]
    exact h
  rw [hC.out] at hC8 hC1 ⊢
  rw [hsts.out]
  clear h
  obtain ⟨m, hm⟩ : ∃ m : Nat, Hid (most n s = (m : Int)) := ⟨(most n s).toNat, show most n s = ((most n s).toNat : Int) by omega⟩
  rw [hm.out] at hm8 hmp
  go_enter Try.func81, Try.ntmps81
  go_wp2_with fail
  refine (right_is n s true _ hR.out).mono ?_
  rintro e w' ⟨rfl, he⟩; obtain rfl := he.symm; clear he
  go_wp2_with fail
  refine (most_is n s m _ hs hn hn2 hm.out).mono ?_
  rintro e w' ⟨rfl, he⟩; obtain rfl := he.symm; clear he
  go_wp2_with (at_make; refine wpList_make_own _ rfl _ _ 51 rfl w.heap.size 3 i0 (.int .i64 0) 1 Try.underlying51 hi hz0 hz1 _ _ _ m rfl rfl rfl (by rw [hz2]; omega) (by unfold maxLen; omega) (Nat.le_refl _) ?_)
  intro w1 hown hgrow
  have hb1 : Below w.heap.size w w1 := below_grown_none (Below.refl _ _) hgrow
  clear hgrow
  go_wp2_with fail
  refine (first_is t n s (L * s) _ hs hn hn2 h0 h1 (by rw [hL.out])).mono ?_
  rintro e w' ⟨rfl, he⟩; obtain rfl := he.symm; clear he
  have hx0 := hat.out 0 (by omega)
  have hx1 : (L + (0 : Nat)) * s = L * s := by simp
  rw [hx1] at hx0
  obtain ⟨x0, hx⟩ : ∃ x0, Hid (L * s = x0) := ⟨_, rfl⟩
  rw [hx.out] at hx0 ⊢
  have hx2 : Hid (x0 = (L + (0 : Nat)) * s) := by
    have h : x0 = (L + (0 : Nat)) * s := by rw [← hx.out]; exact hx1.symm
    exact h
  clear hx1 hx
  go_wp2_with fail
  go_loopw [7, 8] (fun v i wr => ∃ (k : Nat) (x : Int), k ≤ C ∧ 0 ≤ x ∧ x ≤ t + s ∧ i = .int .i64 x ∧ Hid (x = (L + k) * s) ∧ wr.ownsRow w.heap.size 3 1 v k (iv (seg L s k)) ∧ Below w.heap.size w wr) (fun _ i _ => (t + s + 1 - intOf i).toNat)
  case atStart => exact ⟨0, x0, Nat.zero_le _, hx0.1, by omega, rfl, hx2, hown, hb1⟩
  case round =>
    obtain ⟨k, x, hk, hxn, hxs, rfl, hxe, hown, hbw⟩ := hrel
    by_cases hlt : k < C
    · have hle : x ≤ t := by rw [hxe.out]; exact (hat.out k hlt).2
      have hnx : Hid (x + s = (L + ((k + 1 : Nat) : Int)) * s) := by
        have h : x + s = (L + ((k + 1 : Nat) : Int)) * s := by rw [at_next, ← hxe.out]
        exact h
      have hsn : Hid (iv (seg L s (k + 1)) = iv (seg L s k) ++ [.int .i64 x]) := by
        have h : iv (seg L s (k + 1)) = iv (seg L s k) ++ [.int .i64 x] := by rw [seg_succ, iv_append, iv_single, ← hxe.out]
        exact h
      go_wp2_with (at_builtin; refine wpList_append_own _ rfl _ _ 51 rfl w.heap.size 3 i0 (.int .i64 0) 1 8 Try.underlying51 hi hz0 hz1 hz2 rfl (by decide) _ _ _ rfl (hown.alloc _) ⟨wr.heap.size, 0, none⟩ 1 1 [.int .i64 x] rfl rfl ?c1 ?c2 ?c3 ?c4 ?c5 ?_)
      case c1 =>
        intro j u hj
        match j, hj with
        | 0, hj => simp at hj; subst hj; simp [Addr.add]
      case c2 => intro u hu; simp at hu; subst hu; rfl
      case c3 => unfold maxLen; omega
      case c4 => omega
      case c5 => have := hbw.size; simp; omega
      intro v' w2 hown' hg2 _
      have hb2 : Below w.heap.size w w2 := (hbw.alloc hbw.size _).grown hg2 (by have := hbw.size; simp; omega) (fun k hk => (hown.lt k hk).1)
      have hown3 : w2.ownsRow w.heap.size 3 1 v' (k + 1) (iv (seg L s (k + 1))) := by
        rw [hsn.out]; exact hown'
      clear hown' hg2 hown
      go_wp2_with fail
      go_roundw
      case rel => exact ⟨k + 1, x + s, by omega, by omega, by omega, rfl, hnx, hown3, hb2⟩
      case measure => simp [intOf]; omega
    · obtain rfl : k = C := by omega
      have hgt : t < x := by rw [hxe.out]; exact hend.out.1
      go_wp2_with fail
      go_ret
      exact ⟨_, rfl, hown, hbw⟩

theorem starts_none (t n s : Int) (w : World) (h : rightB n s = false) :
    Calls Try.prog 81 #[.int .i64 t, .int .i64 n, .int .i64 s] w fun e w' => e = .returned (.slice none 0 0) ∧ w' = w := by
  have hR : Hid (rightB n s = false) := h
  clear h
  go_enter Try.func81, Try.ntmps81
  go_wp2_with fail
  refine (right_is n s false _ hR.out).mono ?_
  rintro e w' ⟨rfl, he⟩; obtain rfl := he.symm; clear he
  go_wp2_with fail
  go_ret
  exact ⟨rfl, rfl⟩
theorem starts_out (t n s : Int) (w : World) (h : rightB n s = true) (h0 : t < 0 ∨ 1099511627776 < t) :
    Calls Try.prog 81 #[.int .i64 t, .int .i64 n, .int .i64 s] w fun e w' => e = .returned (.slice none 0 0) ∧ w' = w := by
  have hR : Hid (rightB n s = true) := h
  clear h
  by_cases ht : t < 0
  · go_enter Try.func81, Try.ntmps81
    go_wp2_with fail
    refine (right_is n s true _ hR.out).mono ?_
    rintro e w' ⟨rfl, he⟩; obtain rfl := he.symm; clear he
    go_wp2_with fail
    go_ret
    exact ⟨rfl, rfl⟩
  · have h2 : 1099511627776 < t := by omega
    clear h0
    go_enter Try.func81, Try.ntmps81
    go_wp2_with fail
    refine (right_is n s true _ hR.out).mono ?_
    rintro e w' ⟨rfl, he⟩; obtain rfl := he.symm; clear he
    go_wp2_with fail
    go_ret
    exact ⟨rfl, rfl⟩
/-- window.Starts. -/
theorem starts_any (t n s : Int) (w : World) :
    Calls Try.prog 81 #[.int .i64 t, .int .i64 n, .int .i64 s] w fun e w' => ∃ u, e = .returned u ∧ Rd .i64 w' u (starts t n s) ∧ Below w.heap.size w w' := by
  by_cases h : rightB n s = true
  · by_cases h0 : 0 ≤ t ∧ t ≤ 1099511627776
    · refine (starts_some t n s w h h0.1 h0.2).mono ?_
      rintro e w' ⟨u, rfl, hown, hb⟩
      refine ⟨u, rfl, ?_, hb⟩
      rw [starts_of h h0.1 h0.2]
      refine rd_iv (base := w.heap.size) (e := 3) ?_
      have e : (sts t n s).length = cnt t n s := seg_len _ _ _
      rw [e]
      exact hown
    · refine (starts_out t n s w h (by omega)).mono ?_
      rintro e w' ⟨rfl, rfl⟩
      refine ⟨_, rfl, ?_, Below.refl _ _⟩
      rw [starts_no' (by unfold okT; exact decide_eq_false h0)]
      exact rd_nil _ _
  · refine (starts_none t n s w (by simpa using h)).mono ?_
    rintro e w' ⟨rfl, rfl⟩
    refine ⟨_, rfl, ?_, Below.refl _ _⟩
    rw [starts_no (by simpa using h)]
    exact rd_nil _ _
end Go.Proofs.Ytnamjnopicghhaa
