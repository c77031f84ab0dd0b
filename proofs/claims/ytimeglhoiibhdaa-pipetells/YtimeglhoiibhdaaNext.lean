/- What vint.Next answers, of any bytes: it reads them, and writes nothing. -/
import Derived.Test.YtimeglhoiibhdaaBase
namespace Go.Proofs.Ytimeglhoiibhdaa
open Go.RowKit M

theorem u8_and128 : ∀ c : Fin 256, (bits BinOp.and IntKind.u8 (c.val : Int) 128 != 0) = decide (128 ≤ c.val) := by decide +kernel
theorem u8_not128 : ∀ c : Fin 256, bits BinOp.andNot IntKind.u8 (c.val : Int) 128 = ((c.val % 128 : Nat) : Int) := by decide +kernel
theorem and128 (c : Nat) (hc : c < 256) : (bits BinOp.and IntKind.u8 (c : Int) 128 != 0) = decide (128 ≤ c) := u8_and128 ⟨c, hc⟩
theorem not128 (c : Nat) (hc : c < 256) : bits BinOp.andNot IntKind.u8 (c : Int) 128 = ((c % 128 : Nat) : Int) := u8_not128 ⟨c, hc⟩

theorem pow_cast (k : Nat) : (2 : Int) ^ (7 * k) = ((128 ^ k : Nat) : Int) := by
  rw [Int.pow_mul]
  simp
theorem wrap_small (d : Nat) (h : d < 128) : IntKind.u64.wrap (d : Int) = (d : Int) := by rw [IntKind.wrap_u64]; omega
theorem or_step (y d k : Nat) (hy : y < 128 ^ k) (hk : k ≤ 9) (hd : d < 128) (h : d * 128 ^ k < 18446744073709551616) :
    bits BinOp.or IntKind.u64 (y : Int) (IntKind.u64.wrap (IntKind.u64.wrap (d : Int) * 2 ^ (7 * k))) = ((y + d * 128 ^ k : Nat) : Int) := by
  have e1 : IntKind.u64.wrap (d : Int) = (d : Int) := by rw [IntKind.wrap_u64]; omega
  have hP : (128 : Nat) ^ k ≤ 9223372036854775808 := by rw [← pow9]; exact Nat.pow_le_pow_right (by decide) hk
  have e2 : IntKind.u64.wrap ((d : Int) * 2 ^ (7 * k)) = ((d * 128 ^ k : Nat) : Int) := by
    rw [pow_cast, ← Int.natCast_mul, IntKind.wrap_u64]
    generalize d * 128 ^ k = q at *
    omega
  rw [e1, e2, u64_or_nat _ _ (by omega) h]
  have e3 : (128 : Nat) ^ k = 2 ^ (7 * k) := by rw [Nat.pow_mul]
  rw [e3] at hy ⊢
  have e4 := Nat.two_pow_add_eq_or_of_lt hy d
  rw [Nat.or_comm, Nat.mul_comm d, ← e4, Nat.add_comm]
theorem or_any (y d k : Nat) (hy : y < 18446744073709551616) :
    ∃ z : Nat, bits BinOp.or IntKind.u64 (y : Int) (IntKind.u64.wrap (IntKind.u64.wrap (d : Int) * 2 ^ (7 * k))) = (z : Int) := by
  have h0 : 0 ≤ IntKind.u64.wrap (IntKind.u64.wrap (d : Int) * 2 ^ (7 * k)) := by rw [IntKind.wrap_u64]; omega
  have h1 : IntKind.u64.wrap (IntKind.u64.wrap (d : Int) * 2 ^ (7 * k)) < 18446744073709551616 := by rw [IntKind.wrap_u64]; omega
  obtain ⟨r, hr⟩ := Int.eq_ofNat_of_zero_le h0
  rw [hr] at h1 ⊢
  exact ⟨y ||| r, u64_or_nat y r hy (by omega)⟩
theorem split_at (bs : List Nat) (k : Nat) (h : k < bs.length) : bs = bs.take k ++ bs.getD k 0 :: bs.drop (k + 1) := by
  have e : bs.getD k 0 = bs[k] := by simp [List.getD_eq_getElem?_getD, h]
  rw [e, ← List.drop_eq_getElem_cons h, List.take_append_drop]
theorem great_snoc (bs : List Nat) (k c : Nat) (h : k < bs.length) (hc : bs.getD k 0 = c) (hg : ∀ x ∈ bs.take k, 128 ≤ x) (h1 : 128 ≤ c) : ∀ x ∈ bs.take (k + 1), 128 ≤ x := by
  rw [take_snoc' bs 0 k h, hc]
  intro x hx
  rcases List.mem_append.1 hx with hx | hx
  · exact hg x hx
  · rw [List.mem_singleton.1 hx]; exact h1
theorem acc_take (bs : List Nat) (k c : Nat) (h : k < bs.length) (hc : bs.getD k 0 = c) : acc (bs.take (k + 1)) = acc (bs.take k) + (c - 128) * 128 ^ k := by
  rw [take_snoc' bs 0 k h, hc, acc_snoc, List.length_take, Nat.min_eq_left (by omega)]
/-- What is known at a byte that says that another follows. -/
theorem at_more (bs : List Nat) (k c y d : Nat) (h : k < bs.length) (hk : k ≤ 9) (hc : bs.getD k 0 = c) (hc2 : c < 256) (hb : ∀ x ∈ bs, x < 256) (h1 : 128 ≤ c) (hd : c % 128 = d) (hy : y = acc (bs.take k)) :
    ∃ z : Nat, bits BinOp.or IntKind.u64 (y : Int) (IntKind.u64.wrap (IntKind.u64.wrap (d : Int) * 2 ^ (7 * k))) = (z : Int) ∧ (k + 1 ≤ 9 → z = acc (bs.take (k + 1))) := by
  have hl : (bs.take k).length = k := by rw [List.length_take]; omega
  have hlt : y < 128 ^ k := by
    rw [hy]
    have := acc_lt (bs.take k) fun x hx => hb x (List.mem_of_mem_take hx)
    rw [hl] at this; exact this
  have hP : (128 : Nat) ^ k ≤ 9223372036854775808 := by rw [← pow9]; exact Nat.pow_le_pow_right (by decide) hk
  by_cases h9 : k + 1 ≤ 9
  · have h2 := pow_le9 k (by omega)
    have h3 : d * 128 ^ k < 18446744073709551616 := by
      have : d * 128 ^ k ≤ 127 * 128 ^ k := Nat.mul_le_mul_right _ (by omega)
      rw [Nat.pow_succ] at h2
      omega
    refine ⟨_, or_step y d k hlt hk (by omega) h3, fun _ => ?_⟩
    rw [acc_take bs k c h hc, hy]
    have : c - 128 = d := by omega
    rw [this]
  · obtain ⟨z, hz⟩ := or_any y d k (by omega)
    exact ⟨z, hz, fun h => absurd h h9⟩
/-- What is known at a byte that ends an int. -/
theorem at_end (bs : List Nat) (k c y : Nat) (h : k < bs.length) (hk : k ≤ 9) (hc : bs.getD k 0 = c) (hb : ∀ x ∈ bs, x < 256) (hg : ∀ x ∈ bs.take k, 128 ≤ x) (h1 : c < 128) (hy : y = acc (bs.take k)) (hm : mayEnd c k = true) :
    ∃ z : Nat, bits BinOp.or IntKind.u64 (y : Int) (IntKind.u64.wrap (IntKind.u64.wrap (c : Int) * 2 ^ (7 * k))) = (z : Int) ∧ z < 18446744073709551616 ∧ nx bs = (unzz z, k + 1) := by
  have hl : (bs.take k).length = k := by rw [List.length_take]; omega
  have hb2 : ∀ x ∈ bs.take k, x < 256 := fun x hx => hb x (List.mem_of_mem_take hx)
  have hlt : y < 128 ^ k := by
    rw [hy]
    have := acc_lt (bs.take k) hb2
    rw [hl] at this; exact this
  obtain ⟨e1, e2⟩ := nx_end (bs.take k) c (bs.drop (k + 1)) hg hb2 h1 (by omega) (by rw [hl]; exact hm)
  rw [← hc, ← split_at bs k h, hc, hl] at e1
  rw [hl] at e2
  rw [← hy] at e1 e2
  exact ⟨_, or_step y c k hlt hk h1 (by omega), e2, e1⟩
theorem at_bad (bs : List Nat) (k c : Nat) (h : k < bs.length) (hc : bs.getD k 0 = c) (hg : ∀ x ∈ bs.take k, 128 ≤ x) (h1 : c < 128) (hm : mayEnd c k = false) : nx bs = (0, 0) := by
  have hl : (bs.take k).length = k := by rw [List.length_take]; omega
  have e1 := nx_bad (bs.take k) c (bs.drop (k + 1)) hg h1 (by rw [hl]; exact hm)
  rw [← hc, ← split_at bs k h] at e1
  exact e1
theorem at_close (bs : List Nat) (m : Nat) (hb : ∀ x ∈ bs, x < 256) (hm : (bs.length ≤ 10 ∧ m = bs.length) ∨ (10 < bs.length ∧ m = 10)) (hg : ∀ x ∈ bs.take m, 128 ≤ x) : nx bs = (0, 0) := by
  refine nx_open bs hb fun x hx => hg x ?_
  rcases hm with ⟨h1, rfl⟩ | ⟨h1, rfl⟩
  · rw [List.take_length]; exact List.mem_of_mem_take hx
  · exact hx
theorem ret_pair {a b c d : Int} (h1 : a = c) (h2 : b = d) : Ending.returned (.tuple #[.int .i64 a, .int .i64 b]) = .returned (.tuple #[.int .i64 c, .int .i64 d]) := by rw [h1, h2]

set_option maxHeartbeats 1000000 in
set_option maxRecDepth 100000 in
/-- vint.Next. -/
theorem next_any (v : Value) (bs : List Nat) (w : World) (n : Int) (u : Nat) (hv : Rd .u8 w v (toI bs)) (hb : ∀ c ∈ bs, c < 256) (hnx : nx bs = (n, u)) :
    Calls Try.prog 37 #[v] w fun e w' => e = .returned (.tuple #[.int .i64 n, .int .i64 (u : Nat)]) ∧ w' = w := by
  obtain ⟨hl, ao, cap, rfl, hlc, hcm, hc0⟩ := hv
  rw [toI_len] at hl hlc hc0 ⊢
  have hnx' : Hid (nx bs = (n, u)) := hnx
  have hb' : Hid (∀ c ∈ bs, c < 256) := hb
  clear hnx hb
  obtain ⟨m, hm, hm10⟩ : ∃ m : Nat, m ≤ bs.length ∧ ((bs.length ≤ 10 ∧ m = bs.length) ∨ (10 < bs.length ∧ m = 10)) := by
    by_cases h : bs.length ≤ 10
    · exact ⟨bs.length, Nat.le_refl _, .inl ⟨h, rfl⟩⟩
    · exact ⟨10, by omega, .inr ⟨by omega, rfl⟩⟩
  have hmin : min (bs.length : Int) 10 = (m : Int) := by omega
  have hm10' : m ≤ 10 := by omega
  by_cases hn0 : bs.length = 0
  · have hz : Hid (n = 0 ∧ u = 0) := by
      have hbs := List.eq_nil_of_length_eq_zero hn0
      have h := hnx'.out
      rw [hbs] at h
      have h2 : nx [] = (0, 0) := rfl
      rw [h2] at h
      injection h with e1 e2
      exact ⟨e1.symm, e2.symm⟩
    have hm0 : m = 0 := by omega
    subst hm0
    rw [hn0] at hmin ⊢
    clear hc0 hm10 hl hlc
    go_enter Try.func37, Try.ntmps37
    go_wp2_with fail
    go_loop [13] (fun i => i = .int .i64 0) (fun _ => 0)
    case atStart => exact rfl
    case round =>
      obtain rfl := hrel
      go_wp2_with fail
      go_ret2
      exact ⟨ret_pair hz.out.1.symm (by rw [hz.out.2]; rfl), rfl⟩
  · obtain ⟨b, off, rfl, hcell⟩ := hc0 hn0
    have hcell' : Hid (∀ j, j < bs.length → w.cell? ⟨b, off + j, none⟩ = some (.int .u8 (bs.getD j 0 : Nat))) := by
      intro j hj
      rw [hcell j hj, toI_getD]
    clear hcell hc0
    go_enter Try.func37, Try.ntmps37
    go_wp2_with fail
    go_loop [4, 13] (fun t i => ∃ (k : Nat) (y : Nat), k ≤ m ∧ i = .int .i64 k ∧ t = .int .u64 y ∧ Hid (∀ x ∈ bs.take k, 128 ≤ x) ∧ Hid (k ≤ 9 → y = acc (bs.take k))) (fun _ i => m - (intOf i).toNat)
    case atStart => exact ⟨0, 0, Nat.zero_le _, rfl, rfl, by simp [Hid], by simp [Hid, acc]⟩
    case round =>
      obtain ⟨k, y, hk, rfl, rfl, hg, hy⟩ := hrel
      by_cases hlt : k < m
      · have hx := hcell'.out k (by omega)
        have hc : bs.getD k 0 < 256 := by
          have e : bs.getD k 0 = bs[k] := by simp [List.getD_eq_getElem?_getD, show k < bs.length by omega]
          rw [e]; exact hb'.out _ (List.getElem_mem _)
        obtain ⟨c, hcc⟩ : ∃ c, Hid (bs.getD k 0 = c) := ⟨_, rfl⟩
        rw [hcc.out] at hx hc
        have hnot := not128 c hc
        have hand := and128 c hc
        obtain ⟨d, hd⟩ : ∃ d : Nat, Hid (c % 128 = d) := ⟨_, rfl⟩
        rw [hd.out] at hnot
        have hk9 : k ≤ 9 := by omega
        by_cases h128 : 128 ≤ c
        · rw [decide_eq_true h128] at hand
          obtain ⟨z, hz, hz2⟩ := at_more bs k c y d (by omega) hk9 hcc.out hc hb'.out h128 hd.out (hy.out hk9)
          have hg2 : Hid (∀ x ∈ bs.take (k + 1), 128 ≤ x) := great_snoc bs k c (by omega) hcc.out hg.out h128
          have hz2' : Hid (k + 1 ≤ 9 → z = acc (bs.take (k + 1))) := hz2
          clear hz2 hg hy hcc hd
          go_wp2_with fail
          go_round
          case rel => exact ⟨k + 1, z, by omega, by go_num, rfl, hg2, hz2'⟩
          case measure => simp [intOf]; omega
        · rw [decide_eq_false h128] at hand
          have hdc : d = c := by have := hd.out; omega
          subst hdc
          cases hm : mayEnd d k with
          | true =>
            obtain ⟨z, hz, hzl, hzn⟩ := at_end bs k d y (by omega) hk9 hcc.out hb'.out hg.out (by omega) (hy.out hk9) hm
            have hre : Hid (unzz z = n ∧ k + 1 = u) := by
              have h := hnx'.out
              rw [hzn] at h
              injection h with e1 e2
              exact ⟨e1, e2⟩
            have hz' := hz
            rw [wrap_small d (by omega)] at hz'
            clear hzn hg hy hcc hd
            have hm' : Hid (mayEnd d k = true) := hm
            clear hm
            go_wp2_with fail
            refine (mayEnd_any d k _ hc (by omega)).mono ?_
            rintro e w' ⟨rfl, he⟩; obtain rfl := he.symm; clear he
            rw [hm'.out]
            go_wp2_with fail
            refine (unfold_any z _ hzl).mono ?_
            rintro e w' ⟨rfl, he⟩; obtain rfl := he.symm; clear he
            go_wp2_with fail
            go_ret2
            exact ⟨ret_pair hre.out.1 (by rw [← hre.out.2]; rfl), rfl⟩
          | false =>
            have hbad := at_bad bs k d (by omega) hcc.out hg.out (by omega) hm
            obtain ⟨z, hz⟩ := or_any y d k (by
              have h1 := hy.out hk9
              have h2 := acc_lt (bs.take k) fun x hx => hb'.out x (List.mem_of_mem_take hx)
              have h3 : (128 : Nat) ^ (bs.take k).length ≤ 9223372036854775808 := by
                rw [← pow9]; exact Nat.pow_le_pow_right (by decide) (by rw [List.length_take]; omega)
              omega)
            have hre : Hid (0 = n ∧ 0 = u) := by
              have h := hnx'.out
              rw [hbad] at h
              injection h with e1 e2
              exact ⟨e1, e2⟩
            have hz' := hz
            rw [wrap_small d (by omega)] at hz'
            clear hbad hg hy hcc hd
            have hm' : Hid (mayEnd d k = false) := hm
            clear hm
            go_wp2_with fail
            refine (mayEnd_any d k _ hc (by omega)).mono ?_
            rintro e w' ⟨rfl, he⟩; obtain rfl := he.symm; clear he
            rw [hm'.out]
            go_wp2_with fail
            go_ret2
            exact ⟨ret_pair hre.out.1 (by rw [← hre.out.2]; rfl), rfl⟩
      · have hkm : k = m := by omega
        subst hkm
        have hbad := at_close bs k hb'.out hm10 hg.out
        have hre : Hid (0 = n ∧ 0 = u) := by
          have h := hnx'.out
          rw [hbad] at h
          injection h with e1 e2
          exact ⟨e1, e2⟩
        clear hbad hg hy
        go_wp2_with fail
        go_ret2
        exact ⟨ret_pair hre.out.1 (by rw [← hre.out.2]; rfl), rfl⟩
end Go.Proofs.Ytimeglhoiibhdaa
