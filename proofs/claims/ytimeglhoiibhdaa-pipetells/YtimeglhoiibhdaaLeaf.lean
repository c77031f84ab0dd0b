/- What the small functions of package vint, of math/bits and of the book compute, each for every argument. -/
import Derived.Test.YtimeglhoiibhdaaRows
import Derived.Test.YtimeglhoiibhdaaMath
import Derived.WalkKit
import Derived.WalkSpells
import Derived.WalkLawsBesides
import Derived.Laws.BitsAll
import Derived.Laws.Bits128
import Derived.Lib.Zigzag
import Derived.Lib.Varint
namespace Go.Proofs.Ytimeglhoiibhdaa
open Go.RowKit M

theorem ret_int {k : IntKind} {a b : Int} (h : a = b) : Ending.returned (.int k a) = .returned (.int k b) := by rw [h]
theorem ret_bool {a b : Bool} (h : a = b) : Ending.returned (.bool a) = .returned (.bool b) := by rw [h]
theorem val_int {k : IntKind} {a b : Int} (h : a = b) : Value.int k a = .int k b := by rw [h]

theorem xor_zero64 (a : Nat) (ha : a < 18446744073709551616) : bits BinOp.xor IntKind.u64 (a : Int) 0 = (a : Int) := by
  have h := bits_xor_u64_nat a 0 ha (by decide)
  rw [Nat.xor_zero] at h
  exact h
theorem i64_xor_comm (a b : Int) : bits BinOp.xor IntKind.i64 a b = bits BinOp.xor IntKind.i64 b a := by
  show IntKind.i64.wrap ((BitVec.ofInt 64 a ^^^ BitVec.ofInt 64 b).toNat : Int) = IntKind.i64.wrap ((BitVec.ofInt 64 b ^^^ BitVec.ofInt 64 a).toNat : Int)
  rw [BitVec.xor_comm]
theorem i64_xor_zero (x : Nat) (hx : x < 9223372036854775808) : bits BinOp.xor IntKind.i64 (x : Int) 0 = (x : Int) := by
  show IntKind.i64.wrap ((BitVec.ofInt 64 (x : Int) ^^^ BitVec.ofInt 64 0).toNat : Int) = _
  have h2 : (BitVec.ofInt 64 (x : Int)).toNat = x := by
    rw [BitVec.ofInt_natCast, BitVec.toNat_ofNat]; exact Nat.mod_eq_of_lt (by omega)
  have h1 : (BitVec.ofInt 64 0).toNat = 0 := by decide
  rw [BitVec.toNat_xor, h1, h2, Nat.xor_zero, IntKind.wrap_i64]
  omega
theorem fold_bits (n : Int) (hn : Fits n) : bits BinOp.xor IntKind.u64 (IntKind.u64.wrap (IntKind.u64.wrap n * 2)) (IntKind.u64.wrap (n / 9223372036854775808)) = ((zz n : Nat) : Int) := by
  obtain ⟨h1, h2⟩ := hn
  by_cases h0 : 0 ≤ n
  · have e1 : IntKind.u64.wrap (IntKind.u64.wrap n * 2) = (((2 * n).toNat : Nat) : Int) := by
      rw [IntKind.wrap_u64, IntKind.wrap_u64]; omega
    have e2 : IntKind.u64.wrap (n / 9223372036854775808) = 0 := by
      rw [IntKind.wrap_u64]; omega
    rw [e1, e2, xor_zero64 _ (by omega)]
    unfold zz
    rw [if_pos h0]
  · have e1 : IntKind.u64.wrap (IntKind.u64.wrap n * 2) = (((2 * n + 18446744073709551616).toNat : Nat) : Int) := by
      rw [IntKind.wrap_u64, IntKind.wrap_u64]; omega
    have e2 : IntKind.u64.wrap (n / 9223372036854775808) = ((2 ^ 64 - 1 : Nat) : Int) := by
      rw [IntKind.wrap_u64]; omega
    rw [e1, e2, bits_xor_u64_nat _ _ (by omega) (by decide), Nat.xor_comm, Lib.xor_ones64 _ (by omega)]
    unfold zz
    rw [if_neg h0]
    omega
/-- vint.fold. -/
theorem fold_any (n : Int) (w : World) (hn : Fits n) :
    Calls Try.prog 27 #[.int .i64 n] w fun e w' => e = .returned (.int .u64 (zz n : Nat)) ∧ w' = w := by
  go_enter Try.func27, Try.ntmps27
  go_wp2
  go_ret
  exact ⟨ret_int (fold_bits n hn), rfl⟩
theorem unfold_bits (u : Nat) (hu : u < 18446744073709551616) : bits BinOp.xor IntKind.i64 ((u : Int) / 2) (wrap64 (-wrap64 (bits BinOp.and IntKind.u64 (u : Int) 1))) = unzz u := by
  rw [Lib.u64_and1 _ (by omega) (by omega)]
  have e0 : (u : Int) / 2 = ((u / 2 : Nat) : Int) := by simp
  rw [e0]
  unfold unzz
  by_cases h : u % 2 = 0
  · rw [if_pos h]
    have e1 : wrap64 (-wrap64 ((u : Int) % 2)) = 0 := by
      have : (u : Int) % 2 = 0 := by omega
      rw [this]; decide +kernel
    rw [e1, i64_xor_zero _ (by omega)]
  · rw [if_neg h]
    have e1 : wrap64 (-wrap64 ((u : Int) % 2)) = -1 := by
      have : (u : Int) % 2 = 1 := by omega
      rw [this]; decide +kernel
    rw [e1, i64_xor_comm, Lib.i64_not _ (by omega)]
    omega
/-- vint.unfold. -/
theorem unfold_any (u : Nat) (w : World) (hu : u < 18446744073709551616) :
    Calls Try.prog 43 #[.int .u64 u] w fun e w' => e = .returned (.int .i64 (unzz u)) ∧ w' = w := by
  go_enter Try.func43, Try.ntmps43
  go_wp2
  go_ret
  exact ⟨ret_int (unfold_bits u hu), rfl⟩
theorem nat_beq (i j : Nat) : ((i : Int) == (j : Int)) = decide (i = j) := by
  rw [Bool.eq_iff_iff, beq_iff_eq, decide_eq_true_iff]; omega
/-- vint.mayEnd. -/
theorem mayEnd_any (c i : Nat) (w : World) (hc : c < 256) (hi : i < 1000) :
    Calls Try.prog 42 #[.int .u8 c, .int .i64 i] w fun e w' => e = .returned (.bool (mayEnd c i)) ∧ w' = w := by
  by_cases h0 : c = 0
  · subst h0
    have hm : Hid (((i : Int) == 0) = mayEnd 0 i) := by
      have : ((i : Int) == 0) = mayEnd 0 i := by
        have := nat_beq i 0
        simp [mayEnd] at this ⊢
        exact this
      exact this
    go_enter Try.func42, Try.ntmps42
    go_wp2
    go_ret
    exact ⟨ret_bool hm.out, rfl⟩
  · have h0' : ((c : Int) == 0) = false := by simp; omega
    by_cases h9 : i < 9
    · have hm : Hid (mayEnd c i = true) := by
        have : mayEnd c i = true := by simp [mayEnd, h0, h9]
        exact this
      go_enter Try.func42, Try.ntmps42
      go_wp2
      go_ret
      exact ⟨ret_bool hm.out.symm, rfl⟩
    · by_cases h1 : c ≤ 1
      · have hm : Hid (mayEnd c i = true) := by
          have : mayEnd c i = true := by simp [mayEnd, h0, h1]
          exact this
        go_enter Try.func42, Try.ntmps42
        go_wp2
        go_ret
        exact ⟨ret_bool (by rw [hm.out]; simp; omega), rfl⟩
      · have hm : Hid (mayEnd c i = false) := by
          have : mayEnd c i = false := by simp [mayEnd, h0, h1, h9]
          exact this
        go_enter Try.func42, Try.ntmps42
        go_wp2
        go_ret
        exact ⟨ret_bool (by rw [hm.out]; simp; omega), rfl⟩
/-- cordonbook.Within. -/
theorem within_any (n lo hi : Int) (w : World) (hlo : -1000 ≤ lo) (h : lo ≤ hi) (h1 : hi ≤ 4611686018427387904) :
    Calls Try.prog 17 #[.int .i64 n, .int .i64 lo, .int .i64 hi] w fun e w' => (∃ k : Int, lo ≤ k ∧ k ≤ hi ∧ e = .returned (.int .i64 k)) ∧ w' = w := by
  have hb1 : -(hi - lo + 1) < n.tmod (hi - lo + 1) := Int.lt_tmod_of_pos _ (by omega)
  have hb2 : n.tmod (hi - lo + 1) < hi - lo + 1 := Int.tmod_lt_of_pos _ (by omega)
  by_cases hn : n.tmod (hi - lo + 1) < 0
  · go_enter Try.func17, Try.ntmps17
    go_wp2
    go_ret
    exact ⟨⟨lo + (n.tmod (hi - lo + 1) + hi - lo + 1), by omega, by omega, rfl⟩, rfl⟩
  · have hn' : 0 ≤ n.tmod (hi - lo + 1) := by omega
    go_enter Try.func17, Try.ntmps17
    go_wp2
    go_ret
    exact ⟨⟨lo + n.tmod (hi - lo + 1), by omega, by omega, rfl⟩, rfl⟩
end Go.Proofs.Ytimeglhoiibhdaa
