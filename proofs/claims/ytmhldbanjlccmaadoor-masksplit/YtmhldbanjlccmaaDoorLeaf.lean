/- What the small functions of package mask and of math/bits compute, each for every argument. -/
import Derived.Test.YtmhldbanjlccmaaDoorRows
import Derived.Test.YtmhldbanjlccmaaDoorMath2
import Derived.WalkKit
import Derived.WalkSpells
import Derived.WalkLawsBesides
import Derived.Laws.BitsAll
import Derived.Laws.Bits128
namespace Go.Proofs.YtmhldbanjlccmaaDoor
open Go.RowKit M

theorem ret_int {k : IntKind} {a b : Int} (h : a = b) : Ending.returned (.int k a) = .returned (.int k b) := by rw [h]
theorem ret_bool {a b : Bool} (h : a = b) : Ending.returned (.bool a) = .returned (.bool b) := by rw [h]

/-- mask.Below. -/
theorem below_any (a b : Nat) (w : World) (ha : a < 18446744073709551616) (hb : b < 18446744073709551616) :
    Calls Tryd.prog 20 #[.int .u64 a, .int .u64 b] w fun e w' => e = .returned (.bool (decide (a &&& b = a))) ∧ w' = w := by
  go_enter Tryd.func20, Tryd.ntmps20
  go_wp2
  go_ret
  exact ⟨ret_bool (by rw [u64_andNot_nat a b ha hb, below_eq a b ha hb]), rfl⟩

theorem wl_bits (a : Nat) (ha : a < 18446744073709551616) : bits BinOp.and IntKind.u64 (a : Int) (IntKind.u64.wrap ((a : Int) - 1)) = ((wl a : Nat) : Int) := by
  by_cases h : a = 0
  · subst h; decide +kernel
  · have e : IntKind.u64.wrap ((a : Int) - 1) = ((a - 1 : Nat) : Int) := by rw [IntKind.wrap_u64]; omega
    rw [e, u64_and_nat _ _ ha (by omega)]; rfl
/-- mask.withoutLeast. -/
theorem least_any (a : Nat) (w : World) (ha : a < 18446744073709551616) :
    Calls Tryd.prog 22 #[.int .u64 a] w fun e w' => e = .returned (.int .u64 (wl a : Nat)) ∧ w' = w := by
  go_enter Tryd.func22, Tryd.ntmps22
  go_wp2
  go_ret
  exact ⟨ret_int (wl_bits a ha), rfl⟩

theorem pow_bits (i : Int) (h0 : 0 ≤ i) (h1 : i < 64) : IntKind.u64.wrap (2 ^ i.toNat) = ((bitN i : Nat) : Int) := by
  unfold bitN
  rw [if_pos ⟨h0, h1⟩, IntKind.wrap_u64]
  have := two_pow_lt i.toNat (by omega)
  have e : (2 : Int) ^ i.toNat = ((2 ^ i.toNat : Nat) : Int) := by simp
  rw [e]
  generalize 2 ^ i.toNat = q at this
  omega
/-- mask.bit. -/
theorem bit_any (i : Int) (w : World) :
    Calls Tryd.prog 24 #[.int .i64 i] w fun e w' => e = .returned (.int .u64 (bitN i : Nat)) ∧ w' = w := by
  by_cases h0 : i < 0
  · have hz : bitN i = 0 := by unfold bitN; rw [if_neg (by omega)]
    rw [hz]
    go_enter Tryd.func24, Tryd.ntmps24
    go_wp2
    go_ret
    exact ⟨ret_int rfl, rfl⟩
  · have h0' : 0 ≤ i := by omega
    by_cases h1 : 64 ≤ i
    · have hz : bitN i = 0 := by unfold bitN; rw [if_neg (by omega)]
      rw [hz]
      go_enter Tryd.func24, Tryd.ntmps24
      go_wp2
      go_ret
      exact ⟨ret_int rfl, rfl⟩
    · have h1' : i < 64 := by omega
      go_enter Tryd.func24, Tryd.ntmps24
      go_wp2
      go_ret
      exact ⟨ret_int (pow_bits i h0' h1'), rfl⟩
/-- mask.Has. -/
theorem has_any (m : Nat) (i : Int) (w : World) (hm : m < 18446744073709551616) :
    Calls Tryd.prog 19 #[.int .u64 m, .int .i64 i] w fun e w' => e = .returned (.bool (decide (0 ≤ i ∧ i < 64) && m.testBit i.toNat)) ∧ w' = w := by
  go_enter Tryd.func19, Tryd.ntmps19
  go_wp2_with (go_at_call 24; refine (bit_any _ _).mono ?_; rintro e w' ⟨rfl, rfl⟩)
  go_ret
  exact ⟨ret_bool (by rw [u64_and_nat _ _ hm (bitN_lt i), has_eq]), rfl⟩

set_option maxHeartbeats 400000 in
theorem ones_walk (a : Int) (w : World) (x1 x2 x3 x4 x5 x6 : Int)
    (e1 : IntKind.u64.wrap (bits BinOp.and IntKind.u64 (a / 2) 6148914691236517205 + bits BinOp.and IntKind.u64 a 6148914691236517205) = x1)
    (e2 : IntKind.u64.wrap (bits BinOp.and IntKind.u64 (x1 / 4) 3689348814741910323 + bits BinOp.and IntKind.u64 x1 3689348814741910323) = x2)
    (e3 : bits BinOp.and IntKind.u64 (IntKind.u64.wrap (x2 / 16 + x2)) 1085102592571150095 = x3)
    (e4 : IntKind.u64.wrap (x3 + x3 / 256) = x4)
    (e5 : IntKind.u64.wrap (x4 + x4 / 65536) = x5)
    (e6 : IntKind.u64.wrap (x5 + x5 / 4294967296) = x6) :
    Calls Tryd.prog 25 #[.int .u64 a] w fun e w' => e = .returned (.int .i64 (bits BinOp.and IntKind.i64 (wrap64 x6) 127)) ∧ w' = w := by
  go_enter Tryd.func25, Tryd.ntmps25
  go_wp2
  go_ret
  exact ⟨rfl, rfl⟩
theorem and_div (a d c : Nat) (ha : a < 18446744073709551616) (hc : c < 18446744073709551616) : bits BinOp.and IntKind.u64 ((a : Int) / (d : Int)) (c : Int) = ((a / d &&& c : Nat) : Int) := by
  have : ((a : Int) / (d : Int)) = ((a / d : Nat) : Int) := by simp
  rw [this]; exact u64_and_nat (a / d) c (Nat.lt_of_le_of_lt (Nat.div_le_self _ _) ha) hc
theorem sum_wrap (a b : Nat) (h : a + b < 18446744073709551616) : IntKind.u64.wrap ((a : Int) + (b : Int)) = ((a + b : Nat) : Int) := by rw [IntKind.wrap_u64]; omega
theorem sum_mod (a d : Nat) : IntKind.u64.wrap ((a : Int) + (a : Int) / (d : Int)) = (((a + a / d) % 18446744073709551616 : Nat) : Int) := by
  rw [IntKind.wrap_u64]
  have : ((a : Int) / (d : Int)) = ((a / d : Nat) : Int) := by simp
  rw [this]; omega
/-- math/bits.OnesCount64. -/
theorem ones_any (a : Nat) (w : World) (ha : a < 18446744073709551616) :
    Calls Tryd.prog 25 #[.int .u64 a] w fun e w' => e = .returned (.int .i64 (cnt a : Nat)) ∧ w' = w := by
  obtain ⟨g1, g2, g3⟩ := ones_end a
  have l1 : (a / 2 &&& 6148914691236517205) ≤ 6148914691236517205 := Nat.and_le_right
  have l2 : (a &&& 6148914691236517205) ≤ 6148914691236517205 := Nat.and_le_right
  generalize hA : (a / 2 &&& 6148914691236517205) + (a &&& 6148914691236517205) = A at *
  have hA' : A ≤ 12297829382473034410 := by omega
  have l3 : (A / 4 &&& 3689348814741910323) ≤ 3689348814741910323 := Nat.and_le_right
  have l4 : (A &&& 3689348814741910323) ≤ 3689348814741910323 := Nat.and_le_right
  generalize hB : (A / 4 &&& 3689348814741910323) + (A &&& 3689348814741910323) = B at *
  have hB' : B ≤ 7378697629483820646 := by omega
  have hO : (B / 16 + B) &&& 1085102592571150095 = ones a := by unfold ones; rw [hA]; simp only; rw [hB]
  have e1 : IntKind.u64.wrap (bits BinOp.and IntKind.u64 ((a : Int) / 2) 6148914691236517205 + bits BinOp.and IntKind.u64 (a : Int) 6148914691236517205) = (A : Int) := by
    have t := and_div a 2 6148914691236517205 ha (by decide)
    have t2 := u64_and_nat a 6148914691236517205 ha (by decide)
    have t3 := sum_wrap (a / 2 &&& 6148914691236517205) (a &&& 6148914691236517205) (by omega)
    rw [hA, ← t, ← t2] at t3
    exact t3
  have e2 : IntKind.u64.wrap (bits BinOp.and IntKind.u64 ((A : Int) / 4) 3689348814741910323 + bits BinOp.and IntKind.u64 (A : Int) 3689348814741910323) = (B : Int) := by
    have t := and_div A 4 3689348814741910323 (by omega) (by decide)
    have t2 := u64_and_nat A 3689348814741910323 (by omega) (by decide)
    have t3 := sum_wrap (A / 4 &&& 3689348814741910323) (A &&& 3689348814741910323) (by omega)
    rw [hB, ← t, ← t2] at t3
    exact t3
  have e3 : bits BinOp.and IntKind.u64 (IntKind.u64.wrap ((B : Int) / 16 + (B : Int))) 1085102592571150095 = ((ones a : Nat) : Int) := by
    have t : IntKind.u64.wrap ((B : Int) / 16 + (B : Int)) = ((B / 16 + B : Nat) : Int) := by rw [IntKind.wrap_u64]; omega
    have t2 := u64_and_nat (B / 16 + B) 1085102592571150095 (by omega) (by decide)
    rw [hO] at t2
    rw [t]; exact t2
  have e4 := sum_mod (ones a) 256
  have e5 := sum_mod ((ones a + ones a / 256) % 18446744073709551616) 65536
  have e6 := sum_mod (((ones a + ones a / 256) % 18446744073709551616 + (ones a + ones a / 256) % 18446744073709551616 / 65536) % 18446744073709551616) 4294967296
  have h := ones_walk (a : Int) w _ _ _ _ _ _ e1 e2 e3 e4 e5 e6
  refine h.mono ?_
  rintro e w' ⟨rfl, rfl⟩
  refine ⟨ret_int ?_, rfl⟩
  have hE : (((ones a + ones a / 256) % 18446744073709551616 + (ones a + ones a / 256) % 18446744073709551616 / 65536) % 18446744073709551616 + ((ones a + ones a / 256) % 18446744073709551616 + (ones a + ones a / 256) % 18446744073709551616 / 65536) % 18446744073709551616 / 4294967296) % 18446744073709551616 = onesEnd (ones a) := rfl
  rw [hE, i64_and127]
  generalize onesEnd (ones a) = q at g2 g3
  rw [IntWalk.wrap64_in _ ⟨by omega, by omega⟩]
  omega
/-- mask.Count. -/
theorem count_any (a : Nat) (w : World) (ha : a < 18446744073709551616) :
    Calls Tryd.prog 18 #[.int .u64 a] w fun e w' => e = .returned (.int .i64 (cnt a : Nat)) ∧ w' = w := by
  go_enter Tryd.func18, Tryd.ntmps18
  go_wp2_with (go_at_call 25; refine (ones_any _ _ ha).mono ?_; rintro e w' ⟨rfl, rfl⟩)
  go_ret
  exact ⟨rfl, rfl⟩

/-- The table of math/bits in its variable. -/
def Tab (w : World) : Prop := 0 < w.heap.size ∧ ∀ j, j < 64 → w.cell? ⟨0, j, none⟩ = some (.int .u8 (Lib.deBruijn64tab.getD j 0 : Nat))
theorem Tab.below {B : Nat} {w w' : World} (h : Tab w) (hb : Below B w w') (hB : 0 < B) : Tab w' :=
  ⟨Nat.lt_of_lt_of_le h.1 hb.size, fun j hj => (hb.cell (p := ⟨0, j, none⟩) hB).trans (h.2 j hj)⟩
theorem Tab.drewN {w : World} (h : Tab w) (n : Nat) : Tab (w.drewN n) := h
theorem Tab.alloc {w : World} (h : Tab w) (o : Obj) : Tab (w.alloc o) := h.below ((Below.refl _ _).alloc (Nat.le_refl _) o) h.1

set_option maxHeartbeats 400000 in
theorem tz_core (x k idx : Nat) (w : World) (hx0 : ((x : Int) == 0) = false)
    (key : IntKind.u64.wrap (bits BinOp.and IntKind.u64 (x : Int) (IntKind.u64.wrap (-(x : Int))) * 285870213051353865) / 288230376151711744 = (idx : Int))
    (hi : idx < 64) (hk : k < 64) (hcell : w.cell? ⟨0, idx, none⟩ = some (.int .u8 k)) :
    Calls Tryd.prog 23 #[.int .u64 x] w fun e w' => e = .returned (.int .i64 k) ∧ w' = w := by
  go_enter Tryd.func23, Tryd.ntmps23
  go_wp2_with (simp only [key])
  go_ret
  exact ⟨rfl, rfl⟩
theorem tz_key (x a : Nat) (hx : x < 18446744073709551616) (hx0 : x ≠ 0) (hlow : x &&& (18446744073709551616 - x) = a) :
    IntKind.u64.wrap (bits BinOp.and IntKind.u64 (x : Int) (IntKind.u64.wrap (-(x : Int))) * 285870213051353865) / 288230376151711744 = ((a * 285870213051353865 % 18446744073709551616 / 288230376151711744 : Nat) : Int) := by
  have e1 : IntKind.u64.wrap (-(x : Int)) = ((18446744073709551616 - x : Nat) : Int) := by rw [IntKind.wrap_u64]; omega
  rw [e1, u64_and_nat x _ hx (by omega), hlow, IntKind.wrap_u64]
  omega
/-- math/bits.TrailingZeros64, of a set that isn't empty. -/
theorem tz_any (x : Nat) (w : World) (hx : x < 18446744073709551616) (hx0 : x ≠ 0) (hT : Tab w) :
    Calls Tryd.prog 23 #[.int .u64 x] w fun e w' => e = .returned (.int .i64 (Lib.ctz 64 x : Nat)) ∧ w' = w := by
  obtain ⟨hlow, hk⟩ := Lib.lowest_bit 64 x hx0 hx
  obtain ⟨hi, htab⟩ := Lib.deBruijn64_at _ hk
  have hcell := hT.2 _ hi
  rw [htab] at hcell
  exact tz_core x _ _ w (by simp; omega) (tz_key x _ hx hx0 hlow) hi hk hcell

/-- mask.Only: a set of one. -/
theorem only_yes (m : Nat) (w : World) (hm : m < 18446744073709551616) (h0 : m ≠ 0) (h1 : wl m = 0) (hT : Tab w) :
    Calls Tryd.prog 9 #[.int .u64 m] w fun e w' => e = .returned (.tuple #[.int .i64 (Lib.ctz 64 m : Nat), .bool true]) ∧ w' = w := by
  have hz : ((m : Int) == 0) = false := by simp; omega
  have hq : (((wl m : Nat) : Int) != 0) = false := by simp [h1]
  go_enter Tryd.func9, Tryd.ntmps9
  go_wp2_with (first | (go_at_call 22; refine (least_any _ _ hm).mono ?_; rintro e w' ⟨rfl, rfl⟩) | (go_at_call 23; refine (tz_any _ _ hm h0 hT).mono ?_; rintro e w' ⟨rfl, rfl⟩))
  go_ret2
  exact ⟨rfl, rfl⟩
/-- mask.Only: no set of one. -/
theorem only_no (m : Nat) (w : World) (hm : m < 18446744073709551616) (h : m = 0 ∨ wl m ≠ 0) :
    Calls Tryd.prog 9 #[.int .u64 m] w fun e w' => e = .returned (.tuple #[.int .i64 (-1), .bool false]) ∧ w' = w := by
  by_cases h0 : m = 0
  · subst h0
    go_enter Tryd.func9, Tryd.ntmps9
    go_wp2
    go_ret2
    exact ⟨rfl, rfl⟩
  · have hz : ((m : Int) == 0) = false := by simp; omega
    have hq : (((wl m : Nat) : Int) != 0) = true := by simp; omega
    go_enter Tryd.func9, Tryd.ntmps9
    go_wp2_with ((go_at_call 22; refine (least_any _ _ hm).mono ?_; rintro e w' ⟨rfl, rfl⟩))
    go_ret2
    exact ⟨rfl, rfl⟩
/-- cordonbook.Within. -/
theorem within_any (n lo hi : Int) (w : World) (h0 : 0 ≤ lo) (h : lo ≤ hi) (h1 : hi ≤ 1000) :
    Calls Tryd.prog 21 #[.int .i64 n, .int .i64 lo, .int .i64 hi] w fun e w' => (∃ k : Int, lo ≤ k ∧ k ≤ hi ∧ e = .returned (.int .i64 k)) ∧ w' = w := by
  have hb1 : -(hi - lo + 1) < n.tmod (hi - lo + 1) := Int.lt_tmod_of_pos _ (by omega)
  have hb2 : n.tmod (hi - lo + 1) < hi - lo + 1 := Int.tmod_lt_of_pos _ (by omega)
  by_cases hn : n.tmod (hi - lo + 1) < 0
  · go_enter Tryd.func21, Tryd.ntmps21
    go_wp2
    go_ret
    exact ⟨⟨lo + (n.tmod (hi - lo + 1) + hi - lo + 1), by omega, by omega, rfl⟩, rfl⟩
  · have hn' : 0 ≤ n.tmod (hi - lo + 1) := by omega
    go_enter Tryd.func21, Tryd.ntmps21
    go_wp2
    go_ret
    exact ⟨⟨lo + n.tmod (hi - lo + 1), by omega, by omega, rfl⟩, rfl⟩
end Go.Proofs.YtmhldbanjlccmaaDoor
