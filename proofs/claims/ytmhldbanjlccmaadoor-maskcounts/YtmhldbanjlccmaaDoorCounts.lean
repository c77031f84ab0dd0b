/- MaskCounts, walked: of any two sets and any number it returns true, and nothing that was there is written. -/
import Derived.Test.YtmhldbanjlccmaaDoorRuns
import Derived.OpenShut
namespace Go.Proofs.YtmhldbanjlccmaaDoor
open Go.RowKit M

theorem hasAt (m : Nat) (k : Int) (p : Bool) (h0 : 0 ≤ k) (h1 : k ≤ 63) (hp : m.testBit k.toNat = p) : (decide (0 ≤ k ∧ k < 64) && m.testBit k.toNat) = p := by
  rw [hp]
  have : (0 ≤ k ∧ k < 64) := ⟨h0, by omega⟩
  simp [this]
theorem hasOut (m : Nat) (k : Int) (h : k < 0 ∨ 64 ≤ k) : (decide (0 ≤ k ∧ k < 64) && m.testBit k.toNat) = false := by
  have : ¬ (0 ≤ k ∧ k < 64) := by omega
  simp [this]
theorem bitAt (k : Int) (h0 : 0 ≤ k) (h1 : k ≤ 63) : (bitN k).testBit k.toNat = true ∧ cnt (bitN k) = 1 := by
  have e : bitN k = 2 ^ k.toNat := by unfold bitN; rw [if_pos ⟨h0, by omega⟩]
  rw [e]
  exact ⟨by simp, cnt_pow _ (by omega)⟩

set_option maxHeartbeats 1000000 in
theorem counts_core (a b : Nat) (i : Int) (w : World) (ha : a < 18446744073709551616) (hb : b < 18446744073709551616) (hT : Tab w) :
    Calls Tryd.prog 6 #[.int .u64 a, .int .u64 b, .int .i64 i] w fun e w' => e = .returned (.bool true) ∧ Below w.heap.size w w' := by
  have hj := or_lt a b ha hb
  have hm := and_lt a b ha
  obtain ⟨c1, g1, d1⟩ : ∃ c : Int, Hid (((cnt (a ||| b) : Nat) : Int) = c) ∧ 0 ≤ c ∧ c ≤ 64 := ⟨_, rfl, by omega, by have := cnt_le (a ||| b); omega⟩
  obtain ⟨c2, g2, d2⟩ : ∃ c : Int, Hid (((cnt (a &&& b) : Nat) : Int) = c) ∧ 0 ≤ c ∧ c ≤ 64 := ⟨_, rfl, by omega, by have := cnt_le (a &&& b); omega⟩
  obtain ⟨c3, g3, d3⟩ : ∃ c : Int, Hid (((cnt a : Nat) : Int) = c) ∧ 0 ≤ c ∧ c ≤ 64 := ⟨_, rfl, by omega, by have := cnt_le a; omega⟩
  obtain ⟨c4, g4, d4⟩ : ∃ c : Int, Hid (((cnt b : Nat) : Int) = c) ∧ 0 ≤ c ∧ c ≤ 64 := ⟨_, rfl, by omega, by have := cnt_le b; omega⟩
  have hsum : (c1 + c2 == c3 + c4) = true := by
    have := cnt_or_and a b
    rw [← g1.out, ← g2.out, ← g3.out, ← g4.out]; simp; omega
  obtain ⟨d1a, d1b⟩ := d1; obtain ⟨d2a, d2b⟩ := d2; obtain ⟨d3a, d3b⟩ := d3; obtain ⟨d4a, d4b⟩ := d4
  go_enter Tryd.func6, Tryd.ntmps6
  go_wp2_with fail
  refine (join2 w a b _ ha hb rfl).mono ?_
  rintro e w1 ⟨rfl, b1⟩
  go_wp2_with fail
  refine (meet2 w1 a b _ ha hb rfl).mono ?_
  rintro e w2 ⟨rfl, b2⟩
  go_wp2_with fail
  refine (within_any i 0 63 w2 (by decide) (by decide) (by decide)).mono ?_
  rintro e w' ⟨⟨k, k0, k1, rfl⟩, he⟩; obtain rfl := he.symm; clear he
  go_wp2_with fail
  refine (count_is w2 (a ||| b) c1 hj g1.out).mono ?_
  rintro e w' ⟨rfl, he⟩; obtain rfl := he.symm; clear he
  go_wp2_with fail
  refine (count_is w2 (a &&& b) c2 hm g2.out).mono ?_
  rintro e w' ⟨rfl, he⟩; obtain rfl := he.symm; clear he
  go_wp2_with fail
  refine (count_is w2 a c3 ha g3.out).mono ?_
  rintro e w' ⟨rfl, he⟩; obtain rfl := he.symm; clear he
  go_wp2_with fail
  refine (count_is w2 b c4 hb g4.out).mono ?_
  rintro e w' ⟨rfl, he⟩; obtain rfl := he.symm; clear he
  go_wp2_with fail
  obtain ⟨p, hp⟩ : ∃ p, Hid (a.testBit k.toNat = p) := ⟨_, rfl⟩
  obtain ⟨q, hq⟩ : ∃ p, Hid (b.testBit k.toNat = p) := ⟨_, rfl⟩
  have hor : Hid ((a ||| b).testBit k.toNat = (p || q)) := by
    have h : (a ||| b).testBit k.toNat = (p || q) := by rw [Nat.testBit_or, hp.out, hq.out]
    exact h
  have hand : Hid ((a &&& b).testBit k.toNat = (p && q)) := by
    have h : (a &&& b).testBit k.toNat = (p && q) := by rw [Nat.testBit_and, hp.out, hq.out]
    exact h
  have hbit := bitN_lt k
  refine (has_is w2 (a ||| b) k _ hj (hasAt _ _ _ k0 k1 hor.out)).mono ?_
  rintro e w' ⟨rfl, he⟩; obtain rfl := he.symm; clear he
  go_wp2_with fail
  refine (has_is w2 a k _ ha (hasAt _ _ _ k0 k1 hp.out)).mono ?_
  rintro e w' ⟨rfl, he⟩; obtain rfl := he.symm; clear he
  cases p
  case' false =>
    go_wp2_with fail
    refine (has_is w2 b k _ hb (hasAt _ _ _ k0 k1 hq.out)).mono ?_
    rintro e w' ⟨rfl, he⟩; obtain rfl := he.symm; clear he
    go_wp2_with fail
    refine (has_is w2 (a &&& b) k _ hm (hasAt _ _ _ k0 k1 hand.out)).mono ?_
    rintro e w' ⟨rfl, he⟩; obtain rfl := he.symm; clear he
    go_wp2_with fail
    refine (has_is w2 a k _ ha (hasAt _ _ _ k0 k1 hp.out)).mono ?_
    rintro e w' ⟨rfl, he⟩; obtain rfl := he.symm; clear he
    go_wp2_with fail
  case' true =>
    go_wp2_with fail
    refine (has_is w2 (a &&& b) k _ hm (hasAt _ _ _ k0 k1 hand.out)).mono ?_
    rintro e w' ⟨rfl, he⟩; obtain rfl := he.symm; clear he
    go_wp2_with fail
    refine (has_is w2 a k _ ha (hasAt _ _ _ k0 k1 hp.out)).mono ?_
    rintro e w' ⟨rfl, he⟩; obtain rfl := he.symm; clear he
    go_wp2_with fail
    refine (has_is w2 b k _ hb (hasAt _ _ _ k0 k1 hq.out)).mono ?_
    rintro e w' ⟨rfl, he⟩; obtain rfl := he.symm; clear he
    go_wp2_with fail
  all_goals
    refine (of1 w2 k _ rfl).mono ?_
    rintro e w3 ⟨rfl, b3⟩
    go_wp2_with fail
    refine (has_is w3 (bitN k) k true hbit (hasAt _ _ _ k0 k1 (bitAt k k0 k1).1)).mono ?_
    rintro e w' ⟨rfl, he⟩; obtain rfl := he.symm; clear he
    go_wp2_with fail
    refine (of2 w3 k k ((bitN k : Nat) : Int) (by rw [Nat.or_self])).mono ?_
    rintro e w4 ⟨rfl, b4⟩
    go_wp2_with fail
    refine (count_is w4 (bitN k) 1 hbit (by rw [(bitAt k k0 k1).2]; rfl)).mono ?_
    rintro e w' ⟨rfl, he⟩; obtain rfl := he.symm; clear he
    go_wp2_with fail
    refine (has_is w4 a (64 + k) false ha (hasOut _ _ (by omega))).mono ?_
    rintro e w' ⟨rfl, he⟩; obtain rfl := he.symm; clear he
    go_wp2_with fail
    refine (has_is w4 a (-1 - k) false ha (hasOut _ _ (by omega))).mono ?_
    rintro e w' ⟨rfl, he⟩; obtain rfl := he.symm; clear he
    have b14 : Below w.heap.size w w4 := ((b1.trans (b2.mono b1.size)).trans (b3.mono (Nat.le_trans b1.size b2.size))).trans (b4.mono (Nat.le_trans b1.size (Nat.le_trans b2.size b3.size)))
    have hT4 := hT.below b14 hT.1
    go_wp2_with fail
    refine (runs_any w4 hT4).mono ?_
    rintro e w5 ⟨rfl, b5⟩
    go_wp2
    go_ret
    exact ⟨rfl, b14.trans (b5.mono b14.size)⟩

theorem wf_nat {x : Int} (h : (Lit.int .u64 x).wf = true) : ∃ n : Nat, x = (n : Int) ∧ n < 18446744073709551616 := by
  obtain ⟨h0, h1⟩ := bounds_u64 h
  exact ⟨x.toNat, by omega, by omega⟩
theorem maskCounts_walk (a0 a1 a2 : Int) (w0 : (Lit.int .u64 a0).wf = true) (w1 : (Lit.int .u64 a1).wf = true) (_w2 : (Lit.int .i64 a2).wf = true) (w : World) (hT : Tab w) :
    Calls Tryd.prog 6 #[.int .u64 a0, .int .u64 a1, .int .i64 a2] w fun e w' => e = .returned (.bool true) ∧ Below w.heap.size w w' := by
  obtain ⟨a, rfl, ha⟩ := wf_nat w0
  obtain ⟨b, rfl, hb⟩ := wf_nat w1
  exact counts_core a b a2 w ha hb hT
end Go.Proofs.YtmhldbanjlccmaaDoor
