/- math/bits.Len64 and vint.Size, for every number. -/
import Derived.Test.YtimeglhoiibhdaaLeaf
import Derived.Lib.BitFns
import Derived.Lib.Walk
import Derived.Lib.ItoaNum
namespace Go.Proofs.Ytimeglhoiibhdaa
set_option linter.unusedVariables false
open Go.RowKit M

theorem len8_end (x y k : Int) (hy0 : 0 ≤ y) (hy : y ≤ 255) (hk0 : 0 ≤ k) (hk : k ≤ 56) (hs : Lib.bitLen x.toNat = k.toNat + Lib.bitLen y.toNat) :
    wrap64 (k + wrap64 (Lib.len8 y)) = (Lib.bitLen x.toNat : Int) := by
  have l := Lib.bitLen_le8' y hy0 hy
  rw [Lib.len8_of y hy0 hy, hs]
  generalize Lib.bitLen y.toNat = q at *
  have e : wrap64 (q : Int) = q := IntWalk.wrap64_in _ ⟨by omega, by omega⟩
  rw [e, IntWalk.wrap64_in _ ⟨by omega, by omega⟩]
  omega
theorem len8_end0 (y : Int) (hy0 : 0 ≤ y) (hy : y ≤ 255) : wrap64 (wrap64 (Lib.len8 y)) = (Lib.bitLen y.toNat : Int) := by
  have h := len8_end y y 0 hy0 hy (by decide) (by decide) (by simp)
  rw [Int.zero_add] at h
  exact h
set_option maxHeartbeats 1000000 in
set_option maxRecDepth 100000 in
theorem len_w0 (x : Int) (w : World) (h0 : 0 ≤ x) (h1 : x < 18446744073709551616) (t0 : x < 4294967296) (t1 : x < 65536) (t2 : x < 256) :
    Calls Try.prog 36 #[.int .u64 x] w fun e w' => e = .returned (.int .i64 (Lib.bitLen x.toNat)) ∧ w' = w := by
  have y0 : 0 ≤ x := by omega
  have y1 : x ≤ 255 := by omega
  go_enter Try.func36, Try.ntmps36
  go_wp2
  go_ret
  exact ⟨ret_int (len8_end0 x y0 y1), rfl⟩
set_option maxHeartbeats 1000000 in
set_option maxRecDepth 100000 in
theorem len_w1 (x : Int) (w : World) (h0 : 0 ≤ x) (h1 : x < 18446744073709551616) (t0 : x < 4294967296) (t1 : x < 65536) (t2 : 256 ≤ x) :
    Calls Try.prog 36 #[.int .u64 x] w fun e w' => e = .returned (.int .i64 (Lib.bitLen x.toNat)) ∧ w' = w := by
  have y0 : 0 ≤ x / 256 := by omega
  have y1 : x / 256 ≤ 255 := by omega
  have hs : Hid (Lib.bitLen x.toNat = (8 : Int).toNat + Lib.bitLen (x / 256).toNat) := by
    have h : Lib.bitLen x.toNat = (8 : Int).toNat + Lib.bitLen (x / 256).toNat := by
      have e : (x / 256).toNat = x.toNat / 256 := by omega
      rw [e]
      exact Lib.bitLen_shift8 x.toNat (by omega) (by omega)
    exact h
  go_enter Try.func36, Try.ntmps36
  go_wp2
  go_ret
  exact ⟨ret_int (len8_end x _ 8 y0 y1 (by decide) (by decide) hs.out), rfl⟩
set_option maxHeartbeats 1000000 in
set_option maxRecDepth 100000 in
theorem len_w2 (x : Int) (w : World) (h0 : 0 ≤ x) (h1 : x < 18446744073709551616) (t0 : x < 4294967296) (t1 : 65536 ≤ x) (t2 : x / 65536 < 256) :
    Calls Try.prog 36 #[.int .u64 x] w fun e w' => e = .returned (.int .i64 (Lib.bitLen x.toNat)) ∧ w' = w := by
  have y0 : 0 ≤ x / 65536 := by omega
  have y1 : x / 65536 ≤ 255 := by omega
  have hs : Hid (Lib.bitLen x.toNat = (16 : Int).toNat + Lib.bitLen (x / 65536).toNat) := by
    have h : Lib.bitLen x.toNat = (16 : Int).toNat + Lib.bitLen (x / 65536).toNat := by
      have e : (x / 65536).toNat = x.toNat / 65536 := by omega
      rw [e]
      exact Lib.bitLen_shift16 x.toNat (by omega) (by omega)
    exact h
  go_enter Try.func36, Try.ntmps36
  go_wp2
  go_ret
  exact ⟨ret_int (len8_end x _ 16 y0 y1 (by decide) (by decide) hs.out), rfl⟩
set_option maxHeartbeats 1000000 in
set_option maxRecDepth 100000 in
theorem len_w3 (x : Int) (w : World) (h0 : 0 ≤ x) (h1 : x < 18446744073709551616) (t0 : x < 4294967296) (t1 : 65536 ≤ x) (t2 : 256 ≤ x / 65536) :
    Calls Try.prog 36 #[.int .u64 x] w fun e w' => e = .returned (.int .i64 (Lib.bitLen x.toNat)) ∧ w' = w := by
  have y0 : 0 ≤ x / 65536 / 256 := by omega
  have y1 : x / 65536 / 256 ≤ 255 := by omega
  have hs : Hid (Lib.bitLen x.toNat = (24 : Int).toNat + Lib.bitLen (x / 65536 / 256).toNat) := by
    have h : Lib.bitLen x.toNat = (24 : Int).toNat + Lib.bitLen (x / 65536 / 256).toNat := by
      have e : (x / 65536 / 256).toNat = x.toNat / 16777216 := by omega
      rw [e]
      exact Lib.bitLen_shift24 x.toNat (by omega) (by omega)
    exact h
  go_enter Try.func36, Try.ntmps36
  go_wp2
  go_ret
  exact ⟨ret_int (len8_end x _ 24 y0 y1 (by decide) (by decide) hs.out), rfl⟩
set_option maxHeartbeats 1000000 in
set_option maxRecDepth 100000 in
theorem len_w4 (x : Int) (w : World) (h0 : 0 ≤ x) (h1 : x < 18446744073709551616) (t0 : 4294967296 ≤ x) (t1 : x / 4294967296 < 65536) (t2 : x / 4294967296 < 256) :
    Calls Try.prog 36 #[.int .u64 x] w fun e w' => e = .returned (.int .i64 (Lib.bitLen x.toNat)) ∧ w' = w := by
  have y0 : 0 ≤ x / 4294967296 := by omega
  have y1 : x / 4294967296 ≤ 255 := by omega
  have hs : Hid (Lib.bitLen x.toNat = (32 : Int).toNat + Lib.bitLen (x / 4294967296).toNat) := by
    have h : Lib.bitLen x.toNat = (32 : Int).toNat + Lib.bitLen (x / 4294967296).toNat := by
      have e : (x / 4294967296).toNat = x.toNat / 4294967296 := by omega
      rw [e]
      exact Lib.bitLen_shift32 x.toNat (by omega) (by omega)
    exact h
  go_enter Try.func36, Try.ntmps36
  go_wp2
  go_ret
  exact ⟨ret_int (len8_end x _ 32 y0 y1 (by decide) (by decide) hs.out), rfl⟩
set_option maxHeartbeats 1000000 in
set_option maxRecDepth 100000 in
theorem len_w5 (x : Int) (w : World) (h0 : 0 ≤ x) (h1 : x < 18446744073709551616) (t0 : 4294967296 ≤ x) (t1 : x / 4294967296 < 65536) (t2 : 256 ≤ x / 4294967296) :
    Calls Try.prog 36 #[.int .u64 x] w fun e w' => e = .returned (.int .i64 (Lib.bitLen x.toNat)) ∧ w' = w := by
  have y0 : 0 ≤ x / 4294967296 / 256 := by omega
  have y1 : x / 4294967296 / 256 ≤ 255 := by omega
  have hs : Hid (Lib.bitLen x.toNat = (40 : Int).toNat + Lib.bitLen (x / 4294967296 / 256).toNat) := by
    have h : Lib.bitLen x.toNat = (40 : Int).toNat + Lib.bitLen (x / 4294967296 / 256).toNat := by
      have e : (x / 4294967296 / 256).toNat = x.toNat / 1099511627776 := by omega
      rw [e]
      exact Lib.bitLen_shift40 x.toNat (by omega) (by omega)
    exact h
  go_enter Try.func36, Try.ntmps36
  go_wp2
  go_ret
  exact ⟨ret_int (len8_end x _ 40 y0 y1 (by decide) (by decide) hs.out), rfl⟩
set_option maxHeartbeats 1000000 in
set_option maxRecDepth 100000 in
theorem len_w6 (x : Int) (w : World) (h0 : 0 ≤ x) (h1 : x < 18446744073709551616) (t0 : 4294967296 ≤ x) (t1 : 65536 ≤ x / 4294967296) (t2 : x / 4294967296 / 65536 < 256) :
    Calls Try.prog 36 #[.int .u64 x] w fun e w' => e = .returned (.int .i64 (Lib.bitLen x.toNat)) ∧ w' = w := by
  have y0 : 0 ≤ x / 4294967296 / 65536 := by omega
  have y1 : x / 4294967296 / 65536 ≤ 255 := by omega
  have hs : Hid (Lib.bitLen x.toNat = (48 : Int).toNat + Lib.bitLen (x / 4294967296 / 65536).toNat) := by
    have h : Lib.bitLen x.toNat = (48 : Int).toNat + Lib.bitLen (x / 4294967296 / 65536).toNat := by
      have e : (x / 4294967296 / 65536).toNat = x.toNat / 281474976710656 := by omega
      rw [e]
      exact Lib.bitLen_shift48 x.toNat (by omega) (by omega)
    exact h
  go_enter Try.func36, Try.ntmps36
  go_wp2
  go_ret
  exact ⟨ret_int (len8_end x _ 48 y0 y1 (by decide) (by decide) hs.out), rfl⟩
set_option maxHeartbeats 1000000 in
set_option maxRecDepth 100000 in
theorem len_w7 (x : Int) (w : World) (h0 : 0 ≤ x) (h1 : x < 18446744073709551616) (t0 : 4294967296 ≤ x) (t1 : 65536 ≤ x / 4294967296) (t2 : 256 ≤ x / 4294967296 / 65536) :
    Calls Try.prog 36 #[.int .u64 x] w fun e w' => e = .returned (.int .i64 (Lib.bitLen x.toNat)) ∧ w' = w := by
  have y0 : 0 ≤ x / 4294967296 / 65536 / 256 := by omega
  have y1 : x / 4294967296 / 65536 / 256 ≤ 255 := by omega
  have hs : Hid (Lib.bitLen x.toNat = (56 : Int).toNat + Lib.bitLen (x / 4294967296 / 65536 / 256).toNat) := by
    have h : Lib.bitLen x.toNat = (56 : Int).toNat + Lib.bitLen (x / 4294967296 / 65536 / 256).toNat := by
      have e : (x / 4294967296 / 65536 / 256).toNat = x.toNat / 72057594037927936 := by omega
      rw [e]
      exact Lib.bitLen_shift56 x.toNat (by omega) (by omega)
    exact h
  go_enter Try.func36, Try.ntmps36
  go_wp2
  go_ret
  exact ⟨ret_int (len8_end x _ 56 y0 y1 (by decide) (by decide) hs.out), rfl⟩
theorem len_walk (x : Int) (w : World) (h0 : 0 ≤ x) (h1 : x < 18446744073709551616) :
    Calls Try.prog 36 #[.int .u64 x] w fun e w' => e = .returned (.int .i64 (Lib.bitLen x.toNat)) ∧ w' = w := by
  by_cases a : 4294967296 ≤ x
  · by_cases b : 65536 ≤ x / 4294967296
    · by_cases c : 256 ≤ x / 4294967296 / 65536
      · exact len_w7 x w h0 h1 a b c
      · exact len_w6 x w h0 h1 a b (by omega)
    · by_cases c : 256 ≤ x / 4294967296
      · exact len_w5 x w h0 h1 a (by omega) c
      · exact len_w4 x w h0 h1 a (by omega) (by omega)
  · by_cases b : 65536 ≤ x
    · by_cases c : 256 ≤ x / 65536
      · exact len_w3 x w h0 h1 (by omega) b c
      · exact len_w2 x w h0 h1 (by omega) b (by omega)
    · by_cases c : 256 ≤ x
      · exact len_w1 x w h0 h1 (by omega) (by omega) c
      · exact len_w0 x w h0 h1 (by omega) (by omega) (by omega)
theorem size_len (u : Nat) (hu : u < 18446744073709551616) : (leb u).length = max 1 ((Lib.bitLen u + 6) / 7) ∧ Lib.bitLen u ≤ 64 := by
  have h64 : Lib.bitLen u ≤ 64 := Lib.bitLen_le u 64 (by decide) hu
  refine ⟨?_, h64⟩
  by_cases h0 : u = 0
  · subst h0
    have e : Lib.bitLen 0 = 0 := by decide
    rw [e, leb_small 0 (by decide)]; rfl
  · obtain ⟨h1, h2, h3⟩ := Lib.bitLenAux_bounds 64 u hu h0
    exact size_bits u (Lib.bitLen u) h64 h3 fun _ => h2
/-- How many bytes an int has. -/
def size (n : Int) : Nat := (leb (zz n)).length
set_option maxRecDepth 100000 in
/-- vint.Size. -/
theorem size_any (n : Int) (w : World) (hn : Fits n) :
    Calls Try.prog 24 #[.int .i64 n] w fun e w' => e = .returned (.int .i64 (size n : Nat)) ∧ w' = w := by
  have hz := zz_lt n hn
  obtain ⟨hs, hl⟩ := size_len (zz n) hz
  have hs' : Hid ((leb (zz n)).length = max 1 ((Lib.bitLen (zz n) + 6) / 7)) := hs
  clear hs
  obtain ⟨L, hL⟩ : ∃ L, Hid (Lib.bitLen (zz n) = L) := ⟨_, rfl⟩
  rw [hL.out] at hs' hl
  go_enter Try.func24, Try.ntmps24
  go_wp2_with fail
  refine (fold_any n w hn).mono ?_
  rintro e w' ⟨rfl, he⟩; obtain rfl := he.symm; clear he
  go_wp2_with fail
  refine (len_walk (zz n : Nat) w (by omega) (by omega)).mono ?_
  rintro e w' ⟨rfl, he⟩; obtain rfl := he.symm; clear he
  rw [Int.toNat_natCast, hL.out]
  go_wp2
  go_ret
  refine ⟨ret_int ?_, rfl⟩
  unfold size
  rw [hs'.out]
  omega
end Go.Proofs.Ytimeglhoiibhdaa
