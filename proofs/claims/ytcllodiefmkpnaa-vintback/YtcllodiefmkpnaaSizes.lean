/- VintSizes, walked: of any two numbers it returns true, and nothing that was there is written. -/
import Derived.Test.YtcllodiefmkpnaaRuns
namespace Go.Proofs.Ytcllodiefmkpnaa
open Go.RowKit M

/-- How often a number is divided by 128 till it is nought. -/
def rounds (u : Nat) : Nat := if u = 0 then 0 else (leb u).length
theorem rounds_step (u : Nat) (h : u ≠ 0) : rounds u = rounds (u / 128) + 1 := by
  unfold rounds
  rw [if_neg h]
  by_cases h1 : u < 128
  · rw [leb_small u h1, if_pos (by omega)]; rfl
  · rw [leb_great u (by omega), if_neg (by omega), List.length_cons]
theorem rounds_max (u : Nat) : max (rounds u) 1 = (leb u).length := by
  unfold rounds
  by_cases h : u = 0
  · subst h; rw [if_pos rfl, leb0]; rfl
  · rw [if_neg h]
    have := leb_pos u
    omega
theorem size_le (a b : Int) (h : zz a ≤ zz b) : size a ≤ size b := leb_mono _ _ h
theorem size_ten (n : Int) (h : Fits n) : 1 ≤ size n ∧ size n ≤ 10 := ⟨leb_pos _, leb_ten _ (zz_lt n h)⟩
theorem size_neg1 (x : Nat) : size (-1 - (x : Int)) = size (x : Int) := by
  have z1 : zz (-1 - (x : Int)) = 2 * x + 1 := by unfold zz; rw [if_neg (by omega)]; omega
  have z2 : zz (x : Int) = 2 * x := by unfold zz; rw [if_pos (by omega)]; omega
  have h1 : size (-1 - (x : Int)) = (leb (2 * x + 1)).length := by unfold size; rw [z1]
  have h2 : size (x : Int) = (leb (2 * x)).length := by unfold size; rw [z2]
  rw [h1, h2]
  by_cases h : 2 * x < 128
  · rw [leb_small _ h, leb_small _ (by omega)]; rfl
  · rw [leb_great _ (by omega), leb_great (2 * x) (by omega), List.length_cons, List.length_cons]
    have e : (2 * x + 1) / 128 = 2 * x / 128 := by omega
    rw [e]
theorem put1 (w : World) (n : Int) (hn : Fits n) :
    Calls Try.prog 11 #[.slice (some ⟨w.heap.size, 0, none⟩) 1 1] (w.alloc (.cells #[.int .i64 n] 3)) fun e w' => ∃ u, e = .returned u ∧ w'.ownsRow w.heap.size 5 1 u (leb (zz n)).length (bv (leb (zz n))) ∧ Below w.heap.size w w' := by
  refine (put_any _ [n] _ (rd_lit (e := 3) w [n] (by simp)) (by simpa using hn) (by simp)).mono ?_
  rintro e w' ⟨u, rfl, hu, b⟩
  rw [put_one] at hu
  refine ⟨u, rfl, ?_, (below_alloc w _).trans (b.mono (by simp))⟩
  obtain ⟨h1, h | ⟨g, cap, cur, rfl, h2, hh, r⟩⟩ := hu
  · exact ⟨h1, .inl h⟩
  · exact ⟨h1, .inr ⟨g, cap, cur, rfl, Nat.le_trans (by simp) h2, hh, r⟩⟩

set_option maxHeartbeats 1000000 in
set_option maxRecDepth 100000 in
theorem sizes_core (a0 a1 : Int) (w : World) :
    Calls Try.prog 6 #[.int .i64 a0, .int .i64 a1] w fun e w' => e = .returned (.bool true) ∧ Below w.heap.size w w' := by
  go_enter Try.func6, Try.ntmps6
  go_wp2_with fail
  refine (within_any a0 0 4611686018427387904 w (by decide) (by decide) (by decide)).mono ?_
  rintro e w' ⟨⟨x0, hx0, hx1, rfl⟩, he⟩; obtain rfl := he.symm; clear he
  go_wp2_with fail
  refine (within_any a1 0 x0 w (by decide) hx0 hx1).mono ?_
  rintro e w' ⟨⟨y0, hy0, hy1, rfl⟩, he⟩; obtain rfl := he.symm; clear he
  obtain ⟨x, rfl⟩ := Int.eq_ofNat_of_zero_le hx0
  obtain ⟨y, rfl⟩ := Int.eq_ofNat_of_zero_le hy0
  have fx : Fits (x : Int) := ⟨by omega, by omega⟩
  have fy : Fits (y : Int) := ⟨by omega, by omega⟩
  have fny : Fits (-(y : Int)) := ⟨by omega, by omega⟩
  have fnx : Fits (-1 - (x : Int)) := ⟨by omega, by omega⟩
  obtain ⟨k, hk⟩ : ∃ k : Nat, Hid (size (x : Int) = k) := ⟨_, rfl⟩
  obtain ⟨k1, hk1⟩ : ∃ k : Nat, Hid (size (y : Int) = k) := ⟨_, rfl⟩
  obtain ⟨k2, hk2⟩ : ∃ k : Nat, Hid (size (-(y : Int)) = k) := ⟨_, rfl⟩
  have hk3 : Hid (size (-1 - (x : Int)) = k) := (size_neg1 x).trans hk.out
  have zx : zz (x : Int) = 2 * x := by unfold zz; rw [if_pos (by omega)]; omega
  have l1 : k1 ≤ k := by
    rw [← hk.out, ← hk1.out]
    refine size_le _ _ ?_
    rw [zx]; unfold zz; rw [if_pos (by omega)]; omega
  have l2 : k2 ≤ k := by
    rw [← hk.out, ← hk2.out]
    refine size_le _ _ ?_
    rw [zx]; unfold zz; split <;> omega
  have hkb : 1 ≤ k ∧ k ≤ 10 := by rw [← hk.out]; exact size_ten _ fx
  have hk1b : 1 ≤ k1 := by rw [← hk1.out]; exact (size_ten _ fy).1
  have hk2b : 1 ≤ k2 := by rw [← hk2.out]; exact (size_ten _ fny).1
  have hmax : Hid (max (rounds (2 * x)) 1 = k) := by
    have h : max (rounds (2 * x)) 1 = k := by rw [rounds_max, ← zx]; exact hk.out
    exact h
  have hleb : Hid ((leb (zz (x : Int))).length = k) := hk.out
  clear zx
  go_wp2_with fail
  refine (size_is _ w (k : Int) fx (by rw [hk.out])).mono ?_
  rintro e w' ⟨rfl, he⟩; obtain rfl := he.symm; clear he
  go_wp2_with fail
  go_loop [8, 9] (fun c u => ∃ (cn : Nat) (un : Nat), c = .int .i64 cn ∧ u = .int .u64 un ∧ un < 18446744073709551616 ∧ cn ≤ 10 ∧ cn + rounds un = rounds (2 * x)) (fun _ u => (intOf u).toNat)
  case atStart => exact ⟨0, 2 * x, rfl, val_int (by omega), by omega, by omega, by omega⟩
  case round =>
    obtain ⟨cn, un, rfl, rfl, hul, hc10, hr⟩ := hrel
    have hrl : rounds (2 * x) ≤ 10 := by have := hmax.out; omega
    by_cases hu0 : un = 0
    · subst hu0
      have hcn : Hid (cn = rounds (2 * x)) := by
        have h : rounds 0 = 0 := rfl
        rw [h] at hr; exact hr
      have hmx : max (cn : Int) 1 = (k : Int) := by have h1 := hmax.out; rw [← hcn.out] at h1; omega
      clear hr hmax hcn hrl
      go_wp2_with fail
      refine (size_is _ w (k1 : Int) fy (by rw [hk1.out])).mono ?_
      rintro e w' ⟨rfl, he⟩; obtain rfl := he.symm; clear he
      go_wp2_with fail
      refine (size_is _ w (k2 : Int) fny (by rw [hk2.out])).mono ?_
      rintro e w' ⟨rfl, he⟩; obtain rfl := he.symm; clear he
      go_wp2_with fail
      refine (size_is _ w (k : Int) fnx (by rw [hk3.out])).mono ?_
      rintro e w' ⟨rfl, he⟩; obtain rfl := he.symm; clear he
      go_wp2_with fail
      refine (put1 w x fx).mono ?_
      rintro e w1 ⟨u, rfl, hu, b1⟩
      rw [hleb.out] at hu
      obtain ⟨ao, cap, rfl⟩ : ∃ ao cap, u = .slice ao k cap := by
        obtain ⟨_, ⟨rfl, h⟩ | ⟨g, cap, cur, rfl, _⟩⟩ := hu
        · exact ⟨_, _, by rw [h]⟩
        · exact ⟨_, _, rfl⟩
      clear hu
      go_wp2_with fail
      refine (runs_any w1).mono ?_
      rintro e w2 ⟨rfl, b2⟩
      go_wp2_with fail
      go_ret
      exact ⟨rfl, b1.trans (b2.mono b1.size)⟩
    · have hst : Hid (cn + 1 + rounds (un / 128) = rounds (2 * x)) := by
        have h : cn + 1 + rounds (un / 128) = rounds (2 * x) := by
          have := rounds_step un hu0
          omega
        exact h
      have hc2 : cn + 1 ≤ 10 := by have := hst.out; omega
      clear hr
      go_wp2_with fail
      go_round
      case rel => exact ⟨cn + 1, un / 128, by go_num, val_int (by omega), by omega, hc2, hst.out⟩
      case measure => simp [intOf]; omega
theorem vintSizes_walk (a0 a1 : Int) (w : World) (_w0 : (Lit.int .i64 a0).wf = true) (_w1 : (Lit.int .i64 a1).wf = true) :
    Calls Try.prog 6 #[.int .i64 a0, .int .i64 a1] w fun e w' => e = .returned (.bool true) ∧ Below w.heap.size w w' := sizes_core a0 a1 w
end Go.Proofs.Ytcllodiefmkpnaa
