/- The closed sentence VintRuns, for every memory. -/
import Derived.Test.YtcllodiefmkpnaaSame
import Derived.Test.YtcllodiefmkpnaaGet
import Derived.Test.YtcllodiefmkpnaaPut
namespace Go.Proofs.Ytcllodiefmkpnaa
open Go.RowKit M

theorem got_bad : got [128, 0] = none := by
  refine got_stop [128, 0] (by simp) 0 ?_ (by simp)
  exact nx_bad [128] 0 [] (by simp) (by decide) rfl
theorem leb0 : leb 0 = [0] := leb_small 0 (by decide)
theorem put_run : put [0, -1, 64] = [0, 1, 128, 1] := by
  have e : put [0, -1, 64] = leb 0 ++ (leb 1 ++ (leb 128 ++ [])) := rfl
  rw [e, leb0, leb_small 1 (by decide), leb_great 128 (by decide), leb_small (128 / 128) (by decide)]
  rfl
theorem size_is (n : Int) (w : World) (k : Int) (hn : Fits n) (hk : ((size n : Nat) : Int) = k) :
    Calls Try.prog 12 #[.int .i64 n] w fun e w' => e = .returned (.int .i64 k) ∧ w' = w := by
  rw [← hk]; exact size_any n w hn
theorem size_min : size (-9223372036854775808) = 10 := by
  have h := (size_len (zz (-9223372036854775808)) (zz_lt _ ⟨by decide, by decide⟩)).1
  unfold size
  rw [h]
  decide +kernel
theorem size0 : size 0 = 1 := by
  unfold size
  have e : zz 0 = 0 := rfl
  rw [e, leb0]; rfl

set_option maxHeartbeats 400000 in
set_option maxRecDepth 100000 in
theorem runs_any (w : World) :
    Calls Try.prog 3 #[] w fun e w' => e = .returned (.bool true) ∧ Below w.heap.size w w' := by
  go_enter Try.func3, Try.ntmps3
  go_wp2_with fail
  refine (get_any _ [128, 0] _ (rd_lit (e := 5) w [128, 0] (by simp)) (by simp) (by simp)).mono ?_
  rintro e w1 (⟨l, u, hgot, -, -, -⟩ | ⟨-, rfl, b1⟩)
  · rw [got_bad] at hgot; cases hgot
  have t1 : Below w.heap.size w w1 := (below_alloc w _).trans (b1.mono (by simp))
  clear b1
  go_wp2_with fail
  refine (put_any _ [0, -1, 64] _ (rd_lit (e := 3) w1 [0, -1, 64] (by simp)) (by simp [Fits]) (by simp)).mono ?_
  rintro e w2 ⟨u, rfl, hu, b2⟩
  have t2 : Below w.heap.size w w2 := (t1.alloc t1.size _).trans (b2.mono (Nat.le_trans t1.size (by simp)))
  clear b2 t1
  have hu2 := rd_bv (own_below hu (below_alloc w2 (.cells #[.int .u8 0, .int .u8 1, .int .u8 128, .int .u8 1] 5)))
  clear hu
  go_wp2_with fail
  refine (same_bytes _ _ _ [0, 1, 128, 1] _ true hu2 (rd_lit (e := 5) w2 [0, 1, 128, 1] (by simp)) (decide_eq_true put_run)).mono ?_
  rintro e w3 ⟨rfl, b3⟩
  have t3 : Below w.heap.size w w3 := (t2.alloc t2.size _).trans (b3.mono (Nat.le_trans t2.size (by simp)))
  clear b3 t2 hu2
  go_wp2_with fail
  refine (size_is _ w3 10 ⟨by decide, by decide⟩ (by rw [size_min]; rfl)).mono ?_
  rintro e w' ⟨rfl, he⟩; obtain rfl := he.symm; clear he
  go_wp2_with fail
  refine (size_is _ w3 1 ⟨by decide, by decide⟩ (by rw [size0]; rfl)).mono ?_
  rintro e w' ⟨rfl, he⟩; obtain rfl := he.symm; clear he
  go_wp2_with fail
  go_ret
  exact ⟨rfl, t3⟩
theorem vintRuns_walk (w : World) :
    Calls Try.prog 3 #[] w fun e w' => e = .returned (.bool true) ∧ Below w.heap.size w w' := runs_any w
end Go.Proofs.Ytcllodiefmkpnaa
