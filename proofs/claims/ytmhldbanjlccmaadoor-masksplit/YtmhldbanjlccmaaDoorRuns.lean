/- The closed sentence MaskRuns, for every memory in which the table of math/bits lies. -/
import Derived.Test.YtmhldbanjlccmaaDoorLits
namespace Go.Proofs.YtmhldbanjlccmaaDoor
open Go.RowKit M

set_option maxHeartbeats 400000 in
theorem runs_any (w : World) (hT : Tab w) :
    Calls Tryd.prog 3 #[] w fun e w' => e = .returned (.bool true) ∧ Below w.heap.size w w' := by
  go_enter Tryd.func3, Tryd.ntmps3
  go_wp2_with fail
  refine (only_is w 8 3 (by decide) (by decide) (by decide) hT (by decide)).mono ?_
  rintro e w' ⟨rfl, he⟩; obtain rfl := he.symm; clear he
  go_wp2_with fail
  refine (only_no 9 w (by decide) (by decide)).mono ?_
  rintro e w' ⟨rfl, he⟩; obtain rfl := he.symm; clear he
  go_wp2_with fail
  refine (of3 w 0 3 99 9 (by decide)).mono ?_
  rintro e w1 ⟨rfl, b1⟩
  go_wp2_with fail
  refine (join2 w1 1 8 9 (by decide) (by decide) (by decide)).mono ?_
  rintro e w2 ⟨rfl, b2⟩
  go_wp2_with fail
  refine (meet2 w2 9 8 8 (by decide) (by decide) (by decide)).mono ?_
  rintro e w3 ⟨rfl, b3⟩
  have b13 : Below w.heap.size w w3 := (b1.trans (b2.mono b1.size)).trans (b3.mono (Nat.le_trans b1.size b2.size))
  have hT3 := hT.below b13 hT.1
  clear b1 b2 b3
  go_wp2_with fail
  refine (ids_any 9 w3 (by decide) hT3).mono ?_
  rintro e w4 ⟨v, rfl, hv, b4⟩
  have b14 : Below w.heap.size w w4 := b13.trans (b4.mono b13.size)
  have hv' : Hid (Rd .i64 w4 v [0, 3] ∧ Rd .i64 (w4.alloc (.cells #[.int .i64 0, .int .i64 3] 3)) v [0, 3]) := by
    have e : ids 64 9 = [0, 3] := by decide
    rw [e] at hv
    exact ⟨rd_own (zs := [0, 3]) hv, rd_own (zs := [0, 3]) (hv.alloc _)⟩
  clear hv
  go_wp2_with fail
  refine (same_any _ _ [0, 3] [0, 3] _ hv'.out.2 (rd_lit (e := 3) w4 [0, 3] (by simp)) rfl).mono ?_
  rintro e w5 ⟨rfl, n, he⟩
  have b15 : Below w.heap.size w w5 := by rw [he]; exact below_drewN (b14.alloc b14.size _) n
  clear he
  go_wp2
  go_ret
  exact ⟨rfl, b15⟩
theorem maskRuns_walk (w : World) (hT : Tab w) :
    Calls Tryd.prog 3 #[] w fun e w' => e = .returned (.bool true) ∧ Below w.heap.size w w' := runs_any w hT
end Go.Proofs.YtmhldbanjlccmaaDoor
