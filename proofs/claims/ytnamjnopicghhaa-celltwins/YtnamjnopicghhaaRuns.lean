/- CellRuns: chapter 15's runs. -/
import Derived.Test.YtnamjnopicghhaaCelAll
namespace Go.Proofs.Ytnamjnopicghhaa
open Go.RowKit M
open O.MO (Oq Pq rightP)
set_option linter.unusedVariables false
set_option linter.unusedSimpArgs false
attribute [local go_sem ↓] Go.wp_at_zero Go.wp_at_succ

def runsP : Pq := ⟨[], 10, 10, 2, -1, -1⟩
def runsI : List Inp := [ownI 2 ⟨false, ⟨3, 0, 5, 0⟩⟩, ownI 2 ⟨true, ⟨10, 0, 0, 0⟩⟩]
theorem runs_right : rightP runsP = true := by kernel_rfl
theorem runs_rows : rowsR runsP r0 runsI = [⟨0, 0, 1, 5, 4⟩] := by kernel_rfl
set_option maxHeartbeats 4000000 in
set_option maxRecDepth 100000 in
theorem runs_is (w : World) : Calls Try.prog 3 #[] w fun e w' => e = .returned (.bool true) ∧ Below w.heap.size w w' := by
  go_enter Try.func3, Try.ntmps3
  go_wp2_with fail
  refine (cnew_is (p := runsP) (.slice none 0 0) 2 9 9 _ (st_start w) (opsIn_nil _) runs_right (by decide) (by decide) (.inl ⟨by decide, rfl⟩)).mono ?_
  rintro e w1 ⟨c, rfl, hS⟩
  have hS0 : Hid (St w w1 (cel c runsP (2 : Nat) 9 0 0 [] [] :: [])) := hS
  clear hS
  go_upto_region 5 with fail
  refine world_gen (fun W => Hid (St w W (blkT w1.heap.size (.cells #[.bool false, .int .i64 3, .int .i64 0, .int .i64 5, .int .u64 0] 31) :: cel c runsP (2 : Nat) 9 0 0 [] [] :: []))) (hS0.out.newBlk _ _ rfl) ?_
  clear hS0
  rintro W1 hS1
  generalize w1.heap.size = g at *
  have hi : Hid (Ink W1 g ⟨false, ⟨3, 0, 5, 0⟩⟩) := hS1.out.blk
  refine wp_region_held_drew (S := fun X => Ink X g ⟨false, ⟨3, 0, 5, 0⟩⟩) (by kernel_rfl) hi.out (fun hHeld => ?_)
  have hS2 : Hid (St w W1.drew (cel c runsP (2 : Nat) 9 0 0 [] [] :: blkT g (.cells #[.bool false, .int .i64 3, .int .i64 0, .int .i64 5, .int .u64 0] 31) :: [])) := (hS1.out.below (Below.refl _ _).drew).sw
  clear hS1 hi
  generalize W1.drew = V at hHeld hS2 ⊢
  refine take_at (i := 0) (v := .pointer (some ⟨c, 0, none⟩)) rfl rfl (by kernel_rfl) (by kernel_rfl) (by kernel_rfl) (fun _ _ _ h => h) (Or.inl ⟨by rfl, fun X _ => by go_simp⟩) hHeld ?_
  try simp only [Act.put, List.setIfInBounds_toArray, List.set_cons_zero, List.set_cons_succ]
  refine take_at (i := 1) (v := inv ⟨false, ⟨3, 0, 5, 0⟩⟩) rfl rfl (by kernel_rfl) (by kernel_rfl) (by kernel_rfl) (fun _ _ _ h => h) (Or.inl ⟨by rfl, fun X hX => by obtain ⟨k0, k1, k2, k3, k4⟩ := hX.c; simp only [Nat.zero_add] at k0 k1 k2 k3 k4; go_simp⟩) hHeld ?_
  try simp only [Act.put, List.setIfInBounds_toArray, List.set_cons_zero, List.set_cons_succ]
  refine take_at (i := 3) (v := .pointer (some ⟨c, 0, none⟩)) rfl rfl (by kernel_rfl) (by kernel_rfl) (by kernel_rfl) (fun _ _ _ h => h) (Or.inl ⟨by rfl, fun X _ => by go_simp⟩) hHeld ?_
  try simp only [Act.put, List.setIfInBounds_toArray, List.set_cons_zero, List.set_cons_succ]
  refine take_at (i := 4) (v := .agg #[.int .i64 10, .int .i64 0, .int .i64 0, .int .u64 0]) rfl rfl (by kernel_rfl) (by kernel_rfl) (by kernel_rfl) (fun _ _ _ h => h) (Or.inl ⟨by rfl, fun X _ => by go_simp⟩) hHeld ?_
  try simp only [Act.put, List.setIfInBounds_toArray, List.set_cons_zero, List.set_cons_succ]
  refine take_at (i := 5) (v := inv ⟨true, ⟨10, 0, 0, 0⟩⟩) rfl rfl (by kernel_rfl) (by kernel_rfl) (by kernel_rfl) (fun _ _ _ h => h) (Or.inl ⟨by rfl, fun X _ => by go_simp⟩) hHeld ?_
  try simp only [Act.put, List.setIfInBounds_toArray, List.set_cons_zero, List.set_cons_succ]
  refine take_at (i := 7) (v := .pointer (some ⟨c, 0, none⟩)) rfl rfl (by kernel_rfl) (by kernel_rfl) (by kernel_rfl) (fun _ _ _ h => h) (Or.inl ⟨by rfl, fun X _ => by go_simp⟩) hHeld ?_
  try simp only [Act.put, List.setIfInBounds_toArray, List.set_cons_zero, List.set_cons_succ]
  refine take_at (i := 8) (v := inv ⟨false, ⟨3, 0, 5, 0⟩⟩) rfl rfl (by kernel_rfl) (by kernel_rfl) (by kernel_rfl) (fun _ _ _ h => h) (Or.inl ⟨by rfl, fun X hX => by obtain ⟨k0, k1, k2, k3, k4⟩ := hX.c; simp only [Nat.zero_add] at k0 k1 k2 k3 k4; go_simp⟩) hHeld ?_
  try simp only [Act.put, List.setIfInBounds_toArray, List.set_cons_zero, List.set_cons_succ]
  refine wpAnyH_ready (rs := [2]) (by kernel_rfl) (by simp) ?_
  refine AllReadyH.cons rfl (fun K hK => ?_) AllReadyH.nil
  rw [if_pos (by rfl)]
  go_wp2_with fail
  refine (offer_is 2 ⟨false, ⟨3, 0, 5, 0⟩⟩ _ hS2.out (by decide) (by decide) (by decide) (by decide) (by decide) 0 8 1 0 [ownI 2 ⟨false, ⟨3, 0, 5, 0⟩⟩] (.inr (.inr (.inr ⟨by decide, by decide, by decide, rfl, by decide, by decide, rfl, rfl⟩)))).mono ?_
  rintro e V3 ⟨rfl, hN⟩
  have hS3 : Hid (St w V3 (cel c runsP (2 : Nat) 8 1 0 [ownI 2 ⟨false, ⟨3, 0, 5, 0⟩⟩] [] :: blkT g (.cells #[.bool false, .int .i64 3, .int .i64 0, .int .i64 5, .int .u64 0] 31) :: [])) := hN
  have hh : Ink V3 g ⟨false, ⟨3, 0, 5, 0⟩⟩ := hN.sw.blk
  clear hS2 hN hHeld
  go_wp2_with fail
  refine hK.out _ _ (hh) (fun hHeld => ?_)
  clear hK K
  try simp only [Act.put, List.setIfInBounds_toArray, List.set_cons_zero, List.set_cons_succ]
  clear hh
  refine wpAnyH_ready (rs := [6]) (by kernel_rfl) (by simp) ?_
  refine AllReadyH.cons rfl (fun K hK => ?_) AllReadyH.nil
  rw [if_pos (by rfl)]
  go_wp2_with fail
  refine (offer_is 2 ⟨true, ⟨10, 0, 0, 0⟩⟩ _ hS3.out (by decide) (by decide) (by decide) (by decide) (by decide) 0 7 2 0 [ownI 2 ⟨false, ⟨3, 0, 5, 0⟩⟩, ownI 2 ⟨true, ⟨10, 0, 0, 0⟩⟩] (.inr (.inr (.inr ⟨by decide, by decide, by decide, rfl, by decide, by decide, rfl, rfl⟩)))).mono ?_
  rintro e V4 ⟨rfl, hN⟩
  have hS4 : Hid (St w V4 (cel c runsP (2 : Nat) 7 2 0 [ownI 2 ⟨false, ⟨3, 0, 5, 0⟩⟩, ownI 2 ⟨true, ⟨10, 0, 0, 0⟩⟩] [] :: blkT g (.cells #[.bool false, .int .i64 3, .int .i64 0, .int .i64 5, .int .u64 0] 31) :: [])) := hN
  have hh : Ink V4 g ⟨false, ⟨3, 0, 5, 0⟩⟩ := hN.sw.blk
  clear hS3 hN hHeld
  go_wp2_with fail
  refine hK.out _ _ (hh) (fun hHeld => ?_)
  clear hK K
  try simp only [Act.put, List.setIfInBounds_toArray, List.set_cons_zero, List.set_cons_succ]
  clear hh
  refine wpAnyH_ready (rs := [9]) (by kernel_rfl) (by simp) ?_
  refine AllReadyH.cons rfl (fun K hK => ?_) AllReadyH.nil
  rw [if_pos (by rfl)]
  go_wp2_with fail
  refine (offer_is 2 ⟨false, ⟨3, 0, 5, 0⟩⟩ _ hS4.out (by decide) (by decide) (by decide) (by decide) (by decide) 3 7 2 1 [ownI 2 ⟨false, ⟨3, 0, 5, 0⟩⟩, ownI 2 ⟨true, ⟨10, 0, 0, 0⟩⟩] (.inr (.inr (.inl ⟨by decide, by decide, by decide, rfl, rfl, rfl, by decide, rfl⟩)))).mono ?_
  rintro e V5 ⟨rfl, hN⟩
  have hS5 : Hid (St w V5 (cel c runsP (2 : Nat) 7 2 1 [ownI 2 ⟨false, ⟨3, 0, 5, 0⟩⟩, ownI 2 ⟨true, ⟨10, 0, 0, 0⟩⟩] [] :: blkT g (.cells #[.bool false, .int .i64 3, .int .i64 0, .int .i64 5, .int .u64 0] 31) :: [])) := hN
  have hh : Ink V5 g ⟨false, ⟨3, 0, 5, 0⟩⟩ := hN.sw.blk
  clear hS4 hN hHeld
  go_wp2_with fail
  refine hK.out _ _ (hh) (fun hHeld => ?_)
  clear hK K
  try simp only [Act.put, List.setIfInBounds_toArray, List.set_cons_zero, List.set_cons_succ]
  clear hh
  refine take_at (i := 10) (v := .int .i64 0) rfl rfl (by kernel_rfl) (by kernel_rfl) (by kernel_rfl) (fun _ _ _ h => h) (Or.inl ⟨by rfl, fun X _ => by go_simp⟩) hHeld ?_
  try simp only [Act.put, List.setIfInBounds_toArray, List.set_cons_zero, List.set_cons_succ]
  refine take_at (i := 11) (v := .int .i64 0) rfl rfl (by kernel_rfl) (by kernel_rfl) (by kernel_rfl) (fun _ _ _ h => h) (Or.inl ⟨by rfl, fun X _ => by go_simp⟩) hHeld ?_
  try simp only [Act.put, List.setIfInBounds_toArray, List.set_cons_zero, List.set_cons_succ]
  refine take_at (i := 12) (v := .int .i64 3) rfl rfl (by kernel_rfl) (by kernel_rfl) (by kernel_rfl) (fun _ _ _ h => h) (Or.inl ⟨by rfl, fun X _ => by go_simp⟩) hHeld ?_
  try simp only [Act.put, List.setIfInBounds_toArray, List.set_cons_zero, List.set_cons_succ]
  refine wpAnyH_done (by kernel_rfl) ?_ _
  clear hHeld
  go_wp2_with fail
  refine (serve_is 2 _ hS5.out 2 (.inr (.inl ⟨by decide, by decide, by decide⟩)) (by decide)).mono ?_
  rintro e w6 ⟨u, rfl, hN⟩
  have e1 : rowsR runsP (stR runsP r0 []) (List.take 2 [ownI 2 ⟨false, ⟨3, 0, 5, 0⟩⟩, ownI 2 ⟨true, ⟨10, 0, 0, 0⟩⟩]) = [⟨0, 0, 1, 5, 4⟩] := runs_rows
  rw [e1] at hN
  have hS6 : Hid (St w w6 (cel c runsP (2 : Nat) 7 2 1 [] runsI :: rwl u [⟨0, 0, 1, 5, 4⟩] :: blkT g (.cells #[.bool false, .int .i64 3, .int .i64 0, .int .i64 5, .int .u64 0] 31) :: [])) := hN.sw
  clear hS5 hN
  go_wp2_with fail
  refine (crows_is 5 0 _ hS6.out (by decide) 1 1 (by rw [runs_rows]; rfl) (.inr (.inr (.inr ⟨by decide, by decide, by decide, rfl⟩)))).mono ?_
  rintro e w7 ⟨u2, rfl, hN⟩
  rw [runs_rows] at hN
  have hS7 : Hid (St w w7 (cel c runsP (2 : Nat) 7 2 1 [] runsI :: rwl u2 [⟨0, 0, 1, 5, 4⟩] :: rwl u [⟨0, 0, 1, 5, 4⟩] :: blkT g (.cells #[.bool false, .int .i64 3, .int .i64 0, .int .i64 5, .int .u64 0] 31) :: [])) := hN.sw
  clear hS6 hN
  go_wp2_with fail
  refine (crows_no 2 1 _ hS7.out (.inr (by rw [runs_rows]; decide))).mono ?_
  rintro e w8 ⟨rfl, he⟩; obtain rfl := he.symm; clear he
  obtain ⟨ua, uc, rfl⟩ := own_len' (hS7.out.re [2, 0, 1] 3).rw
  obtain ⟨ub, ud, rfl⟩ := own_len' (hS7.out.re [1, 0] 2).rw
  have hr1 := rdr_own (hS7.out.re [2, 0, 1] 3).rw
  have hr2 := rdr_own (hS7.out.re [1, 0] 2).rw
  have hr1' : Hid (RdR w7 (.slice ua [(⟨0, 0, 1, 5, 4⟩ : Pn)].length uc) [⟨0, 0, 1, 5, 4⟩]) := hr1
  have hr2' : Hid (RdR w7 (.slice ub [(⟨0, 0, 1, 5, 4⟩ : Pn)].length ud) [⟨0, 0, 1, 5, 4⟩]) := hr2
  obtain ⟨hln, ao, cap, e1, h1, h2, hcell⟩ := hr1
  obtain ⟨b1, o1, e2, h3, h4⟩ := hcell (by simp)
  obtain ⟨_, _, _, _, g4⟩ := h4 0 (by simp)
  subst e2
  injection e1 with e3 e4 e5
  subst e3
  have g4' : w7.cell? ⟨b1, o1 + 4, none⟩ = some (.int .u64 4) := by simpa [pAt] using g4
  clear g4 h4 hcell h1 h2 hln e4 e5 hr2
  obtain ⟨v, b, vr, vt, hO⟩ := hS7.out.opn
  have hkb : Hid (Ckb w7 c 7 2 1 v b (2 : Nat) vr vt) := hO.ck
  have hB : Hid (Below w.heap.size w w7) := hS7.out.b
  clear hO hS7
  go_wp2_with fail
  refine (same_r (.slice ub 1 ud) (.slice (some ⟨b1, o1, none⟩) 1 uc) [⟨0, 0, 1, 5, 4⟩] _ hr2'.out hr1'.out).mono ?_
  rintro e w8 ⟨rfl, hb8⟩
  have hkb8 : Hid (Ckb w8 c 7 2 1 v b (2 : Nat) vr vt) := hkb.out.call hb8
  have hB8 : Hid (Below w.heap.size w w8) := below_call hB.out hb8
  clear hkb hB hb8 hr1' hr2' g4'
  have d0 := hkb8.out.c0
  have d1 := hkb8.out.c1
  have d2 := hkb8.out.c2
  go_wp2_with fail
  refine (qleft_is 7 2 1 _).mono ?_
  rintro e w9 ⟨rfl, hb9⟩
  have hkb9 : Hid (Ckb w9 c 7 2 1 v b (2 : Nat) vr vt) := hkb8.out.call hb9
  have hB9 : Hid (Below w.heap.size w w9) := below_call hB8.out hb9
  clear hkb8 hB8 hb9 d0 d1 d2
  have d0 := hkb9.out.c0
  have d1 := hkb9.out.c1
  have d2 := hkb9.out.c2
  go_wp2_with fail
  refine (qrefused_is 7 2 1 _).mono ?_
  rintro e w10 ⟨rfl, hb10⟩
  have hB10 : Hid (Below w.heap.size w w10) := below_call hB9.out hb10
  clear hkb9 hB9 hb10 d0 d1 d2
  go_wp2_with fail
  go_ret
  exact ⟨rfl, hB10.out⟩
theorem cellRuns_walk (w : World) : Calls Try.prog 3 #[] w fun e w' => e = .returned (.bool true) ∧ Below w.heap.size w w' := runs_is w
end Go.Proofs.Ytnamjnopicghhaa
