/- Twin and New of a Cell. -/
import Derived.Test.YtnamjnopicghhaaRowsC
namespace Go.Proofs.Ytnamjnopicghhaa
open Go.RowKit M
open O.MO (Oq Pq rightP)
set_option linter.unusedVariables false
set_option linter.unusedSimpArgs false
attribute [local go_sem ↓] Go.wp_at_zero Go.wp_at_succ

section
variable {W0 : World} {us : List Th} {c : Nat} {p : Pq} {i l s f : Int} {wait taken : List Inp}
set_option maxHeartbeats 2000000 in
set_option maxRecDepth 100000 in
/-- Cell.Twin. -/
theorem ctwin_is (w : World) (hS : St W0 w (cel c p i l s f wait taken :: us)) (hw : wait.length ≤ 10000) (ht : taken.length ≤ 10000) (hos : p.os.length ≤ 1000) :
    Calls Try.prog 20 #[.pointer (some ⟨c, 0, none⟩)] w fun e w' => ∃ c', e = .returned (.pointer (some ⟨c', 0, none⟩)) ∧ St W0 w' (cel c' p i l s f wait taken :: cel c p i l s f wait taken :: us) := by
  obtain ⟨v, b, vr, vt, hO0⟩ := hS.opn
  have hlen := rows_len p taken
  have hw' : Hid (wait.length ≤ 10000) := hw
  have ht' : Hid (taken.length ≤ 1000000) := Nat.le_trans ht (by decide)
  have hos' : Hid (p.os.length ≤ 1000) := hos
  have hb' : Hid ((stR p r0 taken).L.length ≤ 1000000) := by
    have h : (stR p r0 taken).L.length ≤ 1000000 := by omega
    exact h
  have hrl' : Hid ((rowsR p r0 taken).length ≤ 1000000) := by
    have h : (rowsR p r0 taken).length ≤ 1000000 := by omega
    exact h
  obtain ⟨va, vc, ev, _, _, _⟩ := (hO0.re [1, 0] 2).qv.1.len
  obtain ⟨ta, tc, et, _, _, _⟩ := (hO0.re [4, 0, 1, 2, 3] 5).qv.1.len
  obtain ⟨ra, rl, rc, er⟩ := own_slice (hO0.re [3, 0, 1, 2] 4).rw
  subst ev et er
  generalize hvl : wait.length = vl at *
  generalize htl0 : taken.length = tl at *
  have hO : Hid (St W0 w (cb c l s f (.slice va vl vc) b i (.slice ra rl rc) (.slice ta tl tc) :: inl (.slice va vl vc) wait :: rnt b p (stR p r0 taken) :: rwl (.slice ra rl rc) (rowsR p r0 taken) :: inl (.slice ta tl tc) taken :: us)) := hO0
  clear hO0 hS hlen hw ht hos
  rw [← hvl] at hw'
  rw [← htl0] at ht'
  clear hvl htl0
  go_enter Try.func20, Try.ntmps20
  go_upto_region 1 with fail
  refine wp_region_held_drew (S := fun X => Ckb X c l s f (.slice va vl vc) b i (.slice ra rl rc) (.slice ta tl tc)) (by kernel_rfl) hO.out.ck (fun hHeld => ?_)
  have hO1 : Hid (St W0 w.drew (cb c l s f (.slice va vl vc) b i (.slice ra rl rc) (.slice ta tl tc) :: inl (.slice va vl vc) wait :: rnt b p (stR p r0 taken) :: rwl (.slice ra rl rc) (rowsR p r0 taken) :: inl (.slice ta tl tc) taken :: us)) := hO.out.below (Below.refl _ _).drew
  clear hO
  generalize w.drew = V at hHeld hO1 ⊢
  refine take_at (i := 0) (v := .pointer (some ⟨c, 0, none⟩)) rfl rfl (by kernel_rfl) (by kernel_rfl) (by kernel_rfl) (fun _ _ _ h => h) (Or.inl ⟨by rfl, fun X _ => by go_simp⟩) hHeld ?_
  try simp only [Act.put, List.setIfInBounds_toArray, List.set_cons_zero, List.set_cons_succ]
  refine take_at (i := 1) (v := .pointer (some ⟨c, 0, none⟩)) rfl rfl (by kernel_rfl) (by kernel_rfl) (by kernel_rfl) (fun _ _ _ h => h) (Or.inl ⟨by rfl, fun X _ => by go_simp⟩) hHeld ?_
  try simp only [Act.put, List.setIfInBounds_toArray, List.set_cons_zero, List.set_cons_succ]
  refine take_at (i := 2) (v := .pointer (some ⟨c, 0, none⟩)) rfl rfl (by kernel_rfl) (by kernel_rfl) (by kernel_rfl) (fun _ _ _ h => h) (Or.inl ⟨by rfl, fun X _ => by go_simp⟩) hHeld ?_
  try simp only [Act.put, List.setIfInBounds_toArray, List.set_cons_zero, List.set_cons_succ]
  refine take_at (i := 3) (v := .agg #[.int .i64 l, .int .i64 s, .int .i64 f]) rfl rfl (by kernel_rfl) (by kernel_rfl) (by kernel_rfl) (fun _ _ _ h => h) (Or.inl ⟨by rfl, fun X hX => by have k0 := hX.c0; have k1 := hX.c1; have k2 := hX.c2; have k3 := hX.c3; have k4 := hX.c4; have k5 := hX.c5; have k6 := hX.c6; have k7 := hX.c7; go_simp⟩) hHeld ?_
  try simp only [Act.put, List.setIfInBounds_toArray, List.set_cons_zero, List.set_cons_succ]
  refine take_at (i := 4) (v := .pointer (some ⟨c, 0, none⟩)) rfl rfl (by kernel_rfl) (by kernel_rfl) (by kernel_rfl) (fun _ _ _ h => h) (Or.inl ⟨by rfl, fun X _ => by go_simp⟩) hHeld ?_
  try simp only [Act.put, List.setIfInBounds_toArray, List.set_cons_zero, List.set_cons_succ]
  refine take_at (i := 5) (v := .pointer (some ⟨c, 0, none⟩)) rfl rfl (by kernel_rfl) (by kernel_rfl) (by kernel_rfl) (fun _ _ _ h => h) (Or.inl ⟨by rfl, fun X _ => by go_simp⟩) hHeld ?_
  try simp only [Act.put, List.setIfInBounds_toArray, List.set_cons_zero, List.set_cons_succ]
  refine take_at (i := 6) (v := .pointer (some ⟨c, 3, none⟩)) rfl rfl (by kernel_rfl) (by kernel_rfl) (by kernel_rfl) (fun _ _ _ h => h) (Or.inl ⟨by rfl, fun X _ => by go_simp⟩) hHeld ?_
  try simp only [Act.put, List.setIfInBounds_toArray, List.set_cons_zero, List.set_cons_succ]
  refine take_at (i := 7) (v := .agg #[.slice va vl vc]) rfl rfl (by kernel_rfl) (by kernel_rfl) (by kernel_rfl) (fun _ _ _ h => h) (Or.inl ⟨by rfl, fun X hX => by have k0 := hX.c0; have k1 := hX.c1; have k2 := hX.c2; have k3 := hX.c3; have k4 := hX.c4; have k5 := hX.c5; have k6 := hX.c6; have k7 := hX.c7; go_simp⟩) hHeld ?_
  try simp only [Act.put, List.setIfInBounds_toArray, List.set_cons_zero, List.set_cons_succ]
  refine take_at (i := 9) (v := .pointer (some ⟨c, 0, none⟩)) rfl rfl (by kernel_rfl) (by kernel_rfl) (by kernel_rfl) (fun _ _ _ h => h) (Or.inl ⟨by rfl, fun X _ => by go_simp⟩) hHeld ?_
  try simp only [Act.put, List.setIfInBounds_toArray, List.set_cons_zero, List.set_cons_succ]
  refine take_at (i := 10) (v := .pointer (some ⟨c, 0, none⟩)) rfl rfl (by kernel_rfl) (by kernel_rfl) (by kernel_rfl) (fun _ _ _ h => h) (Or.inl ⟨by rfl, fun X _ => by go_simp⟩) hHeld ?_
  try simp only [Act.put, List.setIfInBounds_toArray, List.set_cons_zero, List.set_cons_succ]
  refine take_at (i := 11) (v := .pointer (some ⟨c, 4, none⟩)) rfl rfl (by kernel_rfl) (by kernel_rfl) (by kernel_rfl) (fun _ _ _ h => h) (Or.inl ⟨by rfl, fun X _ => by go_simp⟩) hHeld ?_
  try simp only [Act.put, List.setIfInBounds_toArray, List.set_cons_zero, List.set_cons_succ]
  refine take_at (i := 12) (v := .pointer (some ⟨b, 0, none⟩)) rfl rfl (by kernel_rfl) (by kernel_rfl) (by kernel_rfl) (fun _ _ _ h => h) (Or.inl ⟨by rfl, fun X hX => by have k0 := hX.c0; have k1 := hX.c1; have k2 := hX.c2; have k3 := hX.c3; have k4 := hX.c4; have k5 := hX.c5; have k6 := hX.c6; have k7 := hX.c7; go_simp⟩) hHeld ?_
  try simp only [Act.put, List.setIfInBounds_toArray, List.set_cons_zero, List.set_cons_succ]
  refine take_at (i := 14) (v := .pointer (some ⟨c, 0, none⟩)) rfl rfl (by kernel_rfl) (by kernel_rfl) (by kernel_rfl) (fun _ _ _ h => h) (Or.inl ⟨by rfl, fun X _ => by go_simp⟩) hHeld ?_
  try simp only [Act.put, List.setIfInBounds_toArray, List.set_cons_zero, List.set_cons_succ]
  refine take_at (i := 15) (v := .pointer (some ⟨c, 0, none⟩)) rfl rfl (by kernel_rfl) (by kernel_rfl) (by kernel_rfl) (fun _ _ _ h => h) (Or.inl ⟨by rfl, fun X _ => by go_simp⟩) hHeld ?_
  try simp only [Act.put, List.setIfInBounds_toArray, List.set_cons_zero, List.set_cons_succ]
  refine take_at (i := 16) (v := .pointer (some ⟨c, 5, none⟩)) rfl rfl (by kernel_rfl) (by kernel_rfl) (by kernel_rfl) (fun _ _ _ h => h) (Or.inl ⟨by rfl, fun X _ => by go_simp⟩) hHeld ?_
  try simp only [Act.put, List.setIfInBounds_toArray, List.set_cons_zero, List.set_cons_succ]
  refine take_at (i := 17) (v := .int .i64 i) rfl rfl (by kernel_rfl) (by kernel_rfl) (by kernel_rfl) (fun _ _ _ h => h) (Or.inl ⟨by rfl, fun X hX => by have k0 := hX.c0; have k1 := hX.c1; have k2 := hX.c2; have k3 := hX.c3; have k4 := hX.c4; have k5 := hX.c5; have k6 := hX.c6; have k7 := hX.c7; go_simp⟩) hHeld ?_
  try simp only [Act.put, List.setIfInBounds_toArray, List.set_cons_zero, List.set_cons_succ]
  refine take_at (i := 18) (v := .pointer (some ⟨c, 0, none⟩)) rfl rfl (by kernel_rfl) (by kernel_rfl) (by kernel_rfl) (fun _ _ _ h => h) (Or.inl ⟨by rfl, fun X _ => by go_simp⟩) hHeld ?_
  try simp only [Act.put, List.setIfInBounds_toArray, List.set_cons_zero, List.set_cons_succ]
  refine take_at (i := 19) (v := .pointer (some ⟨c, 0, none⟩)) rfl rfl (by kernel_rfl) (by kernel_rfl) (by kernel_rfl) (fun _ _ _ h => h) (Or.inl ⟨by rfl, fun X _ => by go_simp⟩) hHeld ?_
  try simp only [Act.put, List.setIfInBounds_toArray, List.set_cons_zero, List.set_cons_succ]
  refine take_at (i := 20) (v := .pointer (some ⟨c, 6, none⟩)) rfl rfl (by kernel_rfl) (by kernel_rfl) (by kernel_rfl) (fun _ _ _ h => h) (Or.inl ⟨by rfl, fun X _ => by go_simp⟩) hHeld ?_
  try simp only [Act.put, List.setIfInBounds_toArray, List.set_cons_zero, List.set_cons_succ]
  refine take_at (i := 21) (v := .slice ra rl rc) rfl rfl (by kernel_rfl) (by kernel_rfl) (by kernel_rfl) (fun _ _ _ h => h) (Or.inl ⟨by rfl, fun X hX => by have k0 := hX.c0; have k1 := hX.c1; have k2 := hX.c2; have k3 := hX.c3; have k4 := hX.c4; have k5 := hX.c5; have k6 := hX.c6; have k7 := hX.c7; go_simp⟩) hHeld ?_
  try simp only [Act.put, List.setIfInBounds_toArray, List.set_cons_zero, List.set_cons_succ]
  refine take_at (i := 23) (v := .pointer (some ⟨c, 0, none⟩)) rfl rfl (by kernel_rfl) (by kernel_rfl) (by kernel_rfl) (fun _ _ _ h => h) (Or.inl ⟨by rfl, fun X _ => by go_simp⟩) hHeld ?_
  try simp only [Act.put, List.setIfInBounds_toArray, List.set_cons_zero, List.set_cons_succ]
  refine take_at (i := 24) (v := .pointer (some ⟨c, 0, none⟩)) rfl rfl (by kernel_rfl) (by kernel_rfl) (by kernel_rfl) (fun _ _ _ h => h) (Or.inl ⟨by rfl, fun X _ => by go_simp⟩) hHeld ?_
  try simp only [Act.put, List.setIfInBounds_toArray, List.set_cons_zero, List.set_cons_succ]
  refine take_at (i := 25) (v := .pointer (some ⟨c, 7, none⟩)) rfl rfl (by kernel_rfl) (by kernel_rfl) (by kernel_rfl) (fun _ _ _ h => h) (Or.inl ⟨by rfl, fun X _ => by go_simp⟩) hHeld ?_
  try simp only [Act.put, List.setIfInBounds_toArray, List.set_cons_zero, List.set_cons_succ]
  refine take_at (i := 26) (v := .slice ta tl tc) rfl rfl (by kernel_rfl) (by kernel_rfl) (by kernel_rfl) (fun _ _ _ h => h) (Or.inl ⟨by rfl, fun X hX => by have k0 := hX.c0; have k1 := hX.c1; have k2 := hX.c2; have k3 := hX.c3; have k4 := hX.c4; have k5 := hX.c5; have k6 := hX.c6; have k7 := hX.c7; go_simp⟩) hHeld ?_
  try simp only [Act.put, List.setIfInBounds_toArray, List.set_cons_zero, List.set_cons_succ]
  refine wpAnyH_ready (rs := [8]) (by kernel_rfl) (by simp) ?_
  refine AllReadyH.cons rfl (fun K hK => ?_) AllReadyH.nil
  rw [if_pos (by rfl)]
  go_wp2_with fail
  refine (qsplit_is (.slice va vl vc) wait _ (hO1.out.re [1, 0] 2).qv.1 (hO1.out.re [1, 0] 2).qv.2 (by have := hw'.out; omega)).mono ?_
  rintro e V2 ⟨u, rfl, hq, hb, hf⟩
  have hO2 : Hid (St W0 V2 (inl u wait :: cb c l s f (.slice va vl vc) b i (.slice ra rl rc) (.slice ta tl tc) :: inl (.slice va vl vc) wait :: rnt b p (stR p r0 taken) :: rwl (.slice ra rl rc) (rowsR p r0 taken) :: inl (.slice ta tl tc) taken :: us)) := hO1.out.newl hb hq (hO1.out.re [1, 0] 2).qv.2 hf
  obtain ⟨ua, uc, rfl, _, _, _⟩ := hq.len
  have hh : Ckb V2 c l s f (.slice va vl vc) b i (.slice ra rl rc) (.slice ta tl tc) := hHeld.call hb
  clear hO1 hHeld hb hq hf
  go_wp2_with fail
  refine hK.out _ _ (hh) (fun hHeld => ?_)
  clear hK K
  try simp only [Act.put, List.setIfInBounds_toArray, List.set_cons_zero, List.set_cons_succ]
  clear hh
  generalize wait.length = ul at *
  refine wpAnyH_ready (rs := [13]) (by kernel_rfl) (by simp) ?_
  refine AllReadyH.cons rfl (fun K hK => ?_) AllReadyH.nil
  rw [if_pos (by rfl)]
  go_wp2_with fail
  refine (rtwin_st b p (stR p r0 taken) _ (hO2.out.re [3, 0, 1, 2] 4) hb'.out hos'.out).mono ?_
  rintro e V3 ⟨b2, rfl, hO3, hb⟩
  have hO4 : Hid (St W0 V3 (rnt b2 p (stR p r0 taken) :: inl (.slice ua ul uc) wait :: cb c l s f (.slice va vl vc) b i (.slice ra rl rc) (.slice ta tl tc) :: inl (.slice va vl vc) wait :: rnt b p (stR p r0 taken) :: rwl (.slice ra rl rc) (rowsR p r0 taken) :: inl (.slice ta tl tc) taken :: us)) := hO3.re [0, 2, 3, 4, 1] 5
  have hh : Ckb V3 c l s f (.slice va vl vc) b i (.slice ra rl rc) (.slice ta tl tc) := hHeld.call hb
  clear hO2 hO3 hHeld hb
  go_wp2_with fail
  refine hK.out _ _ (hh) (fun hHeld => ?_)
  clear hK K
  try simp only [Act.put, List.setIfInBounds_toArray, List.set_cons_zero, List.set_cons_succ]
  clear hh
  refine wpAnyH_ready (rs := [22]) (by kernel_rfl) (by simp) ?_
  refine AllReadyH.cons rfl (fun K hK => ?_) AllReadyH.nil
  rw [if_pos (by rfl)]
  go_wp2_with fail
  refine (rcopy_is (.slice ra rl rc) (rowsR p r0 taken) _ (srcN_own (hO4.out.re [5, 0, 1, 2, 3, 4] 6).rw) hrl'.out).mono ?_
  rintro e V4 ⟨u2, rfl, hq, hb⟩
  have hO5 : Hid (St W0 V4 (rwl u2 (rowsR p r0 taken) :: rnt b2 p (stR p r0 taken) :: inl (.slice ua ul uc) wait :: cb c l s f (.slice va vl vc) b i (.slice ra rl rc) (.slice ta tl tc) :: inl (.slice va vl vc) wait :: rnt b p (stR p r0 taken) :: rwl (.slice ra rl rc) (rowsR p r0 taken) :: inl (.slice ta tl tc) taken :: us)) := hO4.out.newr hb hq (Nat.le_refl _)
  obtain ⟨xa, xl, xc, rfl⟩ := own_slice hq
  have hh : Ckb V4 c l s f (.slice va vl vc) b i (.slice ra rl rc) (.slice ta tl tc) := hHeld.call hb
  clear hO4 hHeld hb hq
  go_wp2_with fail
  refine hK.out _ _ (hh) (fun hHeld => ?_)
  clear hK K
  try simp only [Act.put, List.setIfInBounds_toArray, List.set_cons_zero, List.set_cons_succ]
  clear hh
  obtain ⟨qt, htl⟩ := (hO5.out.re [7, 0, 1, 2, 3, 4, 5, 6] 8).qv
  obtain ⟨qb, hrd, hx1, hx2⟩ := qt.rdi htl 0
  clear hx1 hx2 qt
  refine wpAnyH_ready (rs := [27]) (by kernel_rfl) (by simp) ?_
  refine AllReadyH.cons rfl (fun K hK => ?_) AllReadyH.nil
  rw [if_pos (by rfl)]
  go_wp2_with fail
  refine (ccopy_is (.slice ta tl tc) qb taken _ hrd ht'.out).mono ?_
  rintro e V5 ⟨u3, rfl, hq, hb, hf⟩
  have hO6 : Hid (St W0 V5 (inl u3 taken :: rwl (.slice xa xl xc) (rowsR p r0 taken) :: rnt b2 p (stR p r0 taken) :: inl (.slice ua ul uc) wait :: cb c l s f (.slice va vl vc) b i (.slice ra rl rc) (.slice ta tl tc) :: inl (.slice va vl vc) wait :: rnt b p (stR p r0 taken) :: rwl (.slice ra rl rc) (rowsR p r0 taken) :: inl (.slice ta tl tc) taken :: us)) := hO5.out.newl hb hq htl hf
  obtain ⟨ya, yc, rfl, _, _, _⟩ := hq.len
  have hh : Ckb V5 c l s f (.slice va vl vc) b i (.slice ra rl rc) (.slice ta tl tc) := hHeld.call hb
  clear hO5 hHeld hb hq hf htl hrd
  generalize taken.length = yl at *
  go_wp2_with fail
  refine hK.out _ _ (hh) (fun hHeld => ?_)
  clear hK K
  try simp only [Act.put, List.setIfInBounds_toArray, List.set_cons_zero, List.set_cons_succ]
  clear hh
  refine take_at (i := 28) (v := .agg #[.int .i64 l, .int .i64 s, .int .i64 f, .slice ua ul uc, .pointer (some ⟨b2, 0, none⟩), .int .i64 i, .slice xa xl xc, .slice ya yl yc]) rfl rfl (by kernel_rfl) (by kernel_rfl) (by kernel_rfl) (fun _ _ _ h => h) (Or.inl ⟨by rfl, fun X _ => by go_simp⟩) hHeld ?_
  try simp only [Act.put, List.setIfInBounds_toArray, List.set_cons_zero, List.set_cons_succ]
  refine wpAnyH_ready (rs := [29]) (by kernel_rfl) (by simp) ?_
  refine AllReadyH.cons rfl (fun K hK => ?_) AllReadyH.nil
  rw [if_pos (by rfl)]
  go_simp
  have hO7 : Hid (St W0 (V5.alloc (.cells #[.int .i64 l, .int .i64 s, .int .i64 f, .slice ua ul uc, .pointer (some ⟨b2, 0, none⟩), .int .i64 i, .slice xa xl xc, .slice ya yl yc] 49)) (cb V5.heap.size l s f (.slice ua ul uc) b2 i (.slice xa xl xc) (.slice ya yl yc) :: inl (.slice ya yl yc) taken :: rwl (.slice xa xl xc) (rowsR p r0 taken) :: rnt b2 p (stR p r0 taken) :: inl (.slice ua ul uc) wait :: cb c l s f (.slice va vl vc) b i (.slice ra rl rc) (.slice ta tl tc) :: inl (.slice va vl vc) wait :: rnt b p (stR p r0 taken) :: rwl (.slice ra rl rc) (rowsR p r0 taken) :: inl (.slice ta tl tc) taken :: us)) := hO6.out.newBlk _ _ rfl
  clear hO6
  refine hK.out _ _ (hHeld.call (below_alloc _ _)) (fun hHeld => ?_)
  clear hK K
  try simp only [Act.put, List.setIfInBounds_toArray, List.set_cons_zero, List.set_cons_succ]
  refine take_at (i := 30) (v := .pointer (some ⟨V5.heap.size, 0, none⟩)) rfl rfl (by kernel_rfl) (by kernel_rfl) (by kernel_rfl) (fun _ _ _ h => h) (Or.inl ⟨by rfl, fun X _ => by go_simp⟩) hHeld ?_
  try simp only [Act.put, List.setIfInBounds_toArray, List.set_cons_zero, List.set_cons_succ]
  refine wpAnyH_done (by kernel_rfl) ?_ _
  have h8 := (hO7.out.re [0, 4, 3, 2, 1] 5).cls
  have h9 := (h8.re [1, 2, 3, 4, 5, 0] 6).cls
  have h10 : Hid (St W0 _ _) := h9.sw
  clear h8 h9 hO7 hHeld
  go_wp2_with fail
  go_ret
  exact ⟨_, rfl, h10.out⟩
set_option maxHeartbeats 1000000 in
set_option maxRecDepth 100000 in
/-- cell.New of a right pipe. -/
theorem cnew_is (v : Value) (i m x : Int) (w : World) (hS : St W0 w us) (hv : OpsIn w v p.os) (hr : rightP p = true) (hl : p.os.length ≤ 1000) (hi : 0 ≤ i ∧ i ≤ 7) (hx : 0 ≤ m ∧ x = m ∨ m < 0 ∧ x = 0) :
    Calls Try.prog 9 #[.int .i64 i, .int .i64 m, O.pv v p.n p.s p.a p.k p.f] w fun e w' => ∃ c, e = .returned (.pointer (some ⟨c, 0, none⟩)) ∧ St W0 w' (cel c p i x 0 0 [] [] :: us) := by
  obtain ⟨os, n, sl, a, k, f⟩ := p
  simp only at hv hl ⊢
  obtain ⟨va, vl, vc, rfl⟩ := hv.form
  have hr' : Hid (rightP ⟨os, n, sl, a, k, f⟩ = true) := hr
  have hl' : Hid (os.length ≤ 1000) := hl
  have hx' : Hid (0 ≤ m ∧ x = m ∨ m < 0 ∧ x = 0) := hx
  obtain ⟨hi1, hi2⟩ := hi
  clear hr hl hx
  go_enter Try.func9, Try.ntmps9
  go_upto_region 1 with fail
  refine world_gen (fun W => Hid (O.Pik W w.heap.size (.slice va vl vc) n sl a k f) ∧ Hid (OpsIn W (.slice va vl vc) os) ∧ Hid (St W0 W us)) ⟨O.pik_new _ _ _ _ _ _ _, hv.below (below_alloc _ _), hS.below (below_alloc _ _)⟩ ?_
  clear hv hS
  rintro W ⟨k0, hv, hS⟩
  generalize w.heap.size = g0 at *
  have c0 := k0.out.c0
  have c1 := k0.out.c1
  have c2 := k0.out.c2
  have c3 := k0.out.c3
  have c4 := k0.out.c4
  have c5 := k0.out.c5
  go_wp2_with fail
  refine (rnew_st (.slice va vl vc) ⟨os, n, sl, a, k, f⟩ _ hS.out hv.out hr'.out hl'.out).mono ?_
  rintro e w1 ⟨b, rfl, hS1⟩
  have hS1' : Hid (St W0 w1 (rnt b ⟨os, n, sl, a, k, f⟩ r0 :: us)) := hS1
  clear c0 c1 c2 c3 c4 c5 k0 hv hS hS1
  go_wp2_with fail
  refine (qof_is m x _ hx'.out).mono ?_
  rintro e w2 ⟨rfl, hb2⟩
  have hS2 : Hid (St W0 (w2.alloc (.cells #[.int .i64 x, .int .i64 0, .int .i64 0, .slice none 0 0, .pointer (some ⟨b, 0, none⟩), .int .i64 i, .slice none 0 0, .slice none 0 0] 49)) (cb w2.heap.size x 0 0 (.slice none 0 0) b i (.slice none 0 0) (.slice none 0 0) :: rnt b ⟨os, n, sl, a, k, f⟩ r0 :: us)) := (hS1'.out.below hb2).newBlk _ _ rfl
  clear hS1' hb2
  have hfin : Hid (St W0 (w2.alloc (.cells #[.int .i64 x, .int .i64 0, .int .i64 0, .slice none 0 0, .pointer (some ⟨b, 0, none⟩), .int .i64 i, .slice none 0 0, .slice none 0 0] 49)) (cel w2.heap.size ⟨os, n, sl, a, k, f⟩ i x 0 0 [] [] :: us)) := by
    have h0 := hS2.out
    have h1 := h0.newl (Below.refl _ _) (qv_nil _) Labl.nil (fun k hk => by cases hk)
    have h2 := h1.newr (R := []) (Below.refl _ _) (World.ownsRow_nil _ _ _ _) (Nat.le_refl _)
    have h3 := h2.newl (Below.refl _ _) (qv_nil _) Labl.nil (fun k hk => by cases hk)
    have h4 : St W0 _ (cel w2.heap.size ⟨os, n, sl, a, k, f⟩ i x 0 0 [] [] :: us) := (h3.re [3, 0, 4, 1, 2] 5).cls
    exact h4
  clear hS2
  go_wp2_with fail
  go_ret
  exact ⟨_, rfl, hfin.out⟩
end
/-- cell.New of a number of no tenant. -/
theorem cnew_id (v : Value) (n s a k f : Int) (i m : Int) (w : World) (hi : i < 0 ∨ 8 ≤ i) :
    Calls Try.prog 9 #[.int .i64 i, .int .i64 m, O.pv v n s a k f] w fun e w' => e = .returned (.pointer none) ∧ Below w.heap.size w w' := by
  by_cases h0 : i < 0
  · clear hi
    go_enter Try.func9, Try.ntmps9
    go_wp2
    go_ret
    exact ⟨rfl, below_alloc _ _⟩
  · have h1 : 8 ≤ i := by omega
    clear hi
    go_enter Try.func9, Try.ntmps9
    go_wp2
    go_ret
    exact ⟨rfl, below_alloc _ _⟩
set_option maxHeartbeats 1000000 in
/-- cell.New of a pipe that isn't right. -/
theorem cnew_no (v : Value) (os : List Oq) (n s a k f : Int) (i m : Int) (w : World) (hv : OpsIn w v os) (hr : rightP ⟨os, n, s, a, k, f⟩ = false) (hi : 0 ≤ i ∧ i ≤ 7) :
    Calls Try.prog 9 #[.int .i64 i, .int .i64 m, O.pv v n s a k f] w fun e w' => e = .returned (.pointer none) ∧ Below w.heap.size w w' := by
  obtain ⟨hi1, hi2⟩ := hi
  obtain ⟨va, vl, vc, rfl⟩ := hv.form
  have hr' : Hid (rightP ⟨os, n, s, a, k, f⟩ = false) := hr
  clear hr
  go_enter Try.func9, Try.ntmps9
  go_upto_region 1 with fail
  refine world_gen (fun W => Hid (O.Pik W w.heap.size (.slice va vl vc) n s a k f) ∧ Hid (OpsIn W (.slice va vl vc) os) ∧ Hid (Below w.heap.size w W)) ⟨O.pik_new _ _ _ _ _ _ _, hv.below (below_alloc _ _), below_alloc _ _⟩ ?_
  clear hv
  rintro W ⟨k0, hv, hb⟩
  obtain ⟨g0, hg0⟩ : ∃ g, Hid (w.heap.size = g) := ⟨_, rfl⟩
  rw [hg0.out] at k0 hb ⊢
  have c0 := k0.out.c0
  have c1 := k0.out.c1
  have c2 := k0.out.c2
  have c3 := k0.out.c3
  have c4 := k0.out.c4
  have c5 := k0.out.c5
  go_wp2_with fail
  refine (new_no (.slice va vl vc) os n s a k f _ hv.out hr'.out).mono ?_
  rintro e w1 ⟨rfl, hb1⟩
  have hlt := k0.out.lt
  have hb2 : Hid (Below g0 w w1) := hb.out.trans (hb1.mono (by omega))
  clear c0 c1 c2 c3 c4 c5 k0 hv hb hb1
  go_wp2_with fail
  go_ret
  exact ⟨rfl, by rw [hg0.out]; exact hb2.out⟩
end Go.Proofs.Ytnamjnopicghhaa
