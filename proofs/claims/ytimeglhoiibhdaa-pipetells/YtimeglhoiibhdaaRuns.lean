/- The closed sentence PipeRuns, for every memory. -/
import Derived.Test.YtimeglhoiibhdaaLits
namespace Go.Proofs.Ytimeglhoiibhdaa
open Go.RowKit M
def p0 : Pq := ⟨[⟨1, 1⟩], 10, 5, 2, -1, -1⟩
theorem p0_right : rightP p0 = true := by decide
theorem p0_fits : PFits p0 := by
  refine ⟨?_, ?_, ?_, ?_, ?_, ?_⟩
  · intro o ho
    rw [List.mem_singleton.1 ho]
    exact ⟨⟨by decide, by decide⟩, ⟨by decide, by decide⟩⟩
  all_goals exact ⟨by decide, by decide⟩
theorem p0_put : put [10, 5, 2, -1, -1, 1, 1, 1] = [20, 10, 4, 1, 1, 2, 2, 2] := by
  simp [put, zz, leb_small]
theorem p0_enc : enc p0 = [20, 10, 4, 1, 1, 2, 2, 2] := by rw [enc_of p0_right]; exact p0_put
set_option maxHeartbeats 1000000 in
set_option maxRecDepth 100000 in
theorem pipeRuns_walk (w : World) :
    Calls Try.prog 3 #[] w fun e w' => e = .returned (.bool true) ∧ Below w.heap.size w w' := by
  go_enter Try.func3, Try.ntmps3
  go_upto_region 2 with fail
  refine world_gen (fun W => Pik W (w.heap.size + 1) (.slice (some ⟨w.heap.size, 0, none⟩) 1 1) 10 5 2 (-1) (-1) ∧ Hid (RdO W (.slice (some ⟨w.heap.size, 0, none⟩) 1 1) p0.os) ∧ Below w.heap.size w W)
    ⟨by simpa using pik_new (w.alloc _) (.slice (some ⟨w.heap.size, 0, none⟩) 1 1) 10 5 2 (-1) (-1), (rdo_1 w 1 1 (by decide)).call (below_alloc _ _), bnew (below_alloc _ _) _⟩ ?_
  rintro W0 ⟨k0, r0, b0⟩
  obtain ⟨g, hg⟩ : ∃ g, Hid (w.heap.size + 1 = g) := ⟨_, rfl⟩
  rw [hg.out] at k0 ⊢
  obtain ⟨vo, hvo⟩ : ∃ v, Hid (Value.slice (some ⟨w.heap.size, 0, none⟩) 1 1 = v) := ⟨_, rfl⟩
  obtain ⟨go, hgo⟩ : ∃ g, Hid (w.heap.size = g) := ⟨_, rfl⟩
  rw [hgo.out] at k0 r0
  have c0 := k0.c0
  have c1 := k0.c1
  have c2 := k0.c2
  have c3 := k0.c3
  have c4 := k0.c4
  have c5 := k0.c5
  go_wp2_with fail
  refine (enc_any (.slice (some ⟨go, 0, none⟩) 1 1) p0 _ r0.out p0_fits).mono ?_
  rintro e w1 ⟨u, rfl, o1, b1⟩
  rw [p0_enc] at o1
  obtain ⟨ua, uc, rfl⟩ := own_some1 o1
  have ru : Hid (Rd .u8 w1 _ (toI [20, 10, 4, 1, 1, 2, 2, 2])) := rd_bv o1
  have k1 := k0.call b1
  have r1 : Hid (RdO w1 _ _) := r0.out.call b1
  have bb := bcall b0 b1
  clear o1 c0 c1 c2 c3 c4 c5 k0 r0 b0 b1
  go_wp2_with fail
  refine (dec_yes _ _ p0 _ ru.out p0_right p0_fits p0_put).mono ?_
  rintro e w2 ⟨x, rfl, o2, _, b2⟩
  obtain ⟨xa, xc, rfl⟩ := own_some2 o2
  have rx : Hid (RdO w2 _ p0.os) := rd_opl o2 rfl p0_fits.1
  have ru2 : Hid (Rd .u8 w2 _ _) := ru.out.call b2
  have k2 := k1.call b2
  have r2 : Hid (RdO w2 _ _) := r1.out.call b2
  have bb2 := bcall bb b2
  clear o2 k1 r1 bb b2 ru
  go_upto_region 4 with fail
  refine world_gen (fun W => Pik W g (.slice (some ⟨go, 0, none⟩) 1 1) 10 5 2 (-1) (-1) ∧ Pik W w2.heap.size (.slice xa 1 xc) 10 5 2 (-1) (-1) ∧ Hid (RdO W (.slice (some ⟨go, 0, none⟩) 1 1) p0.os) ∧ Hid (RdO W (.slice xa 1 xc) p0.os) ∧ Hid (Rd .u8 W (.slice ua 8 uc) (toI [20, 10, 4, 1, 1, 2, 2, 2])) ∧ Below w.heap.size w W)
    ⟨k2.alloc _, pik_new _ _ _ _ _ _ _, r2.out.call (below_alloc _ _), rx.out.call (below_alloc _ _), ru2.out.call (below_alloc _ _), bnew bb2 _⟩ ?_
  clear k2 r2 rx ru2 bb2
  rintro W3 ⟨k3, x3, r3, rx3, ru3, b3⟩
  generalize w2.heap.size = gx at x3 ⊢
  go_wp2_with fail
  refine (put_any _ [10, 5, 2, -1, -1, 1, 1, 1] _ (rd_lit W3 [10, 5, 2, -1, -1, 1, 1, 1] (by decide)) (nums_fits p0_fits (by decide)) (by decide)).mono ?_
  rintro e w4 ⟨u4, rfl, o4, b4⟩
  rw [p0_put] at o4
  have r4 := rd_bv o4
  have hb4 := bstep (Below.refl W3.heap.size W3) b4
  have k4 := k3.call hb4
  have x4 := x3.call hb4
  have ra4 : Hid (RdO w4 _ _) := r3.out.call hb4
  have rx4 : Hid (RdO w4 _ _) := rx3.out.call hb4
  have bb4 := bcall b3 hb4
  have ru4 := ru3.out.call hb4
  clear k3 x3 r3 rx3 ru3 b3 hb4 b4 o4
  go_wp2_with fail
  refine (same_bytes _ _ [20, 10, 4, 1, 1, 2, 2, 2] [20, 10, 4, 1, 1, 2, 2, 2] _ true ru4 r4 (by decide)).mono ?_
  rintro e w5 ⟨rfl, b5⟩
  have k5 := k4.call b5
  have x5 := x4.call b5
  have ra5 : Hid (RdO w5 _ _) := ra4.out.call b5
  have rx5 : Hid (RdO w5 _ _) := rx4.out.call b5
  have bb5 := bcall bb4 b5
  clear k4 x4 ra4 rx4 bb4 ru4 r4 b5
  have c0 := k5.c0
  have c1 := k5.c1
  have c2 := k5.c2
  have c3 := k5.c3
  have c4 := k5.c4
  have c5 := k5.c5
  have d0 := x5.c0
  have d1 := x5.c1
  have d2 := x5.c2
  have d3 := x5.c3
  have d4 := x5.c4
  have d5 := x5.c5
  go_wp2_with fail
  refine (pipes_is _ _ p0 p0 true _ rx5.out ra5.out (by simp)).mono ?_
  rintro e w6 ⟨rfl, b6⟩
  have k6 := k5.call b6
  have x6 := x5.call b6
  have ra6 : Hid (RdO w6 _ _) := ra5.out.call b6
  have rx6 : Hid (RdO w6 _ _) := rx5.out.call b6
  have bb6 := bcall bb5 b6
  clear k5 x5 ra5 rx5 bb5 b6 c0 c1 c2 c3 c4 c5 d0 d1 d2 d3 d4 d5
  have c0 := k6.c0
  have c1 := k6.c1
  have c2 := k6.c2
  have c3 := k6.c3
  have c4 := k6.c4
  have c5 := k6.c5
  have d0 := x6.c0
  have d1 := x6.c1
  have d2 := x6.c2
  have d3 := x6.c3
  have d4 := x6.c4
  have d5 := x6.c5
  go_wp2_with fail
  refine (psame_is _ _ true _ (rdp_2 w6 _ _ p0 p0 ra6.out rx6.out) (by simp)).mono ?_
  rintro e w7 ⟨rfl, b7⟩
  have bb7 := bstep bb6 b7
  clear bb6 b7 c0 c1 c2 c3 c4 c5 d0 d1 d2 d3 d4 d5
  go_wp2_with fail
  refine (psame_is _ [] true _ (rdp_none w7) (by simp)).mono ?_
  rintro e w8 ⟨rfl, b8⟩
  go_wp2
  go_ret
  exact ⟨rfl, bcall bb7 b8⟩
end Go.Proofs.Ytimeglhoiibhdaa
