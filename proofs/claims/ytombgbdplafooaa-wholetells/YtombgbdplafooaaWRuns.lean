/- WholeRuns, walked. -/
import Derived.Test.YtombgbdplafooaaWhole
import Derived.Test.YtombgbdplafooaaRIn
import Derived.Deep.QuietTactic
import Derived.BigQuiet
namespace Go.Proofs.Ytombgbdplafooaa
open Go.RowKit M
open O (RdO Kpk Pik Small Ints)
open O.MO (Oq Pq rightP)
set_option linter.unusedVariables false
set_option linter.unusedSimpArgs false
attribute [local go_sem ↓] Go.wp_at_zero Go.wp_at_succ

abbrev wholeP : Pq := ⟨[], 10, 10, 2, -1, -1⟩
abbrev wholeI : List Inp := [⟨false, ⟨3, 0, 5, 1⟩⟩, ⟨false, ⟨12, 0, 1, 4⟩⟩, ⟨true, ⟨10, 0, 0, 8⟩⟩, ⟨true, ⟨20, 0, 0, 0⟩⟩]
abbrev wholeJ : List Inp := [⟨false, ⟨3, 0, 5, 1⟩⟩, ⟨false, ⟨12, 0, 1, 4⟩⟩, ⟨true, ⟨10, 0, 0, 8⟩⟩]
theorem whole_rows : (rowsR wholeP r0 wholeI).length = 2 := by decide
theorem whole_past : decide ((stR wholeP r0 wholeI).L = []) = true := by decide
theorem whole_rows3 : (rowsR wholeP r0 wholeJ).length = 1 := by decide
theorem whole_past3 : decide ((stR wholeP r0 wholeJ).L = []) = false := by decide
theorem whole_labs : labs wholeI = 5 := by decide
theorem own_len' {w : World} {B : Nat} {e : TypeId} {size n : Nat} {v : Value} {xs : List Value} (h : w.ownsRow B e size v n xs) : ∃ a c, v = .slice a n c := by
  obtain ⟨_, h | ⟨g, cap, cur, rfl, _⟩⟩ := h
  · rw [h.2]; exact ⟨_, _, h.1⟩
  · exact ⟨_, _, rfl⟩
theorem whole_right : rightP wholeP = true := by decide
set_option maxHeartbeats 4000000 in
set_option maxRecDepth 100000 in
theorem wholeRuns_walk (w : World) : Calls Try.prog 6 #[] w fun e w' => e = .returned (.bool true) ∧ Below w.heap.size w w' := by
  go_enter Try.func6, Try.ntmps6
  go_upto_region 3 with fail
  refine world_gen (fun W => Hid (O.Pik W w.heap.size (.slice none 0 0) 10 10 2 (-1) (-1)) ∧ Hid (RdI W (.slice (some ⟨w.heap.size + 1, 0, none⟩) 4 4) (w.heap.size + 1) wholeI) ∧ Hid (Below w.heap.size w W) ∧ w.heap.size + 1 < W.heap.size) ⟨?a1, ?a2, ?a3, ?a4⟩ ?_
  case a1 => exact (O.pik_new w (.slice none 0 0) 10 10 2 (-1) (-1)).call (below_alloc _ _)
  case a2 =>
    have h := rdi_lit (w.alloc (.cells #[.slice none 0 0, .int .i64 10, .int .i64 10, .int .i64 2, .int .i64 (-1), .int .i64 (-1)] 58)) wholeI (by decide) (by decide)
    rw [show (w.alloc (.cells #[.slice none 0 0, .int .i64 10, .int .i64 10, .int .i64 2, .int .i64 (-1), .int .i64 (-1)] 58)).heap.size = w.heap.size + 1 by simp] at h
    exact h
  case a3 => exact (below_alloc w _).trans ((below_alloc _ _).mono (by simp))
  case a4 => simp
  rintro W ⟨hP, hI, hB, hz⟩
  generalize hg0 : w.heap.size = g0 at hP hI hB hz ⊢
  have hg1 : Hid (w.heap.size = g0) := hg0
  clear hg0
  have hJ : Hid (RdI W (.slice (some ⟨g0 + 1, 0, none⟩) 3 4) (g0 + 1) wholeJ) := by
    obtain ⟨h1, h2, ao, cap, e, h3, h4, hc⟩ := hI.out
    injection e with e1 e2 e3
    subst e1 e3
    refine ⟨by decide, by decide, _, _, rfl, by decide, by decide, fun _ => ?_⟩
    obtain ⟨off, e, hb, hcell⟩ := hc (by decide)
    injection e with e
    injection e with e5 e6
    subst e6
    refine ⟨_, rfl, hb, fun j hj => ?_⟩
    have h := hcell j (Nat.lt_of_lt_of_le hj (by decide))
    have hj3 : j < 3 := hj
    have ej : iAt wholeJ j = iAt wholeI j := by
      match j, hj3 with
      | 0, _ => rfl
      | 1, _ => rfl
      | 2, _ => rfl
    rw [ej]
    exact h
  refine wp_region_held_drew (S := fun X => Below W.heap.size W X) (by kernel_rfl) (Below.refl _ _).drew (fun hHeld => ?_)
  generalize W.drew = V at hHeld ⊢
  refine take_at (i := 0) (v := O.pv (.slice none 0 0) 10 10 2 (-1) (-1)) rfl rfl (by kernel_rfl) (by kernel_rfl) (by kernel_rfl) (fun _ _ _ h => h) (Or.inl ⟨by rfl, fun X hX => by have h := hP.out.call hX; have c0 := h.c0; have c1 := h.c1; have c2 := h.c2; have c3 := h.c3; have c4 := h.c4; have c5 := h.c5; go_simp⟩) hHeld ?_
  try simp only [Act.put, List.setIfInBounds_toArray, List.set_cons_zero, List.set_cons_succ]
  refine take_at (i := 1) (v := .slice (some ⟨g0 + 1, 0, none⟩) 4 4) rfl rfl (by kernel_rfl) (by kernel_rfl) (by kernel_rfl) (fun _ _ _ h => h) (Or.inl ⟨by rfl, fun X _ => by go_simp⟩) hHeld ?_
  try simp only [Act.put, List.setIfInBounds_toArray, List.set_cons_zero, List.set_cons_succ]
  refine wpAnyH_ready (rs := [2]) (by kernel_rfl) (by simp) ?_
  refine AllReadyH.cons rfl (fun K hK => ?_) AllReadyH.nil
  rw [if_pos (by rfl)]
  go_wp2_with fail
  refine (wrows_is (.slice none 0 0) wholeP (.slice (some ⟨g0 + 1, 0, none⟩) 4 4) (g0 + 1) wholeI _ (opsIn_nil _) whole_right (by decide) (hI.out.below hHeld) (by have := hHeld.size; omega) (by decide)).mono ?_
  rintro e V2 ⟨u1, rfl, hu1, hb⟩
  rw [whole_rows] at hu1
  obtain ⟨ua1, uc1, rfl⟩ := own_len' hu1
  clear hu1
  have hHb := below_call hHeld hb
  clear hHeld hb
  go_wp2_with fail
  refine hK.out _ _ (hHb) (fun hHeld => ?_)
  clear hK K hHb
  try simp only [Act.put, List.setIfInBounds_toArray, List.set_cons_zero, List.set_cons_succ]
  refine take_at (i := 3) (v := .int .i64 2) rfl rfl (by kernel_rfl) (by kernel_rfl) (by kernel_rfl) (fun _ _ _ h => h) (Or.inl ⟨by rfl, fun X _ => by go_simp⟩) hHeld ?_
  try simp only [Act.put, List.setIfInBounds_toArray, List.set_cons_zero, List.set_cons_succ]
  refine take_at (i := 4) (v := .bool true) rfl rfl (by kernel_rfl) (by kernel_rfl) (by kernel_rfl) (fun _ _ _ h => h) (Or.inl ⟨by rfl, fun X _ => by go_simp⟩) hHeld ?_
  try simp only [Act.put, List.setIfInBounds_toArray, List.set_cons_zero, List.set_cons_succ]
  refine take_at (i := 5) (v := .bool true) rfl rfl (by kernel_rfl) (by kernel_rfl) (by kernel_rfl) (fun _ _ _ h => h) (Or.inl ⟨by rfl, fun X _ => by go_simp⟩) hHeld ?_
  try simp only [Act.put, List.setIfInBounds_toArray, List.set_cons_zero, List.set_cons_succ]
  refine take_at (i := 6) (v := O.pv (.slice none 0 0) 10 10 2 (-1) (-1)) rfl rfl (by kernel_rfl) (by kernel_rfl) (by kernel_rfl) (fun _ _ _ h => h) (Or.inl ⟨by rfl, fun X hX => by have h := hP.out.call hX; have c0 := h.c0; have c1 := h.c1; have c2 := h.c2; have c3 := h.c3; have c4 := h.c4; have c5 := h.c5; go_simp⟩) hHeld ?_
  try simp only [Act.put, List.setIfInBounds_toArray, List.set_cons_zero, List.set_cons_succ]
  refine take_at (i := 7) (v := .slice (some ⟨g0 + 1, 0, none⟩) 4 4) rfl rfl (by kernel_rfl) (by kernel_rfl) (by kernel_rfl) (fun _ _ _ h => h) (Or.inl ⟨by rfl, fun X _ => by go_simp⟩) hHeld ?_
  try simp only [Act.put, List.setIfInBounds_toArray, List.set_cons_zero, List.set_cons_succ]
  refine wpAnyH_ready (rs := [8]) (by kernel_rfl) (by simp) ?_
  refine AllReadyH.cons rfl (fun K hK => ?_) AllReadyH.nil
  rw [if_pos (by rfl)]
  go_wp2_with fail
  refine (wpast_is (.slice none 0 0) wholeP (.slice (some ⟨g0 + 1, 0, none⟩) 4 4) (g0 + 1) wholeI true _ (opsIn_nil _) whole_right (by decide) (hI.out.below hHeld) (by have := hHeld.size; omega) (by decide) whole_past).mono ?_
  rintro e V3 ⟨rfl, hb⟩
  have hHb := below_call hHeld hb
  clear hHeld hb
  go_wp2_with fail
  refine hK.out _ _ (hHb) (fun hHeld => ?_)
  clear hK K hHb
  try simp only [Act.put, List.setIfInBounds_toArray, List.set_cons_zero, List.set_cons_succ]
  refine take_at (i := 9) (v := .bool true) rfl rfl (by kernel_rfl) (by kernel_rfl) (by kernel_rfl) (fun _ _ _ h => h) (Or.inl ⟨by rfl, fun X _ => by go_simp⟩) hHeld ?_
  try simp only [Act.put, List.setIfInBounds_toArray, List.set_cons_zero, List.set_cons_succ]
  refine take_at (i := 10) (v := .bool true) rfl rfl (by kernel_rfl) (by kernel_rfl) (by kernel_rfl) (fun _ _ _ h => h) (Or.inl ⟨by rfl, fun X _ => by go_simp⟩) hHeld ?_
  try simp only [Act.put, List.setIfInBounds_toArray, List.set_cons_zero, List.set_cons_succ]
  refine take_at (i := 11) (v := O.pv (.slice none 0 0) 10 10 2 (-1) (-1)) rfl rfl (by kernel_rfl) (by kernel_rfl) (by kernel_rfl) (fun _ _ _ h => h) (Or.inl ⟨by rfl, fun X hX => by have h := hP.out.call hX; have c0 := h.c0; have c1 := h.c1; have c2 := h.c2; have c3 := h.c3; have c4 := h.c4; have c5 := h.c5; go_simp⟩) hHeld ?_
  try simp only [Act.put, List.setIfInBounds_toArray, List.set_cons_zero, List.set_cons_succ]
  refine take_at (i := 12) (v := .slice (some ⟨g0 + 1, 0, none⟩) 4 4) rfl rfl (by kernel_rfl) (by kernel_rfl) (by kernel_rfl) (fun _ _ _ h => h) (Or.inl ⟨by rfl, fun X _ => by go_simp⟩) hHeld ?_
  try simp only [Act.put, List.setIfInBounds_toArray, List.set_cons_zero, List.set_cons_succ]
  refine take_at (i := 13) (v := .slice (some ⟨g0 + 1, 0, none⟩) 3 4) rfl rfl (by kernel_rfl) (by kernel_rfl) (by kernel_rfl) (fun _ _ _ h => h) (Or.inl ⟨by rfl, fun X _ => by go_simp⟩) hHeld ?_
  try simp only [Act.put, List.setIfInBounds_toArray, List.set_cons_zero, List.set_cons_succ]
  refine wpAnyH_ready (rs := [14]) (by kernel_rfl) (by simp) ?_
  refine AllReadyH.cons rfl (fun K hK => ?_) AllReadyH.nil
  rw [if_pos (by rfl)]
  go_wp2_with fail
  refine (wrows_is (.slice none 0 0) wholeP (.slice (some ⟨g0 + 1, 0, none⟩) 3 4) (g0 + 1) wholeJ _ (opsIn_nil _) whole_right (by decide) (hJ.out.below hHeld) (by have := hHeld.size; omega) (by decide)).mono ?_
  rintro e V4 ⟨u2, rfl, hu2, hb⟩
  rw [whole_rows3] at hu2
  obtain ⟨ua2, uc2, rfl⟩ := own_len' hu2
  clear hu2
  have hHb := below_call hHeld hb
  clear hHeld hb
  go_wp2_with fail
  refine hK.out _ _ (hHb) (fun hHeld => ?_)
  clear hK K hHb
  try simp only [Act.put, List.setIfInBounds_toArray, List.set_cons_zero, List.set_cons_succ]
  refine take_at (i := 15) (v := .int .i64 1) rfl rfl (by kernel_rfl) (by kernel_rfl) (by kernel_rfl) (fun _ _ _ h => h) (Or.inl ⟨by rfl, fun X _ => by go_simp⟩) hHeld ?_
  try simp only [Act.put, List.setIfInBounds_toArray, List.set_cons_zero, List.set_cons_succ]
  refine take_at (i := 16) (v := .bool true) rfl rfl (by kernel_rfl) (by kernel_rfl) (by kernel_rfl) (fun _ _ _ h => h) (Or.inl ⟨by rfl, fun X _ => by go_simp⟩) hHeld ?_
  try simp only [Act.put, List.setIfInBounds_toArray, List.set_cons_zero, List.set_cons_succ]
  refine take_at (i := 17) (v := .bool true) rfl rfl (by kernel_rfl) (by kernel_rfl) (by kernel_rfl) (fun _ _ _ h => h) (Or.inl ⟨by rfl, fun X _ => by go_simp⟩) hHeld ?_
  try simp only [Act.put, List.setIfInBounds_toArray, List.set_cons_zero, List.set_cons_succ]
  refine take_at (i := 18) (v := .bool true) rfl rfl (by kernel_rfl) (by kernel_rfl) (by kernel_rfl) (fun _ _ _ h => h) (Or.inl ⟨by rfl, fun X _ => by go_simp⟩) hHeld ?_
  try simp only [Act.put, List.setIfInBounds_toArray, List.set_cons_zero, List.set_cons_succ]
  refine take_at (i := 19) (v := O.pv (.slice none 0 0) 10 10 2 (-1) (-1)) rfl rfl (by kernel_rfl) (by kernel_rfl) (by kernel_rfl) (fun _ _ _ h => h) (Or.inl ⟨by rfl, fun X hX => by have h := hP.out.call hX; have c0 := h.c0; have c1 := h.c1; have c2 := h.c2; have c3 := h.c3; have c4 := h.c4; have c5 := h.c5; go_simp⟩) hHeld ?_
  try simp only [Act.put, List.setIfInBounds_toArray, List.set_cons_zero, List.set_cons_succ]
  refine take_at (i := 20) (v := .slice (some ⟨g0 + 1, 0, none⟩) 4 4) rfl rfl (by kernel_rfl) (by kernel_rfl) (by kernel_rfl) (fun _ _ _ h => h) (Or.inl ⟨by rfl, fun X _ => by go_simp⟩) hHeld ?_
  try simp only [Act.put, List.setIfInBounds_toArray, List.set_cons_zero, List.set_cons_succ]
  refine take_at (i := 21) (v := .slice (some ⟨g0 + 1, 0, none⟩) 3 4) rfl rfl (by kernel_rfl) (by kernel_rfl) (by kernel_rfl) (fun _ _ _ h => h) (Or.inl ⟨by rfl, fun X _ => by go_simp⟩) hHeld ?_
  try simp only [Act.put, List.setIfInBounds_toArray, List.set_cons_zero, List.set_cons_succ]
  refine wpAnyH_ready (rs := [22]) (by kernel_rfl) (by simp) ?_
  refine AllReadyH.cons rfl (fun K hK => ?_) AllReadyH.nil
  rw [if_pos (by rfl)]
  go_wp2_with fail
  refine (wpast_is (.slice none 0 0) wholeP (.slice (some ⟨g0 + 1, 0, none⟩) 3 4) (g0 + 1) wholeJ false _ (opsIn_nil _) whole_right (by decide) (hJ.out.below hHeld) (by have := hHeld.size; omega) (by decide) whole_past3).mono ?_
  rintro e V5 ⟨rfl, hb⟩
  have hHb := below_call hHeld hb
  clear hHeld hb
  go_wp2_with fail
  refine hK.out _ _ (hHb) (fun hHeld => ?_)
  clear hK K hHb
  try simp only [Act.put, List.setIfInBounds_toArray, List.set_cons_zero, List.set_cons_succ]
  refine take_at (i := 23) (v := .bool true) rfl rfl (by kernel_rfl) (by kernel_rfl) (by kernel_rfl) (fun _ _ _ h => h) (Or.inl ⟨by rfl, fun X _ => by go_simp⟩) hHeld ?_
  try simp only [Act.put, List.setIfInBounds_toArray, List.set_cons_zero, List.set_cons_succ]
  refine take_at (i := 24) (v := .bool true) rfl rfl (by kernel_rfl) (by kernel_rfl) (by kernel_rfl) (fun _ _ _ h => h) (Or.inl ⟨by rfl, fun X _ => by go_simp⟩) hHeld ?_
  try simp only [Act.put, List.setIfInBounds_toArray, List.set_cons_zero, List.set_cons_succ]
  refine take_at (i := 25) (v := .bool true) rfl rfl (by kernel_rfl) (by kernel_rfl) (by kernel_rfl) (fun _ _ _ h => h) (Or.inl ⟨by rfl, fun X _ => by go_simp⟩) hHeld ?_
  try simp only [Act.put, List.setIfInBounds_toArray, List.set_cons_zero, List.set_cons_succ]
  refine take_at (i := 26) (v := .slice (some ⟨g0 + 1, 0, none⟩) 4 4) rfl rfl (by kernel_rfl) (by kernel_rfl) (by kernel_rfl) (fun _ _ _ h => h) (Or.inl ⟨by rfl, fun X _ => by go_simp⟩) hHeld ?_
  try simp only [Act.put, List.setIfInBounds_toArray, List.set_cons_zero, List.set_cons_succ]
  refine wpAnyH_ready (rs := [27]) (by kernel_rfl) (by simp) ?_
  refine AllReadyH.cons rfl (fun K hK => ?_) AllReadyH.nil
  rw [if_pos (by rfl)]
  go_wp2_with fail
  refine (labels_is (.slice (some ⟨g0 + 1, 0, none⟩) 4 4) (g0 + 1) wholeI _ (hI.out.below hHeld)).mono ?_
  rintro e V6 ⟨rfl, hb⟩
  have hHb := below_call hHeld hb
  clear hHeld hb
  go_wp2_with fail
  refine hK.out _ _ (hHb) (fun hHeld => ?_)
  clear hK K hHb
  try simp only [Act.put, List.setIfInBounds_toArray, List.set_cons_zero, List.set_cons_succ]
  refine take_at (i := 28) (v := .bool true) rfl rfl (by kernel_rfl) (by kernel_rfl) (by kernel_rfl) (fun _ _ _ h => h) (Or.inl ⟨by rfl, fun X _ => by rw [whole_labs]; go_simp⟩) hHeld ?_
  try simp only [Act.put, List.setIfInBounds_toArray, List.set_cons_zero, List.set_cons_succ]
  refine take_at (i := 29) (v := .bool true) rfl rfl (by kernel_rfl) (by kernel_rfl) (by kernel_rfl) (fun _ _ _ h => h) (Or.inl ⟨by rfl, fun X _ => by go_simp⟩) hHeld ?_
  try simp only [Act.put, List.setIfInBounds_toArray, List.set_cons_zero, List.set_cons_succ]
  refine take_at (i := 30) (v := .bool true) rfl rfl (by kernel_rfl) (by kernel_rfl) (by kernel_rfl) (fun _ _ _ h => h) (Or.inl ⟨by rfl, fun X _ => by go_simp⟩) hHeld ?_
  try simp only [Act.put, List.setIfInBounds_toArray, List.set_cons_zero, List.set_cons_succ]
  refine wpAnyH_done (by kernel_rfl) ?_ _
  go_wp2_with fail
  go_ret
  exact ⟨rfl, by rw [hg1.out]; exact hB.out.trans (hHeld.mono (by have := hB.out.size; have := hg1.out; omega))⟩
end Go.Proofs.Ytombgbdplafooaa
