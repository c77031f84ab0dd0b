/- QueueRuns, walked. -/
import Derived.Test.YtmkdhgjnfnfliaaBook
namespace Go.Proofs.Ytmkdhgjnfnfliaa
open Go.RowKit
set_option linter.unusedVariables false
set_option linter.unusedSimpArgs false
attribute [local go_sem ↓] Go.wp_at_zero Go.wp_at_succ
abbrev ZZ : Inp := ⟨false, ⟨0, 0, 0, 0⟩⟩
theorem made_own {w0 : World} {B n : Nat} {v : Value} (h : w0.ownsRow B 37 5 v n ((madeCells #[Value.bool false, .int .i64 0, .int .i64 0, .int .i64 0, .int .u64 0] (n * 5)).toList)) : Qv w0 v (List.replicate n ZZ) := by
  rw [madeI] at h
  exact qv_own h
set_option maxHeartbeats 2000000 in
set_option maxRecDepth 100000 in
theorem runs_is (w : World) : Calls Try.prog 3 #[] w fun e w' => e = .returned (.bool true) ∧ Below w.heap.size w w' := by
  obtain ⟨i0, hi, hz0, hz1, hz2⟩ := info_parts Try.info37
  go_enter Try.func3, Try.ntmps3
  go_upto_region 2 with fail
  refine world_gen (fun W => Hid (St w W [(w.heap.size, .slice none 0 0, [])] [])) ((st_start w).newq0) ?_
  rintro W hS0
  obtain ⟨b, hb⟩ : ∃ b, Hid (w.heap.size = b) := ⟨_, rfl⟩
  rw [hb.out] at hS0 ⊢
  go_upto_region 3 with (at_make; refine wpList_make_full _ rfl _ _ 22 rfl W.heap.size 37 i0 (inv ⟨false, ⟨0, 0, 0, 0⟩⟩) 5 Try.underlying22 hi hz0 hz1 _ _ _ _ 2 rfl rfl (by omega) (by omega) (by rw [hz2]; omega) (by unfold maxLen; omega) (Nat.le_refl _) ?_; intro w0 hown0 hgrow0)
  have hS1 : Hid (St w w0 [(b, .slice none 0 0, [])] [(.slice (some ⟨W.heap.size, 0, none⟩) 2 2, [ZZ, ZZ])]) := hS0.out.newl ((Below.refl _ _).grown hgrow0 (Nat.le_refl _) (fun k hk => by cases hk)) (made_own hown0) (fun k hk => by simp only [Value.ownBlock, Option.some.injEq] at hk; omega)
  clear hS0 hown0 hgrow0 hi hz0 hz1 hz2
  obtain ⟨q1, hr1⟩ := hS1.out.hl.rdi
  go_wp2_with fail
  refine (push_is 3 _ q1 [ZZ, ZZ] _ hS1.out hr1 (by decide) [ZZ, ZZ] true (.inr ⟨by decide, rfl, rfl⟩)).mono ?_
  rintro e w2 ⟨rfl, v2, hS2'⟩
  have hS2 : Hid (St w w2 [(b, v2, [ZZ, ZZ])] [(.slice (some ⟨W.heap.size, 0, none⟩) 2 2, [ZZ, ZZ])]) := hS2'
  clear hS2' hS1 hr1
  obtain ⟨q2, hr2⟩ := hS2.out.hl.rdi
  go_wp2_with fail
  refine (push_is 3 _ q2 [ZZ, ZZ] _ hS2.out hr2 (by decide) [ZZ, ZZ] false (.inl ⟨by decide, rfl, rfl⟩)).mono ?_
  rintro e w3 ⟨rfl, v3, hS3'⟩
  have hS3 : Hid (St w w3 [(b, v3, [ZZ, ZZ])] [(.slice (some ⟨W.heap.size, 0, none⟩) 2 2, [ZZ, ZZ])]) := hS3'
  clear hS3' hS2 hr2
  go_wp2_with fail
  refine (pop_is 1 _ hS3.out (by decide) 1 (.inr (.inl ⟨by decide, by decide, rfl⟩))).mono ?_
  rintro e w4 ⟨u4, v4, rfl, hS4'⟩
  have hS4 : Hid (St w w4 [(b, v4, [ZZ])] [(.slice (some ⟨W.heap.size, 0, none⟩) 2 2, [ZZ, ZZ]), (u4, [ZZ])]) := hS4'.swapl
  clear hS4' hS3
  obtain ⟨a4, c4, e4, _⟩ := (hS4.out.l (u4, [ZZ]) (by simp)).len
  have e5 : u4 = .slice a4 1 c4 := e4
  subst e5
  clear e4
  obtain ⟨q4, hr4⟩ := hS4.out.hl.rdi
  go_wp2_with fail
  refine (push_is 3 _ q4 [ZZ, ZZ] _ hS4.out hr4 (by decide) [ZZ, ZZ, ZZ] true (.inr ⟨by decide, rfl, rfl⟩)).mono ?_
  rintro e w5 ⟨rfl, v5, hS5'⟩
  have hS5 : Hid (St w w5 [(b, v5, [ZZ, ZZ, ZZ])] [(.slice (some ⟨W.heap.size, 0, none⟩) 2 2, [ZZ, ZZ]), (.slice a4 1 c4, [ZZ])]) := hS5'
  clear hS5' hS4 hr4
  have c5 := hS5.out.hd.2.1.c
  go_wp2_with fail
  refine (waiting_is v5 [ZZ, ZZ, ZZ] _ hS5.out.hd.2.2).mono ?_
  rintro e w6 ⟨rfl, b6⟩
  have hf : Hid (Below w.heap.size w w6) := below_call hS5.out.b b6
  clear hS5 b6 c5
  go_wp2_with fail
  go_ret
  exact ⟨rfl, hf.out⟩
theorem queueRuns_walk (w : World) : Calls Try.prog 3 #[] w fun e w' => e = .returned (.bool true) ∧ Below w.heap.size w w' := runs_is w
end Go.Proofs.Ytmkdhgjnfnfliaa
