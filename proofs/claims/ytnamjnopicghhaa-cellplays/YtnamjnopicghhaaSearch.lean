/- What slices.BinarySearchFunc answers over panes in their order. -/
import Derived.Test.YtnamjnopicghhaaFind
namespace Go.Proofs.Ytnamjnopicghhaa
open Go.RowKit M
set_option linter.unusedVariables false
attribute [local go_sem ↓] Go.wp_at_zero Go.wp_at_succ

theorem half (i j : Nat) (h : i < j) : ∃ m : Nat, i ≤ m ∧ m < j ∧ Hid (((i : Int) + (j : Int)) / 2 = (m : Int)) := by
  refine ⟨(i + j) / 2, by omega, by omega, ?_⟩
  show _ = _
  omega
set_option maxHeartbeats 1000000 in
set_option maxRecDepth 100000 in
/-- slices.BinarySearchFunc over panes. -/
theorem search_some (g cap : Nat) (K : Int) (L : List Pn) (s k : Int) (w : World) (P : Nat) (F : Bool) (hP : PRow w g cap K L) (hS : Srt L) (hm : L.length ≤ 1000000) (hpos : pos s k L = P) (hfnd : fnd s k L = F) :
    Calls Try.prog 89 #[.slice (some ⟨g, 0, none⟩) L.length cap, .agg #[.int .i64 s, .int .i64 k], .func (.func 90) #[] #[]] w fun e w' => e = .returned (.tuple #[.int .i64 P, .bool F]) ∧ Below w.heap.size w w' := by
  have hpos' : Hid (pos s k L = P) := hpos
  have hfnd' : Hid (fnd s k L = F) := hfnd
  have hS' : Hid (Srt L) := hS
  have hP' : Hid (PRow w g cap K L) := hP
  have hn1 : L.length ≤ cap := by obtain ⟨_, _, h, _⟩ := hP; exact h
  have hn2 : cap ≤ 9223372036854775807 := by obtain ⟨_, _, _, h, _⟩ := hP; unfold maxLen at h; omega
  clear hpos hfnd hS hP
  obtain ⟨n, hn⟩ : ∃ n, Hid (L.length = n) := ⟨_, rfl⟩
  rw [hn.out] at hn1 hm ⊢
  go_enter Try.func89, Try.ntmps89
  go_upto_region 1 with fail
  refine world_gen (fun W => Hid (PRow W g cap K L) ∧ Hid (Plc W w.heap.size s k) ∧ Below w.heap.size w W) ⟨hP'.out.below (below_alloc _ _), plc_new _ _ _, below_alloc _ _⟩ ?_
  clear hP'
  rintro W ⟨hP, hc, hbW⟩
  generalize w.heap.size = q at hc ⊢
  go_wp2_with fail
  go_loopw [9, 10] (fun a c wr => ∃ i j : Nat, i ≤ j ∧ j ≤ n ∧ a = .int .i64 i ∧ c = .int .i64 j ∧ Hid (∀ t, t < i → bef s k (pAt L t) = true) ∧ Hid (∀ t, j ≤ t → t < n → bef s k (pAt L t) = false) ∧ Below W.heap.size W wr) (fun a c _ => (intOf c - intOf a).toNat)
  case atStart => exact ⟨0, n, Nat.zero_le _, Nat.le_refl _, rfl, rfl, fun t h => absurd h (Nat.not_lt_zero _), fun t h1 h2 => absurd h2 (by omega), Below.refl _ _⟩
  case round =>
    obtain ⟨i, j, hij, hjn, rfl, rfl, h1, h2, hbr⟩ := hrel
    by_cases hlt : i < j
    · obtain ⟨m, hm1, hm2, hme⟩ := half i j hlt
      obtain ⟨p, hp⟩ : ∃ p, Hid (pAt L m = p) := ⟨_, rfl⟩
      obtain ⟨r, hr⟩ : ∃ r, Hid (cmpP p s k = r) := ⟨_, rfl⟩
      have hbef : Hid (r < 0 ↔ bef s k (pAt L m) = true) := by
        have h := (cmpP_bef p s k).1
        rw [hr.out, ← hp.out] at h
        exact h
      go_upto_region 5 with fail
      rw [hme.out]
      refine wp_region_held_drew (S := fun X => Below W.heap.size W X) (by kernel_rfl) hbr.drew (fun hHeld => ?_)
      generalize wr.drew = V at hHeld ⊢
      have hmn : m < L.length := by rw [hn.out]; omega
      have hmn2 : ¬ n ≤ m := by omega
      refine take_at (i := 0) (v := .func (.func 90) #[] #[]) rfl rfl (by kernel_rfl) (by kernel_rfl) (by kernel_rfl) (fun _ _ _ h => h) (Or.inl ⟨by rfl, fun X _ => by go_simp⟩) hHeld ?_
      try simp only [Act.put, List.setIfInBounds_toArray, List.set_cons_zero, List.set_cons_succ]
      refine take_at (i := 1) (v := .slice (some ⟨g, 0, none⟩) n cap) rfl rfl (by kernel_rfl) (by kernel_rfl) (by kernel_rfl) (fun _ _ _ h => h) (Or.inl ⟨by rfl, fun X _ => by go_simp⟩) hHeld ?_
      try simp only [Act.put, List.setIfInBounds_toArray, List.set_cons_zero, List.set_cons_succ]
      refine take_at (i := 2) (v := .int .i64 (m : Int)) rfl rfl (by kernel_rfl) (by kernel_rfl) (by kernel_rfl) (fun _ _ _ h => h) (Or.inl ⟨by rfl, fun X _ => by go_simp⟩) hHeld ?_
      try simp only [Act.put, List.setIfInBounds_toArray, List.set_cons_zero, List.set_cons_succ]
      refine take_at (i := 3) (v := .pointer (some ⟨g, m * 6, none⟩)) rfl rfl (by kernel_rfl) (by kernel_rfl) (by kernel_rfl) (fun _ _ _ h => h) (Or.inl ⟨by rfl, fun X _ => by go_simp⟩) hHeld ?_
      try simp only [Act.put, List.setIfInBounds_toArray, List.set_cons_zero, List.set_cons_succ]
      refine take_at (i := 4) (v := pv K p) rfl rfl (by kernel_rfl) (by kernel_rfl) (by kernel_rfl) (fun _ _ _ h => h) (Or.inl ⟨by rfl, fun X hX => by obtain ⟨c0, c1, c2, c3, c4, c5⟩ := (hP.out.below hX).cells m hmn; rw [hp.out] at c0 c1 c2 c4 c5; go_simp; rfl⟩) hHeld ?_
      try simp only [Act.put, List.setIfInBounds_toArray, List.set_cons_zero, List.set_cons_succ]
      refine take_at (i := 5) (v := .agg #[.int .i64 s, .int .i64 k]) rfl rfl (by kernel_rfl) (by kernel_rfl) (by kernel_rfl) (fun _ _ _ h => h) (Or.inl ⟨by rfl, fun X hX => by obtain ⟨c0, c1⟩ := (hc.out.below hX).c; go_simp⟩) hHeld ?_
      try simp only [Act.put, List.setIfInBounds_toArray, List.set_cons_zero, List.set_cons_succ]
      refine wpAnyH_ready (rs := [6]) (by kernel_rfl) (by simp) ?_
      refine AllReadyH.cons rfl (fun KK hK => ?_) AllReadyH.nil
      rw [if_pos (by rfl)]
      go_wp2_with fail
      refine (compare_is K p s k r _ hr.out).mono ?_
      rintro e V2 ⟨rfl, hb⟩
      go_wp2_with fail
      refine hK.out _ _ (below_call hHeld hb) (fun hHeld => ?_)
      clear hK KK
      try simp only [Act.put, List.setIfInBounds_toArray, List.set_cons_zero, List.set_cons_succ]
      refine take_at (i := 7) (v := .bool (decide (r < 0))) rfl rfl (by kernel_rfl) (by kernel_rfl) (by kernel_rfl) (fun _ _ _ h => h) (Or.inl ⟨by rfl, fun X _ => by go_simp⟩) hHeld ?_
      try simp only [Act.put, List.setIfInBounds_toArray, List.set_cons_zero, List.set_cons_succ]
      refine wpAnyH_done (by kernel_rfl) ?_ _
      have hbr2 := hHeld
      clear hHeld hbr
      by_cases hneg : r < 0
      · have h1' : Hid (∀ t, t < m + 1 → bef s k (pAt L t) = true) := fun t ht => bef_down hS'.out (show t ≤ m by omega) hmn (hbef.out.1 hneg)
        clear hmn
        go_wp2_with fail
        go_roundw
        case rel => exact ⟨m + 1, j, by omega, hjn, by go_num, rfl, h1', h2, hbr2⟩
        case measure => simp [intOf]; omega
      · have h2' : Hid (∀ t, m ≤ t → t < n → bef s k (pAt L t) = false) := fun t ht htn => bef_up hS'.out ht (by rw [hn.out]; exact htn) (by
          cases e : bef s k (pAt L m) with
          | false => rfl
          | true => exact absurd (hbef.out.2 e) hneg)
        clear hmn
        go_wp2_with fail
        go_roundw
        case rel => exact ⟨i, m, hm1, by omega, rfl, rfl, h1, h2', hbr2⟩
        case measure => simp [intOf]; omega
    · obtain rfl : i = j := by omega
      have hpi : Hid (P = i) := by
        have h : P = i := by
          rw [← hpos'.out]
          exact pos_of s k L i (by rw [hn.out]; omega) h1.out (fun h => h2.out i (Nat.le_refl _) (by rw [← hn.out]; exact h))
        exact h
      by_cases hin : i < n
      · obtain ⟨p, hp⟩ : ∃ p, Hid (pAt L i = p) := ⟨_, rfl⟩
        obtain ⟨r, hr⟩ : ∃ r, Hid (cmpP p s k = r) := ⟨_, rfl⟩
        have hF : Hid ((r == 0) = F) := by
          have h : (r == 0) = F := by
            have h := (cmpP_bef p s k).2
            rw [hr.out] at h
            rw [← hfnd'.out, fnd_at s k L (by rw [hpos'.out, hpi.out, hn.out]; exact hin), hpos'.out, hpi.out, hp.out, Bool.eq_iff_iff, beq_iff_eq]
            exact h
          exact h
        have hin' : i < L.length := by rw [hn.out]; exact hin
        have hin2 : ¬ n ≤ i := by omega
        go_upto_region 8 with fail
        refine wp_region_held_drew (S := fun X => Below W.heap.size W X) (by kernel_rfl) hbr.drew (fun hHeld => ?_)
        generalize wr.drew = V at hHeld ⊢
        refine take_at (i := 0) (v := .int .i64 (i : Int)) rfl rfl (by kernel_rfl) (by kernel_rfl) (by kernel_rfl) (fun _ _ _ h => h) (Or.inl ⟨by rfl, fun X _ => by go_simp⟩) hHeld ?_
        try simp only [Act.put, List.setIfInBounds_toArray, List.set_cons_zero, List.set_cons_succ]
        refine take_at (i := 1) (v := .int .i64 (i : Int)) rfl rfl (by kernel_rfl) (by kernel_rfl) (by kernel_rfl) (fun _ _ _ h => h) (Or.inl ⟨by rfl, fun X _ => by go_simp⟩) hHeld ?_
        try simp only [Act.put, List.setIfInBounds_toArray, List.set_cons_zero, List.set_cons_succ]
        refine take_at (i := 2) (v := .int .i64 (n : Int)) rfl rfl (by kernel_rfl) (by kernel_rfl) (by kernel_rfl) (fun _ _ _ h => h) (Or.inl ⟨by rfl, fun X _ => by go_simp⟩) hHeld ?_
        try simp only [Act.put, List.setIfInBounds_toArray, List.set_cons_zero, List.set_cons_succ]
        refine take_at (i := 3) (v := .bool true) rfl rfl (by kernel_rfl) (by kernel_rfl) (by kernel_rfl) (fun _ _ _ h => h) (Or.inl ⟨by rfl, fun X _ => by go_simp⟩) hHeld ?_
        try simp only [Act.put, List.setIfInBounds_toArray, List.set_cons_zero, List.set_cons_succ]
        refine take_at (i := 4) (v := .bool true) rfl rfl (by kernel_rfl) (by kernel_rfl) (by kernel_rfl) (fun _ _ _ h => h) (Or.inl ⟨by rfl, fun X _ => by go_simp⟩) hHeld ?_
        try simp only [Act.put, List.setIfInBounds_toArray, List.set_cons_zero, List.set_cons_succ]
        refine take_at (i := 5) (v := .func (.func 90) #[] #[]) rfl rfl (by kernel_rfl) (by kernel_rfl) (by kernel_rfl) (fun _ _ _ h => h) (Or.inl ⟨by rfl, fun X _ => by go_simp⟩) hHeld ?_
        try simp only [Act.put, List.setIfInBounds_toArray, List.set_cons_zero, List.set_cons_succ]
        refine take_at (i := 6) (v := .slice (some ⟨g, 0, none⟩) n cap) rfl rfl (by kernel_rfl) (by kernel_rfl) (by kernel_rfl) (fun _ _ _ h => h) (Or.inl ⟨by rfl, fun X _ => by go_simp⟩) hHeld ?_
        try simp only [Act.put, List.setIfInBounds_toArray, List.set_cons_zero, List.set_cons_succ]
        refine take_at (i := 7) (v := .int .i64 (i : Int)) rfl rfl (by kernel_rfl) (by kernel_rfl) (by kernel_rfl) (fun _ _ _ h => h) (Or.inl ⟨by rfl, fun X _ => by go_simp⟩) hHeld ?_
        try simp only [Act.put, List.setIfInBounds_toArray, List.set_cons_zero, List.set_cons_succ]
        refine take_at (i := 8) (v := .pointer (some ⟨g, i * 6, none⟩)) rfl rfl (by kernel_rfl) (by kernel_rfl) (by kernel_rfl) (fun _ _ _ h => h) (Or.inl ⟨by rfl, fun X _ => by go_simp⟩) hHeld ?_
        try simp only [Act.put, List.setIfInBounds_toArray, List.set_cons_zero, List.set_cons_succ]
        refine take_at (i := 9) (v := pv K p) rfl rfl (by kernel_rfl) (by kernel_rfl) (by kernel_rfl) (fun _ _ _ h => h) (Or.inl ⟨by rfl, fun X hX => by obtain ⟨c0, c1, c2, c3, c4, c5⟩ := (hP.out.below hX).cells i hin'; rw [hp.out] at c0 c1 c2 c4 c5; go_simp; rfl⟩) hHeld ?_
        try simp only [Act.put, List.setIfInBounds_toArray, List.set_cons_zero, List.set_cons_succ]
        refine take_at (i := 10) (v := .agg #[.int .i64 s, .int .i64 k]) rfl rfl (by kernel_rfl) (by kernel_rfl) (by kernel_rfl) (fun _ _ _ h => h) (Or.inl ⟨by rfl, fun X hX => by obtain ⟨c0, c1⟩ := (hc.out.below hX).c; go_simp⟩) hHeld ?_
        try simp only [Act.put, List.setIfInBounds_toArray, List.set_cons_zero, List.set_cons_succ]
        refine wpAnyH_ready (rs := [11]) (by kernel_rfl) (by simp) ?_
        refine AllReadyH.cons rfl (fun KK hK => ?_) AllReadyH.nil
        rw [if_pos (by rfl)]
        go_wp2_with fail
        refine (compare_is K p s k r _ hr.out).mono ?_
        rintro e V2 ⟨rfl, hb⟩
        go_wp2_with fail
        refine hK.out _ _ (below_call hHeld hb) (fun hHeld => ?_)
        clear hK KK
        try simp only [Act.put, List.setIfInBounds_toArray, List.set_cons_zero, List.set_cons_succ]
        refine take_at (i := 12) (v := .bool (r == 0)) rfl rfl (by kernel_rfl) (by kernel_rfl) (by kernel_rfl) (fun _ _ _ h => h) (Or.inl ⟨by rfl, fun X _ => by go_simp⟩) hHeld ?_
        try simp only [Act.put, List.setIfInBounds_toArray, List.set_cons_zero, List.set_cons_succ]
        refine take_at (i := 13) (v := .bool (r == 0)) rfl rfl (by kernel_rfl) (by kernel_rfl) (by kernel_rfl) (fun _ _ _ h => h) (Or.inl ⟨by rfl, fun X _ => by go_simp⟩) hHeld ?_
        try simp only [Act.put, List.setIfInBounds_toArray, List.set_cons_zero, List.set_cons_succ]
        refine take_at (i := 14) (v := .int .i64 (i : Int)) rfl rfl (by kernel_rfl) (by kernel_rfl) (by kernel_rfl) (fun _ _ _ h => h) (Or.inl ⟨by rfl, fun X _ => by go_simp⟩) hHeld ?_
        try simp only [Act.put, List.setIfInBounds_toArray, List.set_cons_zero, List.set_cons_succ]
        refine take_at (i := 15) (v := .bool (r == 0)) rfl rfl (by kernel_rfl) (by kernel_rfl) (by kernel_rfl) (fun _ _ _ h => h) (Or.inl ⟨by rfl, fun X _ => by go_simp⟩) hHeld ?_
        try simp only [Act.put, List.setIfInBounds_toArray, List.set_cons_zero, List.set_cons_succ]
        refine wpAnyH_done (by kernel_rfl) ?_ _
        go_wp2_with fail
        go_ret2
        refine ⟨?_, below_call hbW hHeld⟩
        rw [hpi.out, hF.out]
        rfl
      · have hF : Hid (F = false) := by
          have h : F = false := by rw [← hfnd'.out]; exact fnd_out s k L (by rw [hpos'.out, hpi.out, hn.out]; omega)
          exact h
        go_upto_region 8 with fail
        refine wp_region_held_drew (S := fun X => Below W.heap.size W X) (by kernel_rfl) hbr.drew (fun hHeld => ?_)
        generalize wr.drew = V at hHeld ⊢
        refine take_at (i := 0) (v := .int .i64 (i : Int)) rfl rfl (by kernel_rfl) (by kernel_rfl) (by kernel_rfl) (fun _ _ _ h => h) (Or.inl ⟨by rfl, fun X _ => by go_simp⟩) hHeld ?_
        try simp only [Act.put, List.setIfInBounds_toArray, List.set_cons_zero, List.set_cons_succ]
        refine take_at (i := 1) (v := .int .i64 (i : Int)) rfl rfl (by kernel_rfl) (by kernel_rfl) (by kernel_rfl) (fun _ _ _ h => h) (Or.inl ⟨by rfl, fun X _ => by go_simp⟩) hHeld ?_
        try simp only [Act.put, List.setIfInBounds_toArray, List.set_cons_zero, List.set_cons_succ]
        refine take_at (i := 2) (v := .int .i64 (n : Int)) rfl rfl (by kernel_rfl) (by kernel_rfl) (by kernel_rfl) (fun _ _ _ h => h) (Or.inl ⟨by rfl, fun X _ => by go_simp⟩) hHeld ?_
        try simp only [Act.put, List.setIfInBounds_toArray, List.set_cons_zero, List.set_cons_succ]
        refine take_at (i := 3) (v := .bool false) rfl rfl (by kernel_rfl) (by kernel_rfl) (by kernel_rfl) (fun _ _ _ h => h) (Or.inl ⟨by rfl, fun X _ => by go_simp⟩) hHeld ?_
        try simp only [Act.put, List.setIfInBounds_toArray, List.set_cons_zero, List.set_cons_succ]
        refine take_at (i := 4) (v := .bool false) rfl rfl (by kernel_rfl) (by kernel_rfl) (by kernel_rfl) (fun _ _ _ h => h) (Or.inl ⟨by rfl, fun X _ => by go_simp⟩) hHeld ?_
        try simp only [Act.put, List.setIfInBounds_toArray, List.set_cons_zero, List.set_cons_succ]
        refine take_at (i := 5) (v := undef) rfl rfl (by kernel_rfl) (by kernel_rfl) (by kernel_rfl) (fun _ _ _ h => h) (Or.inr ⟨by rfl, rfl⟩) hHeld ?_
        try simp only [Act.put, List.setIfInBounds_toArray, List.set_cons_zero, List.set_cons_succ]
        refine take_at (i := 6) (v := undef) rfl rfl (by kernel_rfl) (by kernel_rfl) (by kernel_rfl) (fun _ _ _ h => h) (Or.inr ⟨by rfl, rfl⟩) hHeld ?_
        try simp only [Act.put, List.setIfInBounds_toArray, List.set_cons_zero, List.set_cons_succ]
        refine take_at (i := 7) (v := undef) rfl rfl (by kernel_rfl) (by kernel_rfl) (by kernel_rfl) (fun _ _ _ h => h) (Or.inr ⟨by rfl, rfl⟩) hHeld ?_
        try simp only [Act.put, List.setIfInBounds_toArray, List.set_cons_zero, List.set_cons_succ]
        refine take_at (i := 8) (v := undef) rfl rfl (by kernel_rfl) (by kernel_rfl) (by kernel_rfl) (fun _ _ _ h => h) (Or.inr ⟨by rfl, rfl⟩) hHeld ?_
        try simp only [Act.put, List.setIfInBounds_toArray, List.set_cons_zero, List.set_cons_succ]
        refine take_at (i := 9) (v := undef) rfl rfl (by kernel_rfl) (by kernel_rfl) (by kernel_rfl) (fun _ _ _ h => h) (Or.inr ⟨by rfl, rfl⟩) hHeld ?_
        try simp only [Act.put, List.setIfInBounds_toArray, List.set_cons_zero, List.set_cons_succ]
        refine take_at (i := 10) (v := undef) rfl rfl (by kernel_rfl) (by kernel_rfl) (by kernel_rfl) (fun _ _ _ h => h) (Or.inr ⟨by rfl, rfl⟩) hHeld ?_
        try simp only [Act.put, List.setIfInBounds_toArray, List.set_cons_zero, List.set_cons_succ]
        refine take_at (i := 11) (v := undef) rfl rfl (by kernel_rfl) (by kernel_rfl) (by kernel_rfl) (fun _ _ _ h => h) (Or.inr ⟨by rfl, rfl⟩) hHeld ?_
        try simp only [Act.put, List.setIfInBounds_toArray, List.set_cons_zero, List.set_cons_succ]
        refine take_at (i := 12) (v := undef) rfl rfl (by kernel_rfl) (by kernel_rfl) (by kernel_rfl) (fun _ _ _ h => h) (Or.inr ⟨by rfl, rfl⟩) hHeld ?_
        try simp only [Act.put, List.setIfInBounds_toArray, List.set_cons_zero, List.set_cons_succ]
        refine take_at (i := 13) (v := .bool false) rfl rfl (by kernel_rfl) (by kernel_rfl) (by kernel_rfl) (fun _ _ _ h => h) (Or.inl ⟨by rfl, fun X _ => by go_simp⟩) hHeld ?_
        try simp only [Act.put, List.setIfInBounds_toArray, List.set_cons_zero, List.set_cons_succ]
        refine take_at (i := 14) (v := .int .i64 (i : Int)) rfl rfl (by kernel_rfl) (by kernel_rfl) (by kernel_rfl) (fun _ _ _ h => h) (Or.inl ⟨by rfl, fun X _ => by go_simp⟩) hHeld ?_
        try simp only [Act.put, List.setIfInBounds_toArray, List.set_cons_zero, List.set_cons_succ]
        refine take_at (i := 15) (v := .bool false) rfl rfl (by kernel_rfl) (by kernel_rfl) (by kernel_rfl) (fun _ _ _ h => h) (Or.inl ⟨by rfl, fun X _ => by go_simp⟩) hHeld ?_
        try simp only [Act.put, List.setIfInBounds_toArray, List.set_cons_zero, List.set_cons_succ]
        refine wpAnyH_done (by kernel_rfl) ?_ _
        go_wp2_with fail
        go_ret2
        refine ⟨?_, below_call hbW hHeld⟩
        rw [hpi.out, hF.out]
        rfl
end Go.Proofs.Ytnamjnopicghhaa
