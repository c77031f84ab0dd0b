/- Runner.Twin. -/
import Derived.Test.YtnamjnopicghhaaRIn
namespace Go.Proofs.Ytnamjnopicghhaa
open Go.RowKit M
open O (RdO)
open O.MO (Oq Pq rightP)
set_option linter.unusedVariables false
set_option linter.unusedSimpArgs false
attribute [local go_sem ↓] Go.wp_at_zero Go.wp_at_succ

set_option maxHeartbeats 1000000 in
set_option maxRecDepth 100000 in
/-- Runner.Twin. -/
theorem twin_is (b q o g : Nat) (p : Pq) (r : Rs) (w : World) (hR : Rnr w b q o g p r) (hl : r.L.length ≤ 1000000) (hos : p.os.length ≤ 1000) :
    Calls Try.prog 45 #[.pointer (some ⟨b, 0, none⟩)] w fun e w' => ∃ b' q' o' g', e = .returned (.pointer (some ⟨b', 0, none⟩)) ∧ Rnr w' b' q' o' g' p r ∧ w.heap.size ≤ b' ∧ w.heap.size ≤ q' ∧ w.heap.size ≤ o' ∧ w.heap.size ≤ g' ∧ Below w.heap.size w w' := by
  obtain ⟨u, hk, hP, hO, hu, h1, h2, h3, h4, h5, h6, hot⟩ := hR
  obtain ⟨os, n, sl, ka, kk, f⟩ := p
  obtain ⟨m, l, s, L⟩ := r
  simp only at hk hP hO hl hos ⊢
  obtain ⟨ua, ul, uc, rfl⟩ := hO.form
  have hk' : Hid (Rnk w b m l s q (.slice ua ul uc) n sl ka kk f) := hk
  have hP' : Hid (Pan w q o n sl ka L) := hP
  have hO' : Hid (OpsIn w (.slice ua ul uc) os) := hO
  have hl' : Hid (L.length ≤ 1000000) := hl
  have hos' : Hid (os.length ≤ 1000) := hos
  have hlt := hk.lt
  clear hk hP hO hl hos
  go_enter Try.func45, Try.ntmps45
  go_upto_region 1 with fail
  refine wp_region_held_drew (S := fun X => Below w.heap.size w X) (by kernel_rfl) (Below.refl _ _).drew (fun hHeld => ?_)
  generalize w.drew = V at hHeld ⊢
  refine take_at (i := 0) (v := .pointer (some ⟨b, 0, none⟩)) rfl rfl (by kernel_rfl) (by kernel_rfl) (by kernel_rfl) (fun _ _ _ h => h) (Or.inl ⟨by rfl, fun X _ => by go_simp⟩) hHeld ?_
  try simp only [Act.put, List.setIfInBounds_toArray, List.set_cons_zero, List.set_cons_succ]
  refine take_at (i := 1) (v := .pointer (some ⟨b, 0, none⟩)) rfl rfl (by kernel_rfl) (by kernel_rfl) (by kernel_rfl) (fun _ _ _ h => h) (Or.inl ⟨by rfl, fun X _ => by go_simp⟩) hHeld ?_
  try simp only [Act.put, List.setIfInBounds_toArray, List.set_cons_zero, List.set_cons_succ]
  refine take_at (i := 2) (v := .pointer (some ⟨b, 0, none⟩)) rfl rfl (by kernel_rfl) (by kernel_rfl) (by kernel_rfl) (fun _ _ _ h => h) (Or.inl ⟨by rfl, fun X _ => by go_simp⟩) hHeld ?_
  try simp only [Act.put, List.setIfInBounds_toArray, List.set_cons_zero, List.set_cons_succ]
  refine take_at (i := 3) (v := .agg #[.int .i64 m, .int .i64 l, .int .i64 s]) rfl rfl (by kernel_rfl) (by kernel_rfl) (by kernel_rfl) (fun _ _ _ h => h) (Or.inl ⟨by rfl, fun X hX => by have h := hk'.out.keep (hX.block _ hlt); have c0 := h.c0; have c1 := h.c1; have c2 := h.c2; have c3 := h.c3; have c4 := h.c4; have c5 := h.c5; have c6 := h.c6; have c7 := h.c7; have c8 := h.c8; have c9 := h.c9; go_simp⟩) hHeld ?_
  try simp only [Act.put, List.setIfInBounds_toArray, List.set_cons_zero, List.set_cons_succ]
  refine take_at (i := 4) (v := .pointer (some ⟨b, 0, none⟩)) rfl rfl (by kernel_rfl) (by kernel_rfl) (by kernel_rfl) (fun _ _ _ h => h) (Or.inl ⟨by rfl, fun X _ => by go_simp⟩) hHeld ?_
  try simp only [Act.put, List.setIfInBounds_toArray, List.set_cons_zero, List.set_cons_succ]
  refine take_at (i := 5) (v := .pointer (some ⟨b, 0, none⟩)) rfl rfl (by kernel_rfl) (by kernel_rfl) (by kernel_rfl) (fun _ _ _ h => h) (Or.inl ⟨by rfl, fun X _ => by go_simp⟩) hHeld ?_
  try simp only [Act.put, List.setIfInBounds_toArray, List.set_cons_zero, List.set_cons_succ]
  refine take_at (i := 6) (v := .pointer (some ⟨b, 3, none⟩)) rfl rfl (by kernel_rfl) (by kernel_rfl) (by kernel_rfl) (fun _ _ _ h => h) (Or.inl ⟨by rfl, fun X _ => by go_simp⟩) hHeld ?_
  try simp only [Act.put, List.setIfInBounds_toArray, List.set_cons_zero, List.set_cons_succ]
  refine take_at (i := 7) (v := .pointer (some ⟨q, 0, none⟩)) rfl rfl (by kernel_rfl) (by kernel_rfl) (by kernel_rfl) (fun _ _ _ h => h) (Or.inl ⟨by rfl, fun X hX => by have h := hk'.out.keep (hX.block _ hlt); have c0 := h.c0; have c1 := h.c1; have c2 := h.c2; have c3 := h.c3; have c4 := h.c4; have c5 := h.c5; have c6 := h.c6; have c7 := h.c7; have c8 := h.c8; have c9 := h.c9; go_simp⟩) hHeld ?_
  try simp only [Act.put, List.setIfInBounds_toArray, List.set_cons_zero, List.set_cons_succ]
  refine take_at (i := 9) (v := .pointer (some ⟨b, 0, none⟩)) rfl rfl (by kernel_rfl) (by kernel_rfl) (by kernel_rfl) (fun _ _ _ h => h) (Or.inl ⟨by rfl, fun X _ => by go_simp⟩) hHeld ?_
  try simp only [Act.put, List.setIfInBounds_toArray, List.set_cons_zero, List.set_cons_succ]
  refine take_at (i := 10) (v := .pointer (some ⟨b, 0, none⟩)) rfl rfl (by kernel_rfl) (by kernel_rfl) (by kernel_rfl) (fun _ _ _ h => h) (Or.inl ⟨by rfl, fun X _ => by go_simp⟩) hHeld ?_
  try simp only [Act.put, List.setIfInBounds_toArray, List.set_cons_zero, List.set_cons_succ]
  refine take_at (i := 11) (v := .pointer (some ⟨b, 4, none⟩)) rfl rfl (by kernel_rfl) (by kernel_rfl) (by kernel_rfl) (fun _ _ _ h => h) (Or.inl ⟨by rfl, fun X _ => by go_simp⟩) hHeld ?_
  try simp only [Act.put, List.setIfInBounds_toArray, List.set_cons_zero, List.set_cons_succ]
  refine take_at (i := 12) (v := O.pv (.slice ua ul uc) n sl ka kk f) rfl rfl (by kernel_rfl) (by kernel_rfl) (by kernel_rfl) (fun _ _ _ h => h) (Or.inl ⟨by rfl, fun X hX => by have h := hk'.out.keep (hX.block _ hlt); have c0 := h.c0; have c1 := h.c1; have c2 := h.c2; have c3 := h.c3; have c4 := h.c4; have c5 := h.c5; have c6 := h.c6; have c7 := h.c7; have c8 := h.c8; have c9 := h.c9; go_simp⟩) hHeld ?_
  try simp only [Act.put, List.setIfInBounds_toArray, List.set_cons_zero, List.set_cons_succ]
  have hwV := hHeld.size
  refine wpAnyH_ready (rs := [8]) (by kernel_rfl) (by simp) ?_
  refine AllReadyH.cons rfl (fun K hK => ?_) AllReadyH.nil
  rw [if_pos (by rfl)]
  go_wp2_with fail
  refine (copy_is q o n sl ka L _ (hP'.out.below hHeld) hl'.out).mono ?_
  rintro e V2 ⟨o2, rfl, hP2, ho2, hb2⟩
  obtain ⟨q2, hq2⟩ : ∃ x, Hid (V.heap.size = x) := ⟨_, rfl⟩
  have hP2' : Hid (Pan V2 q2 o2 n sl ka L) := by rw [← hq2.out]; exact hP2
  have hb3 : Hid (Below w.heap.size w V2) := below_call hHeld hb2
  have hqw : w.heap.size ≤ q2 := by have := hq2.out; omega
  have how : w.heap.size ≤ o2 := by omega
  have hq2s : V.heap.size ≤ V2.heap.size := hb2.size
  clear hP2 hHeld hb2 ho2
  rw [hq2.out]
  go_wp2_with fail
  refine hK.out _ _ (hb3.out) (fun hHeld => ?_)
  clear hK K
  try simp only [Act.put, List.setIfInBounds_toArray, List.set_cons_zero, List.set_cons_succ]
  refine wpAnyH_ready (rs := [13]) (by kernel_rfl) (by simp) ?_
  refine AllReadyH.cons rfl (fun K hK => ?_) AllReadyH.nil
  rw [if_pos (by rfl)]
  go_wp2_with fail
  refine (copyOf_is (.slice ua ul uc) os n sl ka kk f _ (hO'.out.below hb3.out) hos'.out).mono ?_
  rintro e V3 ⟨u3, rfl, ho, hfr, hgt, hb4⟩
  obtain ⟨va, vl, vc, rfl⟩ := ho.form
  have hP3 : Hid (Pan V3 q2 o2 n sl ka L) := hP2'.out.below hb4
  have hb5 : Hid (Below w.heap.size w V3) := below_call hb3.out hb4
  have ho' : Hid (OpsIn V3 (.slice va vl vc) os) := ho
  have hfr' : Hid (∀ k, (Value.slice va vl vc).ownBlock = some k → V2.heap.size ≤ k) := hfr
  have hq3 : q2 < V2.heap.size := hP2'.out.lt
  have ho3 : o2 < V2.heap.size := hP2'.out.olt
  have hz3 : V2.heap.size ≤ V3.heap.size := hb4.size
  clear ho hfr hb4
  go_wp2_with fail
  refine hK.out _ _ (hb5.out) (fun hHeld => ?_)
  clear hK K
  try simp only [Act.put, List.setIfInBounds_toArray, List.set_cons_zero, List.set_cons_succ]
  refine take_at (i := 14) (v := .agg #[.int .i64 m, .int .i64 l, .int .i64 s, .pointer (some ⟨q2, 0, none⟩), .slice va vl vc, .int .i64 n, .int .i64 sl, .int .i64 ka, .int .i64 kk, .int .i64 f]) rfl rfl (by kernel_rfl) (by kernel_rfl) (by kernel_rfl) (fun _ _ _ h => h) (Or.inl ⟨by rfl, fun X _ => by go_simp⟩) hHeld ?_
  try simp only [Act.put, List.setIfInBounds_toArray, List.set_cons_zero, List.set_cons_succ]
  refine wpAnyH_ready (rs := [15]) (by kernel_rfl) (by simp) ?_
  refine AllReadyH.cons rfl (fun K hK => ?_) AllReadyH.nil
  rw [if_pos (by rfl)]
  go_simp
  refine hK.out _ _ (below_call hb5.out (below_alloc _ _)) (fun hHeld => ?_)
  clear hK K
  try simp only [Act.put, List.setIfInBounds_toArray, List.set_cons_zero, List.set_cons_succ]
  refine take_at (i := 16) (v := .pointer (some ⟨V3.heap.size, 0, none⟩)) rfl rfl (by kernel_rfl) (by kernel_rfl) (by kernel_rfl) (fun _ _ _ h => h) (Or.inl ⟨by rfl, fun X _ => by go_simp⟩) hHeld ?_
  try simp only [Act.put, List.setIfInBounds_toArray, List.set_cons_zero, List.set_cons_succ]
  refine wpAnyH_done (by kernel_rfl) ?_ _
  go_wp2_with fail
  go_ret
  obtain ⟨o4, ho4, hP4, hot4⟩ := (hP3.out.below (below_alloc V3 (.cells #[.int .i64 m, .int .i64 l, .int .i64 s, .pointer (some ⟨q2, 0, none⟩), .slice va vl vc, .int .i64 n, .int .i64 sl, .int .i64 ka, .int .i64 kk, .int .i64 f] 72))).ot
  obtain ⟨g2, hg1, hg2, hg3, hg4, hg5, hg6⟩ : ∃ g2, (∀ k, (Value.slice va vl vc).ownBlock = some k → k = g2) ∧ g2 ≠ V3.heap.size ∧ g2 ≠ q2 ∧ g2 ≠ o4 ∧ g2 < V3.heap.size ∧ w.heap.size ≤ g2 := by
    by_cases h : ∃ k, (Value.slice va vl vc).ownBlock = some k
    · obtain ⟨k, hk⟩ := h
      have h1 := hfr'.out k hk
      have h2 := ho'.out.lt k hk
      exact ⟨k, fun x hx => by rw [hk] at hx; injection hx with hx; exact hx.symm, by omega, by omega, by omega, by omega, by omega⟩
    · exact ⟨V2.heap.size, fun x hx => absurd ⟨x, hx⟩ h, by omega, by omega, by omega, by omega, by omega⟩
  refine ⟨V3.heap.size, q2, o4, g2, rfl, ⟨.slice va vl vc, ?_, hP4, ho'.out.below (below_alloc _ _), hg1, by omega, by omega, hg2, hg3, hg4, by simp; omega, hot4⟩, by omega, by omega, by omega, hg6, below_call hb5.out (below_alloc _ _)⟩
  show (V3.heap.push _)[V3.heap.size]? = _
  simp
end Go.Proofs.Ytnamjnopicghhaa
