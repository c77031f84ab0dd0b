/- runner.New, runner.copyOf, Runner.pass, Runner.see. -/
import Derived.Test.YtnamjnopicghhaaRnr
namespace Go.Proofs.Ytnamjnopicghhaa
open Go.RowKit M
open O (RdO)
open O.MO (Oq Pq rightP)
set_option linter.unusedVariables false
set_option linter.unusedSimpArgs false
attribute [local go_sem ↓] Go.wp_at_zero Go.wp_at_succ

theorem heap_set6 (w : World) (b x : Nat) (v : Value) (n s a k f : Int) (h : x ≠ b) : (O.set6 w b v n s a k f).heap[x]? = w.heap[x]? := by
  unfold O.set6
  rw [Below.heap_setCell _ _ _ _ h, Below.heap_setCell _ _ _ _ h, Below.heap_setCell _ _ _ _ h, Below.heap_setCell _ _ _ _ h, Below.heap_setCell _ _ _ _ h, Below.heap_setCell _ _ _ _ h]
theorem own_slice {w : World} {B : Nat} {e : TypeId} {size n : Nat} {v : Value} {xs : List Value} (h : w.ownsRow B e size v n xs) : ∃ a l c, v = .slice a l c := by
  obtain ⟨_, h | ⟨g, cap, cur, rfl, _⟩⟩ := h
  · exact ⟨_, _, _, h.1⟩
  · exact ⟨_, _, _, rfl⟩
set_option maxHeartbeats 1000000 in
set_option maxRecDepth 100000 in
/-- runner.copyOf. -/
theorem copyOf_is (v : Value) (os : List Oq) (n s a k f : Int) (w : World) (hv : OpsIn w v os) (hl : os.length ≤ 1000) :
    Calls Try.prog 51 #[O.pv v n s a k f] w fun e w' => ∃ u, e = .returned (O.pv u n s a k f) ∧ OpsIn w' u os ∧ (∀ k, u.ownBlock = some k → w.heap.size ≤ k) ∧ w.heap.size < w'.heap.size ∧ Below w.heap.size w w' := by
  obtain ⟨i0, hi, hz0, hz1, hz2⟩ := info_parts O.Try.info90
  have hv' : Hid (OpsIn w v os) := hv
  obtain ⟨va, vl, vc, rfl⟩ := hv.form
  clear hv
  go_enter Try.func51, Try.ntmps51
  go_upto_region 1 with fail
  refine world_gen (fun W => Hid (O.Pik W w.heap.size (.slice va vl vc) n s a k f) ∧ Hid (O.Pik W (w.heap.size + 1) (.slice none 0 0) 0 0 0 0 0) ∧ Hid (OpsIn W (.slice va vl vc) os) ∧ Hid (Below w.heap.size w W) ∧ W.heap.size = w.heap.size + 1 + 1) ⟨(O.pik_new _ _ _ _ _ _ _).alloc _, (by have h := O.pik_new (w.alloc (.cells #[.slice va vl vc, .int .i64 n, .int .i64 s, .int .i64 a, .int .i64 k, .int .i64 f] 26)) (.slice none 0 0) 0 0 0 0 0; simpa using h : O.Pik _ (w.heap.size + 1) (.slice none 0 0) 0 0 0 0 0), (hv'.out.below (below_alloc _ _)).below (below_alloc _ _), (below_alloc _ _).alloc (by simp) _, by simp⟩ ?_
  clear hv'
  rintro W ⟨k0, k1, hv, b0, hsz⟩
  obtain ⟨g0, hg0⟩ : ∃ g, Hid (w.heap.size = g) := ⟨_, rfl⟩
  obtain ⟨g1, hg1⟩ : ∃ g, Hid (w.heap.size + 1 = g) := ⟨_, rfl⟩
  rw [hg1.out] at k1 hsz ⊢
  rw [hg0.out] at k0 ⊢
  have hg01 : g0 < g1 := by have := hg0.out; have := hg1.out; omega
  have hw0 : w.heap.size = g0 := hg0.out
  have c0 := k0.out.c0
  have f0 := k0.out.free 0
  go_upto_region 2 with (at_builtin; refine wpList_append_srcN _ (by rfl) _ _ 24 rfl 2 W.heap.size 90 i0 _ 16 Try.underlying24 hi hz0 hz1 hz2 rfl (by decide) (.slice none 0 0) 0 [] rfl (World.ownsRow_nil _ _ _ _) (.slice va vl vc) os.length (O.opl os) rfl hv.out.src (O.opl_one os) (by unfold maxLen; omega) (by omega) (Nat.le_refl _) ?_; intro r' W5 o5 b5; obtain ⟨ra, rl, rc, rfl⟩ := own_slice o5; have j0 := k0.out.call b5; have j1 := k1.out.call b5; have d0 := j0.c0; have e0 := j0.free 0; clear c0 f0)
  have z0 : Hid (O.Pik (W5.setCell ⟨g0, 0, none⟩ (.slice ra rl rc)) g0 (.slice ra rl rc) n s a k f) := j0.set0 _
  have z1 : Hid (O.Pik (W5.setCell ⟨g0, 0, none⟩ (.slice ra rl rc)) g1 (.slice none 0 0) 0 0 0 0 0) := j1.heap (Below.heap_setCell _ _ _ _ (show g1 ≠ g0 by omega))
  have ho : OpsIn (W5.setCell ⟨g0, 0, none⟩ (.slice ra rl rc)) (.slice ra rl rc) os := by
    have o6 : W5.ownsRow W.heap.size 90 2 (.slice ra rl rc) os.length (O.opl os) := by simpa using o5
    have o7 : OpsIn W5 (.slice ra rl rc) os := ⟨O.own_base o6 (Nat.zero_le _), hv.out.2⟩
    refine o7.keep (fun x hx hl => Below.heap_setCell _ _ _ _ ?_)
    have := (o6.lt x hx).1
    show x ≠ g0
    omega
  have hown : ∀ x, (Value.slice ra rl rc).ownBlock = some x → g1 < x := fun x hx => by have := (o5.lt x hx).1; omega
  have hb : Hid (Below w.heap.size w (W5.setCell ⟨g0, 0, none⟩ (.slice ra rl rc))) := (b0.out.trans (b5.mono (by omega))).setCell (by show w.heap.size ≤ g0; omega) _
  have hown' : Hid (∀ x, (Value.slice ra rl rc).ownBlock = some x → g1 < x) := hown
  have ho' : Hid (OpsIn (W5.setCell ⟨g0, 0, none⟩ (.slice ra rl rc)) (.slice ra rl rc) os) := ho
  clear hown ho o5 b5 j0 j1 d0 e0 k0 k1 hv b0
  generalize W5.setCell ⟨g0, 0, none⟩ (.slice ra rl rc) = X at z0 z1 ho' hb ⊢
  have x0 := z0.out.c0
  have x1 := z0.out.c1
  have x2 := z0.out.c2
  have x3 := z0.out.c3
  have x4 := z0.out.c4
  have x5 := z0.out.c5
  have f0 := z1.out.free 0
  have f1 := z1.out.free 1
  have f2 := z1.out.free 2
  have f3 := z1.out.free 3
  have f4 := z1.out.free 4
  have f5 := z1.out.free 5
  have y0 := z1.out.c0
  have y1 := z1.out.c1
  have y2 := z1.out.c2
  have y3 := z1.out.c3
  have y4 := z1.out.c4
  have y5 := z1.out.c5
  go_wp2_with fail
  have q := z1.out.set6 (.slice ra rl rc) n s a k f
  have q0 := q.c0
  have q1 := q.c1
  have q2 := q.c2
  have q3 := q.c3
  have q4 := q.c4
  have q5 := q.c5
  refine bodyPost_ret (v := O.pv (.slice ra rl rc) n s a k f) (by simp [results, Try.results51, go_sem, q0, q1, q2, q3, q4, q5]) rfl ⟨_, rfl, ?_, fun x hx => by have := hown'.out x hx; omega, ?_, ?_⟩
  · refine ho'.out.keep (fun x hx hl => ?_)
    have := hown'.out x hx
    exact heap_set6 _ _ _ _ _ _ _ _ _ (by omega)
  · have h := z1.out.lt
    show w.heap.size < (O.set6 X g1 (.slice ra rl rc) n s a k f).heap.size
    have e : (O.set6 X g1 (.slice ra rl rc) n s a k f).heap.size = X.heap.size := by simp [O.set6, World.setCell]
    omega
  · exact O.below_set6 hb.out (by omega) _ _ _ _ _ _
/-- runner.New of a pipe that isn't right. -/
theorem new_no (v : Value) (os : List Oq) (n s a k f : Int) (w : World) (hv : OpsIn w v os) (hr : rightP ⟨os, n, s, a, k, f⟩ = false) :
    Calls Try.prog 31 #[O.pv v n s a k f] w fun e w' => e = .returned (.pointer none) ∧ Below w.heap.size w w' := by
  obtain ⟨va, vl, vc, rfl⟩ := hv.form
  have hrd : Hid (RdO w (.slice va vl vc) os) := hv.rd
  have hr' : Hid (rightP ⟨os, n, s, a, k, f⟩ = false) := hr
  clear hv hr
  go_enter Try.func31, Try.ntmps31
  go_upto_region 1 with fail
  refine world_gen (fun W => Hid (O.Pik W w.heap.size (.slice va vl vc) n s a k f) ∧ Hid (RdO W (.slice va vl vc) os) ∧ Below w.heap.size w W) ⟨O.pik_new _ _ _ _ _ _ _, hrd.out.call (below_alloc _ _), below_alloc _ _⟩ ?_
  clear hrd
  rintro W ⟨k0, hrd, b0⟩
  obtain ⟨g0, hg0⟩ : ∃ g, Hid (w.heap.size = g) := ⟨_, rfl⟩
  rw [hg0.out] at k0 ⊢
  have c0 := k0.out.c0
  have c1 := k0.out.c1
  have c2 := k0.out.c2
  have c3 := k0.out.c3
  have c4 := k0.out.c4
  have c5 := k0.out.c5
  go_wp2_with fail
  refine (O.pright_is (.slice va vl vc) os n s a k f false _ hrd.out hr'.out).mono ?_
  rintro e W1 ⟨rfl, b1⟩
  have hb : Below g0 w W1 := by rw [← hg0.out]; exact below_call b0 b1
  clear c0 c1 c2 c3 c4 c5
  go_wp2_with fail
  go_ret
  exact ⟨rfl, hg0.out ▸ hb⟩
set_option maxHeartbeats 1000000 in
set_option maxRecDepth 100000 in
/-- runner.New of a right pipe. -/
theorem new_is (v : Value) (p : Pq) (w : World) (hv : OpsIn w v p.os) (hr : rightP p = true) (hl : p.os.length ≤ 1000) :
    Calls Try.prog 31 #[O.pv v p.n p.s p.a p.k p.f] w fun e w' => ∃ b q o g, e = .returned (.pointer (some ⟨b, 0, none⟩)) ∧ Rnr w' b q o g p ⟨0, 0, 0, []⟩ ∧ w.heap.size ≤ b ∧ w.heap.size ≤ q ∧ w.heap.size ≤ o ∧ w.heap.size ≤ g ∧ Below w.heap.size w w' := by
  obtain ⟨os, n, s, a, k, f⟩ := p
  simp only at hv hl ⊢
  obtain ⟨va, vl, vc, rfl⟩ := hv.form
  have hv' : Hid (OpsIn w (.slice va vl vc) os) := hv
  have hr' : Hid (rightP ⟨os, n, s, a, k, f⟩ = true) := hr
  have hl' : Hid (os.length ≤ 1000) := hl
  clear hv hr hl
  go_enter Try.func31, Try.ntmps31
  go_upto_region 1 with fail
  refine world_gen (fun W => Hid (O.Pik W w.heap.size (.slice va vl vc) n s a k f) ∧ Hid (OpsIn W (.slice va vl vc) os) ∧ Below w.heap.size w W ∧ W.heap.size = w.heap.size + 1) ⟨O.pik_new _ _ _ _ _ _ _, hv'.out.below (below_alloc _ _), below_alloc _ _, by simp⟩ ?_
  clear hv'
  rintro W ⟨k0, hv, b0, hsz⟩
  obtain ⟨g0, hg0⟩ : ∃ g, Hid (w.heap.size = g) := ⟨_, rfl⟩
  rw [hg0.out] at k0 hsz ⊢
  have c0 := k0.out.c0
  have c1 := k0.out.c1
  have c2 := k0.out.c2
  have c3 := k0.out.c3
  have c4 := k0.out.c4
  have c5 := k0.out.c5
  go_wp2_with fail
  refine (O.pright_is (.slice va vl vc) os n s a k f true _ hv.out.rd hr'.out).mono ?_
  rintro e W1 ⟨rfl, b1⟩
  have k1 : Hid (O.Pik W1 g0 (.slice va vl vc) n s a k f) := k0.out.call b1
  have hv1 : Hid (OpsIn W1 (.slice va vl vc) os) := hv.out.below b1
  have b2 : Hid (Below g0 w W1) := by
    have h : Below g0 w W1 := by rw [← hg0.out]; exact below_call b0 b1
    exact h
  have hz1 : g0 + 1 ≤ W1.heap.size := by have := b1.size; omega
  clear c0 c1 c2 c3 c4 c5 k0 hv b0 b1 hsz
  go_upto_region 3 with fail
  refine wp_region_held_drew (S := fun X => Below W1.heap.size W1 X) (by kernel_rfl) (Below.refl _ _).drew (fun hHeld => ?_)
  generalize W1.drew = V at hHeld ⊢
  refine take_at (i := 0) (v := .pointer (some ⟨g0, 1, none⟩)) rfl rfl (by kernel_rfl) (by kernel_rfl) (by kernel_rfl) (fun _ _ _ h => h) (Or.inl ⟨by rfl, fun X _ => by go_simp⟩) hHeld ?_
  try simp only [Act.put, List.setIfInBounds_toArray, List.set_cons_zero, List.set_cons_succ]
  refine take_at (i := 1) (v := .int .i64 n) rfl rfl (by kernel_rfl) (by kernel_rfl) (by kernel_rfl) (fun _ _ _ h => h) (Or.inl ⟨by rfl, fun X hX => by obtain h := k1.out.call hX; have c0 := h.c0; have c1 := h.c1; have c2 := h.c2; have c3 := h.c3; have c4 := h.c4; have c5 := h.c5; go_simp⟩) hHeld ?_
  try simp only [Act.put, List.setIfInBounds_toArray, List.set_cons_zero, List.set_cons_succ]
  refine take_at (i := 2) (v := .pointer (some ⟨g0, 2, none⟩)) rfl rfl (by kernel_rfl) (by kernel_rfl) (by kernel_rfl) (fun _ _ _ h => h) (Or.inl ⟨by rfl, fun X _ => by go_simp⟩) hHeld ?_
  try simp only [Act.put, List.setIfInBounds_toArray, List.set_cons_zero, List.set_cons_succ]
  refine take_at (i := 3) (v := .int .i64 s) rfl rfl (by kernel_rfl) (by kernel_rfl) (by kernel_rfl) (fun _ _ _ h => h) (Or.inl ⟨by rfl, fun X hX => by obtain h := k1.out.call hX; have c0 := h.c0; have c1 := h.c1; have c2 := h.c2; have c3 := h.c3; have c4 := h.c4; have c5 := h.c5; go_simp⟩) hHeld ?_
  try simp only [Act.put, List.setIfInBounds_toArray, List.set_cons_zero, List.set_cons_succ]
  refine take_at (i := 4) (v := .pointer (some ⟨g0, 3, none⟩)) rfl rfl (by kernel_rfl) (by kernel_rfl) (by kernel_rfl) (fun _ _ _ h => h) (Or.inl ⟨by rfl, fun X _ => by go_simp⟩) hHeld ?_
  try simp only [Act.put, List.setIfInBounds_toArray, List.set_cons_zero, List.set_cons_succ]
  refine take_at (i := 5) (v := .int .i64 a) rfl rfl (by kernel_rfl) (by kernel_rfl) (by kernel_rfl) (fun _ _ _ h => h) (Or.inl ⟨by rfl, fun X hX => by obtain h := k1.out.call hX; have c0 := h.c0; have c1 := h.c1; have c2 := h.c2; have c3 := h.c3; have c4 := h.c4; have c5 := h.c5; go_simp⟩) hHeld ?_
  try simp only [Act.put, List.setIfInBounds_toArray, List.set_cons_zero, List.set_cons_succ]
  refine take_at (i := 7) (v := O.pv (.slice va vl vc) n s a k f) rfl rfl (by kernel_rfl) (by kernel_rfl) (by kernel_rfl) (fun _ _ _ h => h) (Or.inl ⟨by rfl, fun X hX => by obtain h := k1.out.call hX; have c0 := h.c0; have c1 := h.c1; have c2 := h.c2; have c3 := h.c3; have c4 := h.c4; have c5 := h.c5; go_simp⟩) hHeld ?_
  try simp only [Act.put, List.setIfInBounds_toArray, List.set_cons_zero, List.set_cons_succ]
  have hWV : W1.heap.size ≤ V.heap.size := hHeld.size
  refine wpAnyH_ready (rs := [6]) (by kernel_rfl) (by simp) ?_
  refine AllReadyH.cons rfl (fun K hK => ?_) AllReadyH.nil
  rw [if_pos (by rfl)]
  go_wp2_with fail
  refine (pnew_is n s a _).mono ?_
  rintro e V2 ⟨rfl, hP, hb2⟩
  obtain ⟨q, hq⟩ : ∃ q, Hid (V.heap.size = q) := ⟨_, rfl⟩
  have hP2 : Hid (Pan V2 q q n s a []) := by rw [← hq.out]; exact hP
  have hb3 : Hid (Below W1.heap.size W1 V2) := below_call hHeld hb2
  clear hP hHeld hb2
  rw [hq.out]
  go_wp2_with fail
  refine hK.out _ _ (hb3.out) (fun hHeld => ?_)
  clear hK K
  try simp only [Act.put, List.setIfInBounds_toArray, List.set_cons_zero, List.set_cons_succ]
  refine wpAnyH_ready (rs := [8]) (by kernel_rfl) (by simp) ?_
  refine AllReadyH.cons rfl (fun K hK => ?_) AllReadyH.nil
  rw [if_pos (by rfl)]
  go_wp2_with fail
  refine (copyOf_is (.slice va vl vc) os n s a k f _ (hv1.out.below hb3.out) hl'.out).mono ?_
  rintro e V3 ⟨u, rfl, ho, hfr, hgt, hb4⟩
  obtain ⟨ua, ul, uc, rfl⟩ := ho.form
  have hP3 : Hid (Pan V3 q q n s a []) := hP2.out.below hb4
  have hb5 : Hid (Below W1.heap.size W1 V3) := below_call hb3.out hb4
  have ho' : Hid (OpsIn V3 (.slice ua ul uc) os) := ho
  have hfr' : Hid (∀ k, (Value.slice ua ul uc).ownBlock = some k → V2.heap.size ≤ k) := hfr
  have hq2 : q < V2.heap.size := hP2.out.lt
  have hz3 : V2.heap.size ≤ V3.heap.size := hb4.size
  clear ho hfr hb4
  go_wp2_with fail
  refine hK.out _ _ (hb5.out) (fun hHeld => ?_)
  clear hK K
  try simp only [Act.put, List.setIfInBounds_toArray, List.set_cons_zero, List.set_cons_succ]
  refine take_at (i := 9) (v := .agg #[.int .i64 0, .int .i64 0, .int .i64 0, .pointer (some ⟨q, 0, none⟩), .slice ua ul uc, .int .i64 n, .int .i64 s, .int .i64 a, .int .i64 k, .int .i64 f]) rfl rfl (by kernel_rfl) (by kernel_rfl) (by kernel_rfl) (fun _ _ _ h => h) (Or.inl ⟨by rfl, fun X _ => by go_simp⟩) hHeld ?_
  try simp only [Act.put, List.setIfInBounds_toArray, List.set_cons_zero, List.set_cons_succ]
  refine wpAnyH_ready (rs := [10]) (by kernel_rfl) (by simp) ?_
  refine AllReadyH.cons rfl (fun K hK => ?_) AllReadyH.nil
  rw [if_pos (by rfl)]
  go_simp
  refine hK.out _ _ (below_call hb5.out (below_alloc _ _)) (fun hHeld => ?_)
  clear hK K
  try simp only [Act.put, List.setIfInBounds_toArray, List.set_cons_zero, List.set_cons_succ]
  refine take_at (i := 11) (v := .pointer (some ⟨V3.heap.size, 0, none⟩)) rfl rfl (by kernel_rfl) (by kernel_rfl) (by kernel_rfl) (fun _ _ _ h => h) (Or.inl ⟨by rfl, fun X _ => by go_simp⟩) hHeld ?_
  try simp only [Act.put, List.setIfInBounds_toArray, List.set_cons_zero, List.set_cons_succ]
  refine wpAnyH_done (by kernel_rfl) ?_ _
  go_wp2_with fail
  go_ret
  have hw0 : w.heap.size = g0 := hg0.out
  have hVq : q < V3.heap.size := by omega
  have hqV : W1.heap.size ≤ q := by have := hq.out; omega
  obtain ⟨g, hg1, hg2, hg3, hg4, hg5⟩ : ∃ g, (∀ k, (Value.slice ua ul uc).ownBlock = some k → k = g) ∧ g ≠ V3.heap.size ∧ g ≠ q ∧ g < V3.heap.size ∧ w.heap.size ≤ g := by
    by_cases h : ∃ k, (Value.slice ua ul uc).ownBlock = some k
    · obtain ⟨k, hk⟩ := h
      have h1 := hfr'.out k hk
      have h2 := ho'.out.lt k hk
      exact ⟨k, fun x hx => by rw [hk] at hx; injection hx with hx; exact hx.symm, by omega, by omega, h2, by omega⟩
    · exact ⟨g0, fun x hx => absurd ⟨x, hx⟩ h, by omega, by omega, by omega, by omega⟩
  refine ⟨V3.heap.size, q, q, g, rfl, ⟨.slice ua ul uc, ?_, hP3.out.below (below_alloc _ _), ho'.out.below (below_alloc _ _), hg1, by omega, by omega, hg2, hg3, hg3, by simp; omega, ?_⟩, by omega, by omega, by omega, hg5, ?_⟩
  · show (V3.heap.push _)[V3.heap.size]? = _
    simp
  · obtain ⟨v, hh, _⟩ := hP3.out.below (below_alloc V3 _)
    exact ⟨_, _, hh, .inr rfl⟩
  · have h1 : Below g0 w V3 := b2.out.trans (hb5.out.mono (by omega))
    rw [hw0]
    exact h1.alloc (by omega) _
end Go.Proofs.Ytnamjnopicghhaa
