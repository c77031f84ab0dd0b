/- pipe.same and pipe.Same: are pipes the same? -/
import Derived.Test.YtimeglhoiibhdaaEqual
namespace Go.Proofs.Ytimeglhoiibhdaa
open Go.RowKit M
attribute [local go_sem ↓] Go.wp_at_zero Go.wp_at_succ
/-- Two arrays of five ints: are they the same? -/
theorem eq51 (n1 s1 a1 k1 f1 n2 s2 a2 k2 f2 : Int) (r : Bool) (w : World) (hr : r = true ↔ n1 = n2 ∧ s1 = s2 ∧ a1 = a2 ∧ k1 = k2 ∧ f1 = f2) :
    (Op.equalIn 10000 51 (av n1 s1 a1 k1 f1) (av n2 s2 a2 k2 f2)).run Try.prog w = .ok r w := by
  have u3 := Try.underlying3
  have a3 := Try.isAgg3
  have z3 := Try.sizeOf3
  rw [show (10000 : Nat) = 9999 + 1 from rfl, Op.equalIn]
  simp only [Sem.run_bind, run_underlying Try.underlying51, Result.andThen_ok]
  simp only [Std.Legacy.Range.forIn_eq_forIn_range', Std.Legacy.Range.size, Nat.sub_zero, Nat.add_sub_cancel, Nat.div_one, List.range'_succ, List.range'_zero, List.forIn_cons, List.forIn_nil]
  have e : r = (n1 == n2 && (s1 == s2 && (a1 == a2 && (k1 == k2 && f1 == f2)))) := by rw [Bool.eq_iff_iff, hr]; simp
  subst e
  clear hr
  go_simp
  by_cases h1 : n1 = n2 <;> by_cases h2 : s1 = s2 <;> by_cases h3 : a1 = a2 <;> by_cases h4 : k1 = k2 <;> by_cases h5 : f1 = f2 <;> simp [h1, h2, h3, h4, h5]
/-- What stays while pipe.same runs. -/
def Two (V : World) (g1 g2 : Nat) (v1 v2 : Value) (n1 s1 a1 k1 f1 n2 s2 a2 k2 f2 : Int) (w' : World) : Prop := Pik w' g1 v1 n1 s1 a1 k1 f1 ∧ Pik w' g2 v2 n2 s2 a2 k2 f2 ∧ Below V.heap.size V w'
theorem Two.call {V w1 w2 : World} {g1 g2 : Nat} {v1 v2 : Value} {n1 s1 a1 k1 f1 n2 s2 a2 k2 f2 : Int} (h : Two V g1 g2 v1 v2 n1 s1 a1 k1 f1 n2 s2 a2 k2 f2 w1) (b : Below w1.heap.size w1 w2) : Two V g1 g2 v1 v2 n1 s1 a1 k1 f1 n2 s2 a2 k2 f2 w2 :=
  ⟨h.1.call b, h.2.1.call b, bcall h.2.2 b⟩
set_option maxHeartbeats 4000000 in
set_option maxRecDepth 100000 in
/-- pipe.same. -/
theorem same1_is (v1 v2 : Value) (p q : Pq) (r : Bool) (w : World) (h1 : RdO w v1 p.os) (h2 : RdO w v2 q.os) (hr : r = true ↔ p = q) :
    Calls Try.prog 28 #[pv v1 p.n p.s p.a p.k p.f, pv v2 q.n q.s q.a q.k q.f] w fun e w' => e = .returned (.bool r) ∧ Below w.heap.size w w' := by
  rw [pq_eq] at hr
  obtain ⟨o1, n1, s1, a1, k1, f1⟩ := p
  obtain ⟨o2, n2, s2, a2, k2, f2⟩ := q
  simp only at h1 h2 hr ⊢
  obtain ⟨r1, hr1⟩ := bool_of (o1 = o2)
  obtain ⟨r2, hr2⟩ := bool_of (n1 = n2 ∧ s1 = s2 ∧ a1 = a2 ∧ k1 = k2 ∧ f1 = f2)
  have hR : Hid (r = (r2 && r1)) := by
    have h : r = (r2 && r1) := by rw [Bool.eq_iff_iff, Bool.and_eq_true, hr, hr1, hr2]; exact ⟨fun h => ⟨h.2, h.1⟩, fun h => ⟨h.2, h.1⟩⟩
    exact h
  have hr1' : Hid (r1 = true ↔ o1 = o2) := hr1
  have hr2' : Hid (r2 = true ↔ n1 = n2 ∧ s1 = s2 ∧ a1 = a2 ∧ k1 = k2 ∧ f1 = f2) := hr2
  clear hr hr1 hr2
  obtain ⟨ao1, cap1, rfl⟩ : ∃ ao cap, v1 = .slice ao o1.length cap := by obtain ⟨_, _, ao, cap, h, _⟩ := h1; exact ⟨ao, cap, h⟩
  obtain ⟨ao2, cap2, rfl⟩ : ∃ ao cap, v2 = .slice ao o2.length cap := by obtain ⟨_, _, ao, cap, h, _⟩ := h2; exact ⟨ao, cap, h⟩
  go_enter Try.func28, Try.ntmps28
  go_upto_region 1 with fail
  refine world_gen (fun W => Pik W w.heap.size (.slice ao1 o1.length cap1) n1 s1 a1 k1 f1 ∧ Pik W (w.heap.size + 1) (.slice ao2 o2.length cap2) n2 s2 a2 k2 f2 ∧ Hid (RdO W (.slice ao1 o1.length cap1) o1) ∧ Hid (RdO W (.slice ao2 o2.length cap2) o2) ∧ Below w.heap.size w W)
    ⟨(pik_new _ _ _ _ _ _ _).alloc _, by simpa using pik_new (w.alloc _) (.slice ao2 o2.length cap2) n2 s2 a2 k2 f2, (h1.call (below_alloc _ _)).call (below_alloc _ _), (h2.call (below_alloc _ _)).call (below_alloc _ _), bnew (below_alloc _ _) _⟩ ?_
  clear h1 h2
  rintro V ⟨ka, kb, h1, h2, b0⟩
  obtain ⟨L1, hL1⟩ : ∃ L, Hid (o1.length = L) := ⟨_, rfl⟩
  obtain ⟨L2, hL2⟩ : ∃ L, Hid (o2.length = L) := ⟨_, rfl⟩
  rw [hL1.out] at ka h1 ⊢
  rw [hL2.out] at kb h2 ⊢
  obtain ⟨g1, hg⟩ : ∃ g, Hid (w.heap.size = g) := ⟨_, rfl⟩
  obtain ⟨g2, hg2⟩ : ∃ g, Hid (w.heap.size + 1 = g) := ⟨_, rfl⟩
  rw [hg2.out] at kb ⊢
  rw [hg.out] at ka ⊢
  have hS : Two V g1 g2 (.slice ao1 L1 cap1) (.slice ao2 L2 cap2) n1 s1 a1 k1 f1 n2 s2 a2 k2 f2 V.drew := ⟨ka, kb, (Below.refl _ _).drew⟩
  go_cut [4] (fun q wx => q = .bool r ∧ Below V.heap.size V wx)
  case first =>
    refine wp_region_held_drew (S := Two V g1 g2 (.slice ao1 L1 cap1) (.slice ao2 L2 cap2) n1 s1 a1 k1 f1 n2 s2 a2 k2 f2) (by kernel_rfl) hS (fun hHeld => ?_)
    generalize V.drew = V1 at hHeld ⊢
    refine take_at (i := 0) (v := pv (.slice ao1 L1 cap1) n1 s1 a1 k1 f1) rfl rfl (by kernel_rfl) (by kernel_rfl) (by kernel_rfl) (fun _ _ _ h => h) (Or.inl ⟨by rfl, fun X hX => by obtain ⟨ka, kb, _⟩ := hX; have c0 := ka.c0; have c1 := ka.c1; have c2 := ka.c2; have c3 := ka.c3; have c4 := ka.c4; have c5 := ka.c5; have d0 := kb.c0; have d1 := kb.c1; have d2 := kb.c2; have d3 := kb.c3; have d4 := kb.c4; have d5 := kb.c5; go_simp⟩) hHeld ?_
    try simp only [Act.put, List.setIfInBounds_toArray, List.set_cons_zero, List.set_cons_succ]
    refine take_at (i := 2) (v := pv (.slice ao2 L2 cap2) n2 s2 a2 k2 f2) rfl rfl (by kernel_rfl) (by kernel_rfl) (by kernel_rfl) (fun _ _ _ h => h) (Or.inl ⟨by rfl, fun X hX => by obtain ⟨ka, kb, _⟩ := hX; have c0 := ka.c0; have c1 := ka.c1; have c2 := ka.c2; have c3 := ka.c3; have c4 := ka.c4; have c5 := ka.c5; have d0 := kb.c0; have d1 := kb.c1; have d2 := kb.c2; have d3 := kb.c3; have d4 := kb.c4; have d5 := kb.c5; go_simp⟩) hHeld ?_
    try simp only [Act.put, List.setIfInBounds_toArray, List.set_cons_zero, List.set_cons_succ]
    refine wpAnyH_ready (rs := [1]) (by kernel_rfl) (by simp) ?_
    refine AllReadyH.cons rfl (fun K hK => ?_) AllReadyH.nil
    rw [if_pos (by rfl)]
    go_wp2_with fail
    refine (numbers_is _ _ _ _ _ _ _).mono ?_
    rintro e w5 ⟨rfl, b5⟩
    go_wp2_with fail
    have hH5 := hHeld.call b5
    refine hK.out _ _ (hH5) (fun hHeld => ?_)
    clear hK K
    try simp only [Act.put, List.setIfInBounds_toArray, List.set_cons_zero, List.set_cons_succ]
    refine wpAnyH_ready (rs := [3]) (by kernel_rfl) (by simp) ?_
    refine AllReadyH.cons rfl (fun K hK => ?_) AllReadyH.nil
    rw [if_pos (by rfl)]
    go_wp2_with fail
    refine (numbers_is _ _ _ _ _ _ _).mono ?_
    rintro e w5 ⟨rfl, b5⟩
    go_wp2_with fail
    have hH5 := hHeld.call b5
    refine hK.out _ _ (hH5) (fun hHeld => ?_)
    clear hK K
    try simp only [Act.put, List.setIfInBounds_toArray, List.set_cons_zero, List.set_cons_succ]
    cases r2
    · obtain rfl : r = false := hR.out
      have hne : ¬ (n1 = n2 ∧ s1 = s2 ∧ a1 = a2 ∧ k1 = k2 ∧ f1 = f2) := fun h => absurd (hr2'.out.2 h) (by decide)
      refine take_at (i := 4) (v := .bool false) rfl rfl (by kernel_rfl) (by kernel_rfl) (by kernel_rfl) (fun _ _ _ h => h) (Or.inl ⟨by rfl, fun X _ => by have e := eq51 n1 s1 a1 k1 f1 n2 s2 a2 k2 f2 false X hr2'.out; go_simp⟩) hHeld ?_
      try simp only [Act.put, List.setIfInBounds_toArray, List.set_cons_zero, List.set_cons_succ]
      refine take_at (i := 5) (v := .bool false) rfl rfl (by kernel_rfl) (by kernel_rfl) (by kernel_rfl) (fun _ _ _ h => h) (Or.inl ⟨by rfl, fun X _ => by go_simp⟩) hHeld ?_
      try simp only [Act.put, List.setIfInBounds_toArray, List.set_cons_zero, List.set_cons_succ]
      refine take_at (i := 6) (v := undef) rfl rfl (by kernel_rfl) (by kernel_rfl) (by kernel_rfl) (fun _ _ _ h => h) (Or.inr ⟨by rfl, rfl⟩) hHeld ?_
      try simp only [Act.put, List.setIfInBounds_toArray, List.set_cons_zero, List.set_cons_succ]
      refine take_at (i := 7) (v := undef) rfl rfl (by kernel_rfl) (by kernel_rfl) (by kernel_rfl) (fun _ _ _ h => h) (Or.inr ⟨by rfl, rfl⟩) hHeld ?_
      try simp only [Act.put, List.setIfInBounds_toArray, List.set_cons_zero, List.set_cons_succ]
      refine take_at (i := 8) (v := undef) rfl rfl (by kernel_rfl) (by kernel_rfl) (by kernel_rfl) (fun _ _ _ h => h) (Or.inr ⟨by rfl, rfl⟩) hHeld ?_
      try simp only [Act.put, List.setIfInBounds_toArray, List.set_cons_zero, List.set_cons_succ]
      refine take_at (i := 9) (v := undef) rfl rfl (by kernel_rfl) (by kernel_rfl) (by kernel_rfl) (fun _ _ _ h => h) (Or.inr ⟨by rfl, rfl⟩) hHeld ?_
      try simp only [Act.put, List.setIfInBounds_toArray, List.set_cons_zero, List.set_cons_succ]
      refine take_at (i := 10) (v := undef) rfl rfl (by kernel_rfl) (by kernel_rfl) (by kernel_rfl) (fun _ _ _ h => h) (Or.inr ⟨by rfl, rfl⟩) hHeld ?_
      try simp only [Act.put, List.setIfInBounds_toArray, List.set_cons_zero, List.set_cons_succ]
      refine take_at (i := 11) (v := .bool false) rfl rfl (by kernel_rfl) (by kernel_rfl) (by kernel_rfl) (fun _ _ _ h => h) (Or.inl ⟨by rfl, fun X _ => by go_simp⟩) hHeld ?_
      try simp only [Act.put, List.setIfInBounds_toArray, List.set_cons_zero, List.set_cons_succ]
      refine take_at (i := 12) (v := .bool false) rfl rfl (by kernel_rfl) (by kernel_rfl) (by kernel_rfl) (fun _ _ _ h => h) (Or.inl ⟨by rfl, fun X _ => by go_simp⟩) hHeld ?_
      try simp only [Act.put, List.setIfInBounds_toArray, List.set_cons_zero, List.set_cons_succ]
      refine wpAnyH_done (by kernel_rfl) ?_ _
      go_wp2_with fail
      go_meet
      exact ⟨rfl, hHeld.2.2⟩
    · obtain rfl : r = r1 := by rw [hR.out]; rfl
      obtain ⟨rfl, rfl, rfl, rfl, rfl⟩ := hr2'.out.1 rfl
      refine take_at (i := 4) (v := .bool true) rfl rfl (by kernel_rfl) (by kernel_rfl) (by kernel_rfl) (fun _ _ _ h => h) (Or.inl ⟨by rfl, fun X _ => by have e := eq51 n1 s1 a1 k1 f1 n1 s1 a1 k1 f1 true X (by simp); go_simp⟩) hHeld ?_
      try simp only [Act.put, List.setIfInBounds_toArray, List.set_cons_zero, List.set_cons_succ]
      refine take_at (i := 5) (v := .bool true) rfl rfl (by kernel_rfl) (by kernel_rfl) (by kernel_rfl) (fun _ _ _ h => h) (Or.inl ⟨by rfl, fun X _ => by go_simp⟩) hHeld ?_
      try simp only [Act.put, List.setIfInBounds_toArray, List.set_cons_zero, List.set_cons_succ]
      refine take_at (i := 6) (v := .pointer (some ⟨g1, 0, none⟩)) rfl rfl (by kernel_rfl) (by kernel_rfl) (by kernel_rfl) (fun _ _ _ h => h) (Or.inl ⟨by rfl, fun X _ => by go_simp⟩) hHeld ?_
      try simp only [Act.put, List.setIfInBounds_toArray, List.set_cons_zero, List.set_cons_succ]
      refine take_at (i := 7) (v := .slice ao1 L1 cap1) rfl rfl (by kernel_rfl) (by kernel_rfl) (by kernel_rfl) (fun _ _ _ h => h) (Or.inl ⟨by rfl, fun X hX => by obtain ⟨ka, kb, _⟩ := hX; have c0 := ka.c0; have c1 := ka.c1; have c2 := ka.c2; have c3 := ka.c3; have c4 := ka.c4; have c5 := ka.c5; have d0 := kb.c0; have d1 := kb.c1; have d2 := kb.c2; have d3 := kb.c3; have d4 := kb.c4; have d5 := kb.c5; go_simp⟩) hHeld ?_
      try simp only [Act.put, List.setIfInBounds_toArray, List.set_cons_zero, List.set_cons_succ]
      refine take_at (i := 8) (v := .pointer (some ⟨g2, 0, none⟩)) rfl rfl (by kernel_rfl) (by kernel_rfl) (by kernel_rfl) (fun _ _ _ h => h) (Or.inl ⟨by rfl, fun X _ => by go_simp⟩) hHeld ?_
      try simp only [Act.put, List.setIfInBounds_toArray, List.set_cons_zero, List.set_cons_succ]
      refine take_at (i := 9) (v := .slice ao2 L2 cap2) rfl rfl (by kernel_rfl) (by kernel_rfl) (by kernel_rfl) (fun _ _ _ h => h) (Or.inl ⟨by rfl, fun X hX => by obtain ⟨ka, kb, _⟩ := hX; have c0 := ka.c0; have c1 := ka.c1; have c2 := ka.c2; have c3 := ka.c3; have c4 := ka.c4; have c5 := ka.c5; have d0 := kb.c0; have d1 := kb.c1; have d2 := kb.c2; have d3 := kb.c3; have d4 := kb.c4; have d5 := kb.c5; go_simp⟩) hHeld ?_
      try simp only [Act.put, List.setIfInBounds_toArray, List.set_cons_zero, List.set_cons_succ]
      refine wpAnyH_ready (rs := [10]) (by kernel_rfl) (by simp) ?_
      refine AllReadyH.cons rfl (fun K hK => ?_) AllReadyH.nil
      rw [if_pos (by rfl)]
      go_wp2_with fail
      refine (equal_ops _ _ o1 o2 _ r (h1.out.call hHeld.2.2) (h2.out.call hHeld.2.2) hr1'.out).mono ?_
      rintro e w7 ⟨rfl, b7⟩
      go_wp2_with fail
      refine hK.out _ _ (hHeld.call b7) (fun hHeld => ?_)
      clear hK K
      try simp only [Act.put, List.setIfInBounds_toArray, List.set_cons_zero, List.set_cons_succ]
      refine take_at (i := 11) (v := .bool r) rfl rfl (by kernel_rfl) (by kernel_rfl) (by kernel_rfl) (fun _ _ _ h => h) (Or.inl ⟨by rfl, fun X _ => by go_simp⟩) hHeld ?_
      try simp only [Act.put, List.setIfInBounds_toArray, List.set_cons_zero, List.set_cons_succ]
      refine take_at (i := 12) (v := .bool r) rfl rfl (by kernel_rfl) (by kernel_rfl) (by kernel_rfl) (fun _ _ _ h => h) (Or.inl ⟨by rfl, fun X _ => by go_simp⟩) hHeld ?_
      try simp only [Act.put, List.setIfInBounds_toArray, List.set_cons_zero, List.set_cons_succ]
      refine wpAnyH_done (by kernel_rfl) ?_ _
      go_wp2_with fail
      go_meet
      exact ⟨rfl, hHeld.2.2⟩
  case rest =>
    obtain ⟨rfl, bx⟩ := hcut
    go_wp2
    go_ret
    exact ⟨rfl, hg.out ▸ bcall b0 bx⟩
/-- The six cells of a pipe. -/
def PiAt (w : World) (b o : Nat) (v : Value) (p : Pq) : Prop := w.cell? ⟨b, o, none⟩ = some v ∧ w.cell? ⟨b, o + 1, none⟩ = some (.int .i64 p.n) ∧ w.cell? ⟨b, o + 2, none⟩ = some (.int .i64 p.s) ∧ w.cell? ⟨b, o + 3, none⟩ = some (.int .i64 p.a) ∧ w.cell? ⟨b, o + 4, none⟩ = some (.int .i64 p.k) ∧ w.cell? ⟨b, o + 5, none⟩ = some (.int .i64 p.f)
theorem PiAt.below {w w' : World} {b o : Nat} {v : Value} {p : Pq} (h : PiAt w b o v p) {B : Nat} (hb : Below B w w') (hlt : b < B) : PiAt w' b o v p := by
  have hc : ∀ q : Addr, q.block = b → w'.cell? q = w.cell? q := fun q hq => hb.cell (p := q) (by rw [hq]; exact hlt)
  obtain ⟨h0, h1, h2, h3, h4, h5⟩ := h
  exact ⟨(hc _ rfl).trans h0, (hc _ rfl).trans h1, (hc _ rfl).trans h2, (hc _ rfl).trans h3, (hc _ rfl).trans h4, (hc _ rfl).trans h5⟩
abbrev pd : Value × Pq := (.slice none 0 0, ⟨[], 0, 0, 0, 0, 0⟩)
/-- A slice value whose elements are these pipes. -/
def RdP (w : World) (v : Value) (l : List (Value × Pq)) : Prop :=
  l.length ≤ 1000 ∧ (∀ x ∈ l, RdO w x.1 x.2.os) ∧ ∃ ao cap, v = .slice ao l.length cap ∧ l.length ≤ cap ∧ cap ≤ 9223372036854775807 ∧ (l.length ≠ 0 → ∃ b off, ao = some ⟨b, off, none⟩ ∧ b < w.heap.size ∧ ∀ j, j < l.length → PiAt w b (off + j * 6) (l.getD j pd).1 (l.getD j pd).2)
theorem rdp_none (w : World) : RdP w (.slice none 0 0) [] := ⟨by simp, by simp, none, 0, rfl, by simp, by simp, by simp⟩
theorem getD_mem {α : Type} (l : List α) (d : α) (j : Nat) (h : j < l.length) : l.getD j d ∈ l := by
  have : l.getD j d = l[j] := by simp [List.getD_eq_getElem?_getD, h]
  rw [this]; exact List.getElem_mem h
set_option maxHeartbeats 4000000 in
set_option maxRecDepth 100000 in
/-- pipe.Same. -/
theorem psame_is (v : Value) (l : List (Value × Pq)) (r : Bool) (w : World) (hv : RdP w v l) (hr : r = true ↔ ∀ x ∈ l, x.2 = (l.getD 0 pd).2) :
    Calls Try.prog 13 #[v] w fun e w' => e = .returned (.bool r) ∧ Below w.heap.size w w' := by
  have hr' : Hid (r = true ↔ ∀ x ∈ l, x.2 = (l.getD 0 pd).2) := hr
  clear hr
  obtain ⟨hl, hos0, ao, cap, rfl, hcl, hcm, hc0⟩ := hv
  have hos : Hid (∀ x ∈ l, RdO w x.1 x.2.os) := hos0
  have hc : Hid (l.length ≠ 0 → ∃ b off, ao = some ⟨b, off, none⟩ ∧ b < w.heap.size ∧ ∀ j, j < l.length → PiAt w b (off + j * 6) (l.getD j pd).1 (l.getD j pd).2) := hc0
  clear hos0 hc0
  obtain ⟨m, hm⟩ : ∃ m, Hid (l.length = m) := ⟨_, rfl⟩
  rw [hm.out] at hc hl hcl ⊢
  go_enter Try.func13, Try.ntmps13
  go_wp2_with fail
  go_loopw [7] (fun i wr => ∃ k : Nat, k ≤ m ∧ i = .int .i64 k ∧ Hid (∀ j, j < k → (l.getD j pd).2 = (l.getD 0 pd).2) ∧ Below w.heap.size w wr) (fun i _ => m - (intOf i).toNat)
  case atStart => exact ⟨0, Nat.zero_le _, rfl, fun j hj => absurd hj (Nat.not_lt_zero _), Below.refl _ _⟩
  case round =>
    obtain ⟨j, hj, rfl, hall, hbw⟩ := hrel
    by_cases hlt : j < m
    · obtain ⟨b, off, rfl, hblt, hcell⟩ := hc.out (by omega)
      have pj := (hcell j hlt).below hbw hblt
      have p0 := (hcell 0 (by omega)).below hbw hblt
      have oj := (hos.out _ (getD_mem l pd j (by have := hm.out; omega))).below hbw (Nat.le_refl _) hbw.size
      have o0 := (hos.out _ (getD_mem l pd 0 (by have := hm.out; omega))).below hbw (Nat.le_refl _) hbw.size
      obtain ⟨⟨vj, qj⟩, hqj⟩ : ∃ x, Hid (l.getD j pd = x) := ⟨_, rfl⟩
      obtain ⟨⟨v0, q0⟩, hq0⟩ : ∃ x, Hid (l.getD 0 pd = x) := ⟨_, rfl⟩
      rw [hqj.out] at pj oj
      rw [hq0.out] at p0 o0
      clear hcell hc hos
      rw [Nat.zero_mul, Nat.add_zero] at p0
      obtain ⟨rr, hrr⟩ := bool_of (qj = q0)
      have hrr' : Hid (rr = true ↔ qj = q0) := hrr
      clear hrr
      have hstep : Hid (rr = true → ∀ i, i < j + 1 → (l.getD i pd).2 = (l.getD 0 pd).2) := by
        intro h i hi
        by_cases h1 : i < j
        · exact hall.out i h1
        · obtain rfl : i = j := by omega
          rw [hqj.out, hq0.out]; exact hrr'.out.1 h
      have hstop : Hid (rr = false → r = false) := by
        intro h
        rw [Bool.eq_false_iff]
        intro h2
        have h3 := hr'.out.1 h2 _ (getD_mem l pd j (by have := hm.out; omega))
        rw [hqj.out, hq0.out] at h3
        rw [hrr'.out.2 h3] at h; cases h
      clear hall hqj hq0
      have hoj : Hid (RdO wr vj qj.os) := oj
      have ho0 : Hid (RdO wr v0 q0.os) := o0
      obtain ⟨aj, cj, rfl⟩ : ∃ a c, vj = .slice a qj.os.length c := by obtain ⟨_, _, a, c, h, _⟩ := oj; exact ⟨a, c, h⟩
      obtain ⟨a0, cz, rfl⟩ : ∃ a c, v0 = .slice a q0.os.length c := by obtain ⟨_, _, a, c, h, _⟩ := o0; exact ⟨a, c, h⟩
      clear oj o0
      obtain ⟨Lj, hLj⟩ : ∃ L, Hid (qj.os.length = L) := ⟨_, rfl⟩
      obtain ⟨L0, hL0⟩ : ∃ L, Hid (q0.os.length = L) := ⟨_, rfl⟩
      rw [hLj.out] at pj hoj
      rw [hL0.out] at p0 ho0
      obtain ⟨oj, nj, sj, gj, kj, fj⟩ := qj
      obtain ⟨o0, n0, s0, g0, k0, f0⟩ := q0
      obtain ⟨d0, d1, d2, d3, d4, d5⟩ := pj
      simp only at d0 d1 d2 d3 d4 d5
      go_upto_region 4 with fail
      refine world_gen (fun W => Pik W wr.heap.size (.slice aj Lj cj) nj sj gj kj fj ∧ PiAt W b off (.slice a0 L0 cz) ⟨o0, n0, s0, g0, k0, f0⟩ ∧ Hid (RdO W (.slice aj Lj cj) oj) ∧ Hid (RdO W (.slice a0 L0 cz) o0) ∧ Below w.heap.size w W)
        ⟨pik_new _ _ _ _ _ _ _, p0.below (below_alloc _ _) (Nat.lt_of_lt_of_le hblt hbw.size), hoj.out.call (below_alloc _ _), ho0.out.call (below_alloc _ _), bnew hbw _⟩ ?_
      clear d0 d1 d2 d3 d4 d5 p0 hoj ho0 hbw
      rintro V ⟨kp, p0, hoj, ho0, hbw⟩
      generalize wr.heap.size = gp at kp ⊢
      have hbV : b < V.heap.size := Nat.lt_of_lt_of_le hblt hbw.size
      have hC0 : (0 : Int) < (m : Int) := by omega
      have hm0 : ¬ m = 0 := by omega
      go_cut [16] (fun q wx => q = .bool (!rr) ∧ Below V.heap.size V wx)
      case first =>
        refine wp_region_held_drew (S := fun w' => Pik w' gp (.slice aj Lj cj) nj sj gj kj fj ∧ PiAt w' b off (.slice a0 L0 cz) ⟨o0, n0, s0, g0, k0, f0⟩ ∧ Below V.heap.size V w') (by kernel_rfl) ⟨kp, p0, (Below.refl _ _).drew⟩ (fun hHeld => ?_)
        generalize V.drew = V1 at hHeld ⊢
        refine take_at (i := 0) (v := pv (.slice aj Lj cj) nj sj gj kj fj) rfl rfl (by kernel_rfl) (by kernel_rfl) (by kernel_rfl) (fun _ _ _ h => h) (Or.inl ⟨by rfl, fun X hX => by obtain ⟨ka, _⟩ := hX; have c0 := ka.c0; have c1 := ka.c1; have c2 := ka.c2; have c3 := ka.c3; have c4 := ka.c4; have c5 := ka.c5; go_simp⟩) hHeld ?_
        try simp only [Act.put, List.setIfInBounds_toArray, List.set_cons_zero, List.set_cons_succ]
        refine take_at (i := 1) (v := .slice (some ⟨b, off, none⟩) m cap) rfl rfl (by kernel_rfl) (by kernel_rfl) (by kernel_rfl) (fun _ _ _ h => h) (Or.inl ⟨by rfl, fun X _ => by go_simp⟩) hHeld ?_
        try simp only [Act.put, List.setIfInBounds_toArray, List.set_cons_zero, List.set_cons_succ]
        refine take_at (i := 2) (v := .pointer (some ⟨b, off, none⟩)) rfl rfl (by kernel_rfl) (by kernel_rfl) (by kernel_rfl) (fun _ _ _ h => h) (Or.inl ⟨by rfl, fun X _ => by go_simp⟩) hHeld ?_
        try simp only [Act.put, List.setIfInBounds_toArray, List.set_cons_zero, List.set_cons_succ]
        refine take_at (i := 3) (v := pv (.slice a0 L0 cz) n0 s0 g0 k0 f0) rfl rfl (by kernel_rfl) (by kernel_rfl) (by kernel_rfl) (fun _ _ _ h => h) (Or.inl ⟨by rfl, fun X hX => by obtain ⟨_, ⟨c0, c1, c2, c3, c4, c5⟩, _⟩ := hX; simp only at c0 c1 c2 c3 c4 c5; go_simp⟩) hHeld ?_
        try simp only [Act.put, List.setIfInBounds_toArray, List.set_cons_zero, List.set_cons_succ]
        refine wpAnyH_ready (rs := [4]) (by kernel_rfl) (by simp) ?_
        refine AllReadyH.cons rfl (fun K hK => ?_) AllReadyH.nil
        rw [if_pos (by rfl)]
        go_wp2_with fail
        refine (same1_is _ _ ⟨oj, nj, sj, gj, kj, fj⟩ ⟨o0, n0, s0, g0, k0, f0⟩ rr _ (hoj.out.call hHeld.2.2) (ho0.out.call hHeld.2.2) hrr'.out).mono ?_
        rintro e w7 ⟨rfl, b7⟩
        go_wp2_with fail
        refine hK.out _ _ (⟨hHeld.1.call b7, hHeld.2.1.below b7 (Nat.lt_of_lt_of_le hbV hHeld.2.2.size), bcall hHeld.2.2 b7⟩) (fun hHeld => ?_)
        clear hK K
        try simp only [Act.put, List.setIfInBounds_toArray, List.set_cons_zero, List.set_cons_succ]
        refine take_at (i := 5) (v := .bool (!rr)) rfl rfl (by kernel_rfl) (by kernel_rfl) (by kernel_rfl) (fun _ _ _ h => h) (Or.inl ⟨by rfl, fun X _ => by go_simp⟩) hHeld ?_
        try simp only [Act.put, List.setIfInBounds_toArray, List.set_cons_zero, List.set_cons_succ]
        refine wpAnyH_done (by kernel_rfl) ?_ _
        go_wp2_with fail
        go_meet
        exact ⟨rfl, hHeld.2.2⟩
      case rest =>
        obtain ⟨rfl, bx⟩ := hcut
        cases rr
        · obtain rfl := hstop.out rfl
          go_wp2
          go_ret
          exact ⟨rfl, bcall hbw bx⟩
        · go_wp2_with fail
          go_roundw
          case rel => exact ⟨j + 1, by omega, by go_num, hstep.out rfl, bcall hbw bx⟩
          case measure => simp [intOf]; omega
    · obtain rfl : j = m := by omega
      have hf : r = true := by
        refine hr'.out.2 fun x hx => ?_
        obtain ⟨i, hi, rfl⟩ := List.mem_iff_getElem.1 hx
        have := hall.out i (by have := hm.out; omega)
        rw [← this]
        simp [List.getD_eq_getElem?_getD, hi]
      subst hf
      go_wp2
      go_ret
      exact ⟨rfl, hbw⟩
end Go.Proofs.Ytimeglhoiibhdaa
