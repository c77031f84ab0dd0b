/- What cordonkeep.Pipe.Pipe makes of numbers: a pipe that may be, of small numbers, in new memory. -/
import Derived.Test.YtnamjnopicghhaaOPipe
namespace Go.Proofs.Ytnamjnopicghhaa.O
open Go.RowKit MO
open Go.Proofs.Ytnamjnopicghhaa.M (rightB most right_of right_no' right_iff right_mk)
set_option linter.unusedVariables false
set_option linter.unusedSimpArgs false
attribute [local go_sem ↓] Go.wp_at_zero Go.wp_at_succ
/-- A slice of ints, as it is read one by one. -/
def Ints (w : World) (a : Option Addr) (len cap : Nat) : Prop :=
  len ≤ 9223372036854775807 ∧ cap ≤ 9223372036854775807 ∧ len ≤ cap ∧ ∀ k, k < len → ∃ b off n, a = some ⟨b, off, none⟩ ∧ b < w.heap.size ∧ w.cell? ⟨b, off + k, none⟩ = some (.int .i64 n)
theorem Ints.below {w w' : World} {a : Option Addr} {len cap B : Nat} (h : Ints w a len cap) (hb : Below B w w') (hB : w.heap.size ≤ B) (hs : w.heap.size ≤ w'.heap.size) : Ints w' a len cap := by
  obtain ⟨h1, h2, h3, h4⟩ := h
  refine ⟨h1, h2, h3, fun k hk => ?_⟩
  obtain ⟨b, off, n, e1, e2, e3⟩ := h4 k hk
  exact ⟨b, off, n, e1, Nat.lt_of_lt_of_le e2 hs, (hb.cell (p := ⟨b, off + k, none⟩) (Nat.lt_of_lt_of_le e2 hB)).trans e3⟩
theorem Ints.call {w w' : World} {a : Option Addr} {len cap : Nat} (h : Ints w a len cap) (hb : Below w.heap.size w w') : Ints w' a len cap := h.below hb (Nat.le_refl _) hb.size
set_option maxRecDepth 100000 in
/-- cordonkeep.pick. -/
theorem pick_any (a : Option Addr) (len cap : Nat) (i : Nat) (w : World) (h : Ints w a len cap) (hi : i < 1000) :
    Calls Try.prog 40 #[.slice a len cap, .int .i64 i] w fun e w' => (∃ n : Int, e = .returned (.int .i64 n)) ∧ w' = w := by
  obtain ⟨h1, h2, h3, h4⟩ := h
  by_cases h0 : len = 0
  · subst h0
    clear h4
    go_enter Try.func40, Try.ntmps40
    go_wp2
    go_ret
    exact ⟨⟨_, rfl⟩, rfl⟩
  · have hq : i % len < len := Nat.mod_lt _ (by omega)
    obtain ⟨b, off, n, rfl, hb, hc⟩ := h4 (i % len) hq
    clear h4
    have h0' : ((len : Int) == 0) = false := by simp; omega
    have hm : ((i : Int).tmod (len : Int)) = ((i % len : Nat) : Int) := by
      rw [Int.tmod_eq_emod_of_nonneg (by omega)]; simp
    obtain ⟨q, hq'⟩ : ∃ q, i % len = q := ⟨_, rfl⟩
    rw [hq'] at hm hc hq
    clear hq'
    go_enter Try.func40, Try.ntmps40
    go_wp2
    go_ret
    exact ⟨⟨_, rfl⟩, rfl⟩
/-- Pipes of small numbers. -/
def Small (p : Pq) : Prop := p.os.length ≤ 4 ∧ (∀ o ∈ p.os, 1 ≤ o.k ∧ o.k ≤ 6 ∧ -5 ≤ o.n ∧ o.n ≤ 9 ∧ rightO o = true) ∧ 1 ≤ p.s ∧ p.s ≤ 12 ∧ p.s ≤ p.n ∧ p.n ≤ 4 * p.s ∧ 1 ≤ p.a ∧ p.a ≤ 4 ∧ -1 ≤ p.k ∧ p.k ≤ 1 ∧ -1 ≤ p.f ∧ p.f ≤ 1
theorem small_right {p : Pq} (h : Small p) : rightP p = true := by
  obtain ⟨h1, h2, h3, h4, h5, h6, h7, h8, h9, h10, h11, h12⟩ := h
  have e1 : rightL p.os = true := by
    unfold rightL
    rw [decide_eq_true (by omega), Bool.true_and, List.all_eq_true]
    exact fun o ho => (h2 o ho).2.2.2.2
  have e2 : rightB p.n p.s = true := right_mk h3 h5 (by omega) (by omega)
  have e3 : sinkB p.k = true := by unfold sinkB; simp; omega
  have e4 : sinkB p.f = true := by unfold sinkB; simp; omega
  unfold rightP
  rw [e1, e2, e3, e4, decide_eq_true (by omega)]; rfl

theorem beq_no6 {a b : Int} (h : ¬ a = b) : (a == b) = false := by simpa using h
abbrev kv (vo vn : Value) (n s a k f : Int) : Value := .agg #[vo, vn, .int .i64 n, .int .i64 s, .int .i64 a, .int .i64 k, .int .i64 f]
/-- The block of the numbers whole. -/
def Kpk (w : World) (b : Nat) (vo vn : Value) (n s a k f : Int) : Prop := w.heap[b]? = some (.cells #[vo, vn, .int .i64 n, .int .i64 s, .int .i64 a, .int .i64 k, .int .i64 f] 53 (0, 0))
section
variable {w w' : World} {b : Nat} {vo vn : Value} {n s a k f : Int}
theorem Kpk.c0 (h : Kpk w b vo vn n s a k f) : w.cell? ⟨b, 0, none⟩ = some vo := by unfold Kpk at h; simp [World.cell?, h]
theorem Kpk.c1 (h : Kpk w b vo vn n s a k f) : w.cell? ⟨b, 1, none⟩ = some vn := by unfold Kpk at h; simp [World.cell?, h]
theorem Kpk.c2 (h : Kpk w b vo vn n s a k f) : w.cell? ⟨b, 2, none⟩ = some (.int .i64 n) := by unfold Kpk at h; simp [World.cell?, h]
theorem Kpk.c3 (h : Kpk w b vo vn n s a k f) : w.cell? ⟨b, 3, none⟩ = some (.int .i64 s) := by unfold Kpk at h; simp [World.cell?, h]
theorem Kpk.c4 (h : Kpk w b vo vn n s a k f) : w.cell? ⟨b, 4, none⟩ = some (.int .i64 a) := by unfold Kpk at h; simp [World.cell?, h]
theorem Kpk.c5 (h : Kpk w b vo vn n s a k f) : w.cell? ⟨b, 5, none⟩ = some (.int .i64 k) := by unfold Kpk at h; simp [World.cell?, h]
theorem Kpk.c6 (h : Kpk w b vo vn n s a k f) : w.cell? ⟨b, 6, none⟩ = some (.int .i64 f) := by unfold Kpk at h; simp [World.cell?, h]
theorem Kpk.lt (h : Kpk w b vo vn n s a k f) : b < w.heap.size := (Array.getElem?_eq_some_iff.1 h).1
theorem Kpk.call (h : Kpk w b vo vn n s a k f) (hb : Below w.heap.size w w') : Kpk w' b vo vn n s a k f := (hb.block b h.lt).trans h
theorem Kpk.below {B : Nat} (h : Kpk w b vo vn n s a k f) (hb : Below B w w') (hB : b < B) : Kpk w' b vo vn n s a k f := (hb.block b hB).trans h
theorem Kpk.heap (h : Kpk w b vo vn n s a k f) (hh : w'.heap[b]? = w.heap[b]?) : Kpk w' b vo vn n s a k f := hh.trans h
theorem Pik.heap {v : Value} (h : Pik w b v n s a k f) (hh : w'.heap[b]? = w.heap[b]?) : Pik w' b v n s a k f := hh.trans h
end
theorem kpk_new (w : World) (vo vn : Value) (n s a k f : Int) : Kpk (w.alloc (.cells #[vo, vn, .int .i64 n, .int .i64 s, .int .i64 a, .int .i64 k, .int .i64 f] 53)) w.heap.size vo vn n s a k f := by
  show (w.heap.push _)[w.heap.size]? = _
  simp
theorem Pik.set1 {w : World} {b : Nat} {v : Value} {n s a k f : Int} (h : Pik w b v n s a k f) (n' : Int) : Pik (w.setCell ⟨b, 1, none⟩ (.int .i64 n')) b v n' s a k f := by
  unfold Pik at *
  simp [World.setCell, Array.getElem?_modify, h]
theorem Pik.set0 {w : World} {b : Nat} {v : Value} {n s a k f : Int} (h : Pik w b v n s a k f) (v' : Value) : Pik (w.setCell ⟨b, 0, none⟩ v') b v' n s a k f := by
  unfold Pik at *
  simp [World.setCell, Array.getElem?_modify, h]
/-- An operation's block whole. -/
def Opk (w : World) (b : Nat) (c m : Int) : Prop := w.heap[b]? = some (.cells #[.int .i64 c, .int .i64 m] 90 (0, 0))
theorem opk_new (w : World) (c m : Int) : Opk (w.alloc (.cells #[.int .i64 c, .int .i64 m] 90)) w.heap.size c m := by
  show (w.heap.push _)[w.heap.size]? = _
  simp
theorem Opk.c0 {w : World} {b : Nat} {c m : Int} (h : Opk w b c m) : w.cell? ⟨b, 0, none⟩ = some (.int .i64 c) := by unfold Opk at h; simp [World.cell?, h]
theorem Opk.c1 {w : World} {b : Nat} {c m : Int} (h : Opk w b c m) : w.cell? ⟨b, 1, none⟩ = some (.int .i64 m) := by unfold Opk at h; simp [World.cell?, h]
theorem Opk.free {w : World} {b : Nat} {c m : Int} (h : Opk w b c m) (i : Nat) : w.frozen? ⟨b, i, none⟩ = false := by unfold Opk at h; simp [World.frozen?, h]
theorem Opk.lt {w : World} {b : Nat} {c m : Int} (h : Opk w b c m) : b < w.heap.size := (Array.getElem?_eq_some_iff.1 h).1
theorem Opk.call {w w' : World} {b : Nat} {c m : Int} (h : Opk w b c m) (hb : Below w.heap.size w w') : Opk w' b c m := (hb.block b h.lt).trans h
theorem Opk.set1 {w : World} {b : Nat} {c m : Int} (h : Opk w b c m) (m' : Int) : Opk (w.setCell ⟨b, 1, none⟩ (.int .i64 m')) b c m' := by
  unfold Opk at *
  simp [World.setCell, Array.getElem?_modify, h]
attribute [local go_sem ↓] Go.wp_at_zero Go.wp_at_succ
set_option maxHeartbeats 4000000 in
set_option maxRecDepth 100000 in
/-- cordonkeep.Pipe.Pipe. -/
theorem keep_any (ao : Option Addr) (lo co : Nat) (an : Option Addr) (ln cn : Nat) (n s a k f : Int) (w : World) (ho : Ints w ao lo co) (hn : Ints w an ln cn) :
    Calls Try.prog 16 #[kv (.slice ao lo co) (.slice an ln cn) n s a k f] w fun e w' => ∃ p u, Small p ∧ e = .returned (pv u p.n p.s p.a p.k p.f) ∧ w'.ownsRow w.heap.size 90 2 u p.os.length (opl p.os) ∧ (u = .slice none 0 0 ↔ p.os.length = 0) ∧ Below w.heap.size w w' := by
  obtain ⟨i0, hi, hz0, hz1, hz2⟩ := info_parts Try.info90
  have ho' : Hid (Ints w ao lo co) := ho
  have hn' : Hid (Ints w an ln cn) := hn
  have hlo : lo ≤ 9223372036854775807 := ho.1
  clear ho hn
  go_enter Try.func16, Try.ntmps16
  go_upto_region 1 with fail
  refine world_gen (fun W => Kpk W w.heap.size (.slice ao lo co) (.slice an ln cn) n s a k f ∧ Pik W (w.heap.size + 1) (.slice none 0 0) 0 0 0 0 0 ∧ Below w.heap.size w W)
    ⟨(kpk_new _ _ _ _ _ _ _ _).call (below_alloc _ _), by simpa using pik_new (w.alloc _) (.slice none 0 0) 0 0 0 0 0, bnew (below_alloc _ _) _⟩ ?_
  rintro V ⟨k1, p2, b0⟩
  obtain ⟨g1, hg1⟩ : ∃ g, Hid (w.heap.size = g) := ⟨_, rfl⟩
  obtain ⟨g2, hg2⟩ : ∃ g, Hid (w.heap.size + 1 = g) := ⟨_, rfl⟩
  rw [hg2.out] at p2 ⊢
  rw [hg1.out] at k1 ⊢
  go_cut [3] (fun q wx => ∃ gp s' a' k' f', q = .pointer (some ⟨gp, 0, none⟩) ∧ V.heap.size ≤ gp ∧ Pik wx gp (.slice none 0 0) 0 s' a' k' f' ∧ (1 ≤ s' ∧ s' ≤ 12) ∧ (1 ≤ a' ∧ a' ≤ 4) ∧ (-1 ≤ k' ∧ k' ≤ 1) ∧ (-1 ≤ f' ∧ f' ≤ 1) ∧ Below V.heap.size V wx)
  case first =>
    refine wp_region_held_drew (S := fun w' => Kpk w' g1 (.slice ao lo co) (.slice an ln cn) n s a k f ∧ Below V.heap.size V w') (by kernel_rfl) ⟨k1, (Below.refl _ _).drew⟩ (fun hHeld => ?_)
    generalize V.drew = V1 at hHeld ⊢
    have hV := hHeld
    refine take_at (i := 0) (v := .pointer (some ⟨g1, 3, none⟩)) rfl rfl (by kernel_rfl) (by kernel_rfl) (by kernel_rfl) (fun _ _ _ h => h) (Or.inl ⟨by rfl, fun X _ => by go_simp⟩) hHeld ?_
    try simp only [Act.put, List.setIfInBounds_toArray, List.set_cons_zero, List.set_cons_succ]
    refine take_at (i := 1) (v := .int .i64 s) rfl rfl (by kernel_rfl) (by kernel_rfl) (by kernel_rfl) (fun _ _ _ h => h) (Or.inl ⟨by rfl, fun X hX => by obtain ⟨ka, _⟩ := hX; have c3 := ka.c3; have c4 := ka.c4; have c5 := ka.c5; have c6 := ka.c6; go_simp⟩) hHeld ?_
    try simp only [Act.put, List.setIfInBounds_toArray, List.set_cons_zero, List.set_cons_succ]
    refine take_at (i := 3) (v := .pointer (some ⟨g1, 4, none⟩)) rfl rfl (by kernel_rfl) (by kernel_rfl) (by kernel_rfl) (fun _ _ _ h => h) (Or.inl ⟨by rfl, fun X _ => by go_simp⟩) hHeld ?_
    try simp only [Act.put, List.setIfInBounds_toArray, List.set_cons_zero, List.set_cons_succ]
    refine take_at (i := 4) (v := .int .i64 a) rfl rfl (by kernel_rfl) (by kernel_rfl) (by kernel_rfl) (fun _ _ _ h => h) (Or.inl ⟨by rfl, fun X hX => by obtain ⟨ka, _⟩ := hX; have c3 := ka.c3; have c4 := ka.c4; have c5 := ka.c5; have c6 := ka.c6; go_simp⟩) hHeld ?_
    try simp only [Act.put, List.setIfInBounds_toArray, List.set_cons_zero, List.set_cons_succ]
    refine take_at (i := 6) (v := .pointer (some ⟨g1, 5, none⟩)) rfl rfl (by kernel_rfl) (by kernel_rfl) (by kernel_rfl) (fun _ _ _ h => h) (Or.inl ⟨by rfl, fun X _ => by go_simp⟩) hHeld ?_
    try simp only [Act.put, List.setIfInBounds_toArray, List.set_cons_zero, List.set_cons_succ]
    refine take_at (i := 7) (v := .int .i64 k) rfl rfl (by kernel_rfl) (by kernel_rfl) (by kernel_rfl) (fun _ _ _ h => h) (Or.inl ⟨by rfl, fun X hX => by obtain ⟨ka, _⟩ := hX; have c3 := ka.c3; have c4 := ka.c4; have c5 := ka.c5; have c6 := ka.c6; go_simp⟩) hHeld ?_
    try simp only [Act.put, List.setIfInBounds_toArray, List.set_cons_zero, List.set_cons_succ]
    refine take_at (i := 9) (v := .pointer (some ⟨g1, 6, none⟩)) rfl rfl (by kernel_rfl) (by kernel_rfl) (by kernel_rfl) (fun _ _ _ h => h) (Or.inl ⟨by rfl, fun X _ => by go_simp⟩) hHeld ?_
    try simp only [Act.put, List.setIfInBounds_toArray, List.set_cons_zero, List.set_cons_succ]
    refine take_at (i := 10) (v := .int .i64 f) rfl rfl (by kernel_rfl) (by kernel_rfl) (by kernel_rfl) (fun _ _ _ h => h) (Or.inl ⟨by rfl, fun X hX => by obtain ⟨ka, _⟩ := hX; have c3 := ka.c3; have c4 := ka.c4; have c5 := ka.c5; have c6 := ka.c6; go_simp⟩) hHeld ?_
    try simp only [Act.put, List.setIfInBounds_toArray, List.set_cons_zero, List.set_cons_succ]
    refine wpAnyH_ready (rs := [2, 13]) (by kernel_rfl) (by simp) ?_
    refine (AllReadyH.cons rfl (fun K hK => ?_) (AllReadyH.cons rfl (fun K hK => ?_) AllReadyH.nil))
    · rw [if_pos (by rfl)]
      go_wp2_with fail
      refine (within_any s 1 12 _ (by omega) (by omega) (by omega)).mono ?_
      rintro e w' ⟨⟨s', hs1, hs2, rfl⟩, he⟩; obtain rfl := he.symm; clear he
      go_wp2_with fail
      refine hK.out _ _ (hHeld) (fun hHeld => ?_)
      clear hK K
      try simp only [Act.put, List.setIfInBounds_toArray, List.set_cons_zero, List.set_cons_succ]
      refine wpAnyH_ready (rs := [5, 13]) (by kernel_rfl) (by simp) ?_
      refine (AllReadyH.cons rfl (fun K hK => ?_) (AllReadyH.cons rfl (fun K hK => ?_) AllReadyH.nil))
      · rw [if_pos (by rfl)]
        go_wp2_with fail
        refine (within_any a 1 4 _ (by omega) (by omega) (by omega)).mono ?_
        rintro e w' ⟨⟨a', ha1, ha2, rfl⟩, he⟩; obtain rfl := he.symm; clear he
        go_wp2_with fail
        refine hK.out _ _ (hHeld) (fun hHeld => ?_)
        clear hK K
        try simp only [Act.put, List.setIfInBounds_toArray, List.set_cons_zero, List.set_cons_succ]
        refine wpAnyH_ready (rs := [8, 13]) (by kernel_rfl) (by simp) ?_
        refine (AllReadyH.cons rfl (fun K hK => ?_) (AllReadyH.cons rfl (fun K hK => ?_) AllReadyH.nil))
        · rw [if_pos (by rfl)]
          go_wp2_with fail
          refine (within_any k (-1) 1 _ (by omega) (by omega) (by omega)).mono ?_
          rintro e w' ⟨⟨k', hk1, hk2, rfl⟩, he⟩; obtain rfl := he.symm; clear he
          go_wp2_with fail
          refine hK.out _ _ (hHeld) (fun hHeld => ?_)
          clear hK K
          try simp only [Act.put, List.setIfInBounds_toArray, List.set_cons_zero, List.set_cons_succ]
          refine wpAnyH_ready (rs := [11, 13]) (by kernel_rfl) (by simp) ?_
          refine (AllReadyH.cons rfl (fun K hK => ?_) (AllReadyH.cons rfl (fun K hK => ?_) AllReadyH.nil))
          · rw [if_pos (by rfl)]
            go_wp2_with fail
            refine (within_any f (-1) 1 _ (by omega) (by omega) (by omega)).mono ?_
            rintro e w' ⟨⟨f', hf1, hf2, rfl⟩, he⟩; obtain rfl := he.symm; clear he
            go_wp2_with fail
            refine hK.out _ _ (hHeld) (fun hHeld => ?_)
            clear hK K
            try simp only [Act.put, List.setIfInBounds_toArray, List.set_cons_zero, List.set_cons_succ]
            refine take_at (i := 12) (v := pv (.slice none 0 0) 0 s' a' k' f') rfl rfl (by kernel_rfl) (by kernel_rfl) (by kernel_rfl) (fun _ _ _ h => h) (Or.inl ⟨by rfl, fun X _ => by go_simp⟩) hHeld ?_
            try simp only [Act.put, List.setIfInBounds_toArray, List.set_cons_zero, List.set_cons_succ]
            refine wpAnyH_ready (rs := [13]) (by kernel_rfl) (by simp) ?_
            refine (AllReadyH.cons rfl (fun K hK => ?_) AllReadyH.nil)
            rw [if_pos (by rfl)]
            go_simp
            refine hK.out _ _ (⟨hV.1.call (below_alloc _ _), bnew hV.2 _⟩) (fun hHeld => ?_)
            clear hK K
            try simp only [Act.put, List.setIfInBounds_toArray, List.set_cons_zero, List.set_cons_succ]
            refine wpAnyH_ready (rs := [14]) (by kernel_rfl) (by simp) ?_
            refine (AllReadyH.cons rfl (fun K hK => ?_) AllReadyH.nil)
            rw [if_pos (by rfl)]
            go_simp
            refine hK.out _ _ (⟨hV.1.call (below_alloc _ _), bnew hV.2 _⟩) (fun hHeld => ?_)
            clear hK K
            try simp only [Act.put, List.setIfInBounds_toArray, List.set_cons_zero, List.set_cons_succ]
            refine wpAnyH_done (by kernel_rfl) ?_ _
            go_wp2_with fail
            go_meet
            exact ⟨_, s', a', k', f', rfl, hV.2.size, pik_new _ _ _ _ _ _ _, ⟨hs1, hs2⟩, ⟨ha1, ha2⟩, ⟨hk1, hk2⟩, ⟨hf1, hf2⟩, hHeld.2⟩
          · rw [if_pos (by rfl)]
            go_simp
            refine hK.out _ _ (⟨hV.1.call (below_alloc _ _), bnew hV.2 _⟩) (fun hHeld => ?_)
            clear hK K
            try simp only [Act.put, List.setIfInBounds_toArray, List.set_cons_zero, List.set_cons_succ]
            refine wpAnyH_ready (rs := [11]) (by kernel_rfl) (by simp) ?_
            refine (AllReadyH.cons rfl (fun K hK => ?_) AllReadyH.nil)
            rw [if_pos (by rfl)]
            go_wp2_with fail
            refine (within_any f (-1) 1 _ (by omega) (by omega) (by omega)).mono ?_
            rintro e w' ⟨⟨f', hf1, hf2, rfl⟩, he⟩; obtain rfl := he.symm; clear he
            go_wp2_with fail
            refine hK.out _ _ (hHeld) (fun hHeld => ?_)
            clear hK K
            try simp only [Act.put, List.setIfInBounds_toArray, List.set_cons_zero, List.set_cons_succ]
            refine take_at (i := 12) (v := pv (.slice none 0 0) 0 s' a' k' f') rfl rfl (by kernel_rfl) (by kernel_rfl) (by kernel_rfl) (fun _ _ _ h => h) (Or.inl ⟨by rfl, fun X _ => by go_simp⟩) hHeld ?_
            try simp only [Act.put, List.setIfInBounds_toArray, List.set_cons_zero, List.set_cons_succ]
            refine wpAnyH_ready (rs := [14]) (by kernel_rfl) (by simp) ?_
            refine (AllReadyH.cons rfl (fun K hK => ?_) AllReadyH.nil)
            rw [if_pos (by rfl)]
            go_simp
            refine hK.out _ _ (⟨hV.1.call (below_alloc _ _), bnew hV.2 _⟩) (fun hHeld => ?_)
            clear hK K
            try simp only [Act.put, List.setIfInBounds_toArray, List.set_cons_zero, List.set_cons_succ]
            refine wpAnyH_done (by kernel_rfl) ?_ _
            go_wp2_with fail
            go_meet
            exact ⟨_, s', a', k', f', rfl, hV.2.size, pik_new _ _ _ _ _ _ _, ⟨hs1, hs2⟩, ⟨ha1, ha2⟩, ⟨hk1, hk2⟩, ⟨hf1, hf2⟩, hHeld.2⟩
        · rw [if_pos (by rfl)]
          go_simp
          refine hK.out _ _ (⟨hV.1.call (below_alloc _ _), bnew hV.2 _⟩) (fun hHeld => ?_)
          clear hK K
          try simp only [Act.put, List.setIfInBounds_toArray, List.set_cons_zero, List.set_cons_succ]
          refine wpAnyH_ready (rs := [8]) (by kernel_rfl) (by simp) ?_
          refine (AllReadyH.cons rfl (fun K hK => ?_) AllReadyH.nil)
          rw [if_pos (by rfl)]
          go_wp2_with fail
          refine (within_any k (-1) 1 _ (by omega) (by omega) (by omega)).mono ?_
          rintro e w' ⟨⟨k', hk1, hk2, rfl⟩, he⟩; obtain rfl := he.symm; clear he
          go_wp2_with fail
          refine hK.out _ _ (hHeld) (fun hHeld => ?_)
          clear hK K
          try simp only [Act.put, List.setIfInBounds_toArray, List.set_cons_zero, List.set_cons_succ]
          refine wpAnyH_ready (rs := [11]) (by kernel_rfl) (by simp) ?_
          refine (AllReadyH.cons rfl (fun K hK => ?_) AllReadyH.nil)
          rw [if_pos (by rfl)]
          go_wp2_with fail
          refine (within_any f (-1) 1 _ (by omega) (by omega) (by omega)).mono ?_
          rintro e w' ⟨⟨f', hf1, hf2, rfl⟩, he⟩; obtain rfl := he.symm; clear he
          go_wp2_with fail
          refine hK.out _ _ (hHeld) (fun hHeld => ?_)
          clear hK K
          try simp only [Act.put, List.setIfInBounds_toArray, List.set_cons_zero, List.set_cons_succ]
          refine take_at (i := 12) (v := pv (.slice none 0 0) 0 s' a' k' f') rfl rfl (by kernel_rfl) (by kernel_rfl) (by kernel_rfl) (fun _ _ _ h => h) (Or.inl ⟨by rfl, fun X _ => by go_simp⟩) hHeld ?_
          try simp only [Act.put, List.setIfInBounds_toArray, List.set_cons_zero, List.set_cons_succ]
          refine wpAnyH_ready (rs := [14]) (by kernel_rfl) (by simp) ?_
          refine (AllReadyH.cons rfl (fun K hK => ?_) AllReadyH.nil)
          rw [if_pos (by rfl)]
          go_simp
          refine hK.out _ _ (⟨hV.1.call (below_alloc _ _), bnew hV.2 _⟩) (fun hHeld => ?_)
          clear hK K
          try simp only [Act.put, List.setIfInBounds_toArray, List.set_cons_zero, List.set_cons_succ]
          refine wpAnyH_done (by kernel_rfl) ?_ _
          go_wp2_with fail
          go_meet
          exact ⟨_, s', a', k', f', rfl, hV.2.size, pik_new _ _ _ _ _ _ _, ⟨hs1, hs2⟩, ⟨ha1, ha2⟩, ⟨hk1, hk2⟩, ⟨hf1, hf2⟩, hHeld.2⟩
      · rw [if_pos (by rfl)]
        go_simp
        refine hK.out _ _ (⟨hV.1.call (below_alloc _ _), bnew hV.2 _⟩) (fun hHeld => ?_)
        clear hK K
        try simp only [Act.put, List.setIfInBounds_toArray, List.set_cons_zero, List.set_cons_succ]
        refine wpAnyH_ready (rs := [5]) (by kernel_rfl) (by simp) ?_
        refine (AllReadyH.cons rfl (fun K hK => ?_) AllReadyH.nil)
        rw [if_pos (by rfl)]
        go_wp2_with fail
        refine (within_any a 1 4 _ (by omega) (by omega) (by omega)).mono ?_
        rintro e w' ⟨⟨a', ha1, ha2, rfl⟩, he⟩; obtain rfl := he.symm; clear he
        go_wp2_with fail
        refine hK.out _ _ (hHeld) (fun hHeld => ?_)
        clear hK K
        try simp only [Act.put, List.setIfInBounds_toArray, List.set_cons_zero, List.set_cons_succ]
        refine wpAnyH_ready (rs := [8]) (by kernel_rfl) (by simp) ?_
        refine (AllReadyH.cons rfl (fun K hK => ?_) AllReadyH.nil)
        rw [if_pos (by rfl)]
        go_wp2_with fail
        refine (within_any k (-1) 1 _ (by omega) (by omega) (by omega)).mono ?_
        rintro e w' ⟨⟨k', hk1, hk2, rfl⟩, he⟩; obtain rfl := he.symm; clear he
        go_wp2_with fail
        refine hK.out _ _ (hHeld) (fun hHeld => ?_)
        clear hK K
        try simp only [Act.put, List.setIfInBounds_toArray, List.set_cons_zero, List.set_cons_succ]
        refine wpAnyH_ready (rs := [11]) (by kernel_rfl) (by simp) ?_
        refine (AllReadyH.cons rfl (fun K hK => ?_) AllReadyH.nil)
        rw [if_pos (by rfl)]
        go_wp2_with fail
        refine (within_any f (-1) 1 _ (by omega) (by omega) (by omega)).mono ?_
        rintro e w' ⟨⟨f', hf1, hf2, rfl⟩, he⟩; obtain rfl := he.symm; clear he
        go_wp2_with fail
        refine hK.out _ _ (hHeld) (fun hHeld => ?_)
        clear hK K
        try simp only [Act.put, List.setIfInBounds_toArray, List.set_cons_zero, List.set_cons_succ]
        refine take_at (i := 12) (v := pv (.slice none 0 0) 0 s' a' k' f') rfl rfl (by kernel_rfl) (by kernel_rfl) (by kernel_rfl) (fun _ _ _ h => h) (Or.inl ⟨by rfl, fun X _ => by go_simp⟩) hHeld ?_
        try simp only [Act.put, List.setIfInBounds_toArray, List.set_cons_zero, List.set_cons_succ]
        refine wpAnyH_ready (rs := [14]) (by kernel_rfl) (by simp) ?_
        refine (AllReadyH.cons rfl (fun K hK => ?_) AllReadyH.nil)
        rw [if_pos (by rfl)]
        go_simp
        refine hK.out _ _ (⟨hV.1.call (below_alloc _ _), bnew hV.2 _⟩) (fun hHeld => ?_)
        clear hK K
        try simp only [Act.put, List.setIfInBounds_toArray, List.set_cons_zero, List.set_cons_succ]
        refine wpAnyH_done (by kernel_rfl) ?_ _
        go_wp2_with fail
        go_meet
        exact ⟨_, s', a', k', f', rfl, hV.2.size, pik_new _ _ _ _ _ _ _, ⟨hs1, hs2⟩, ⟨ha1, ha2⟩, ⟨hk1, hk2⟩, ⟨hf1, hf2⟩, hHeld.2⟩
    · rw [if_pos (by rfl)]
      go_simp
      refine hK.out _ _ (⟨hV.1.call (below_alloc _ _), bnew hV.2 _⟩) (fun hHeld => ?_)
      clear hK K
      try simp only [Act.put, List.setIfInBounds_toArray, List.set_cons_zero, List.set_cons_succ]
      refine wpAnyH_ready (rs := [2]) (by kernel_rfl) (by simp) ?_
      refine (AllReadyH.cons rfl (fun K hK => ?_) AllReadyH.nil)
      rw [if_pos (by rfl)]
      go_wp2_with fail
      refine (within_any s 1 12 _ (by omega) (by omega) (by omega)).mono ?_
      rintro e w' ⟨⟨s', hs1, hs2, rfl⟩, he⟩; obtain rfl := he.symm; clear he
      go_wp2_with fail
      refine hK.out _ _ (hHeld) (fun hHeld => ?_)
      clear hK K
      try simp only [Act.put, List.setIfInBounds_toArray, List.set_cons_zero, List.set_cons_succ]
      refine wpAnyH_ready (rs := [5]) (by kernel_rfl) (by simp) ?_
      refine (AllReadyH.cons rfl (fun K hK => ?_) AllReadyH.nil)
      rw [if_pos (by rfl)]
      go_wp2_with fail
      refine (within_any a 1 4 _ (by omega) (by omega) (by omega)).mono ?_
      rintro e w' ⟨⟨a', ha1, ha2, rfl⟩, he⟩; obtain rfl := he.symm; clear he
      go_wp2_with fail
      refine hK.out _ _ (hHeld) (fun hHeld => ?_)
      clear hK K
      try simp only [Act.put, List.setIfInBounds_toArray, List.set_cons_zero, List.set_cons_succ]
      refine wpAnyH_ready (rs := [8]) (by kernel_rfl) (by simp) ?_
      refine (AllReadyH.cons rfl (fun K hK => ?_) AllReadyH.nil)
      rw [if_pos (by rfl)]
      go_wp2_with fail
      refine (within_any k (-1) 1 _ (by omega) (by omega) (by omega)).mono ?_
      rintro e w' ⟨⟨k', hk1, hk2, rfl⟩, he⟩; obtain rfl := he.symm; clear he
      go_wp2_with fail
      refine hK.out _ _ (hHeld) (fun hHeld => ?_)
      clear hK K
      try simp only [Act.put, List.setIfInBounds_toArray, List.set_cons_zero, List.set_cons_succ]
      refine wpAnyH_ready (rs := [11]) (by kernel_rfl) (by simp) ?_
      refine (AllReadyH.cons rfl (fun K hK => ?_) AllReadyH.nil)
      rw [if_pos (by rfl)]
      go_wp2_with fail
      refine (within_any f (-1) 1 _ (by omega) (by omega) (by omega)).mono ?_
      rintro e w' ⟨⟨f', hf1, hf2, rfl⟩, he⟩; obtain rfl := he.symm; clear he
      go_wp2_with fail
      refine hK.out _ _ (hHeld) (fun hHeld => ?_)
      clear hK K
      try simp only [Act.put, List.setIfInBounds_toArray, List.set_cons_zero, List.set_cons_succ]
      refine take_at (i := 12) (v := pv (.slice none 0 0) 0 s' a' k' f') rfl rfl (by kernel_rfl) (by kernel_rfl) (by kernel_rfl) (fun _ _ _ h => h) (Or.inl ⟨by rfl, fun X _ => by go_simp⟩) hHeld ?_
      try simp only [Act.put, List.setIfInBounds_toArray, List.set_cons_zero, List.set_cons_succ]
      refine wpAnyH_ready (rs := [14]) (by kernel_rfl) (by simp) ?_
      refine (AllReadyH.cons rfl (fun K hK => ?_) AllReadyH.nil)
      rw [if_pos (by rfl)]
      go_simp
      refine hK.out _ _ (⟨hV.1.call (below_alloc _ _), bnew hV.2 _⟩) (fun hHeld => ?_)
      clear hK K
      try simp only [Act.put, List.setIfInBounds_toArray, List.set_cons_zero, List.set_cons_succ]
      refine wpAnyH_done (by kernel_rfl) ?_ _
      go_wp2_with fail
      go_meet
      exact ⟨_, s', a', k', f', rfl, hV.2.size, pik_new _ _ _ _ _ _ _, ⟨hs1, hs2⟩, ⟨ha1, ha2⟩, ⟨hk1, hk2⟩, ⟨hf1, hf2⟩, hHeld.2⟩
  case rest =>
    obtain ⟨gp, s', a', k', f', rfl, hgp, p3, hs', ha', hk', hf', bx⟩ := hcut
    have k2 := k1.call bx
    have p2' := p2.call bx
    have b2 := bcall b0 bx
    have hg2V := p2.lt
    clear k1 p2 b0 bx
    have c2 := k2.c2
    have d2 := p3.c2
    have d1 := p3.c1
    have fr := p3.free 1
    obtain ⟨hs1, hs2⟩ := hs'
    go_wp2_with fail
    refine (within_any n s' (4 * s') _ (by omega) (by omega) (by omega)).mono ?_
    rintro e w' ⟨⟨n', hn1, hn2, rfl⟩, he⟩; obtain rfl := he.symm; clear he
    clear c2 d2
    go_upto_region 3 with fail
    have hgw : w.heap.size ≤ gp := by have := hg1.out; have := hg2.out; omega
    have e1 : g1 ≠ gp := by have := hg1.out; have := hg2.out; omega
    have e2 : g2 ≠ gp := by omega
    refine world_gen (fun W => Kpk W g1 (.slice ao lo co) (.slice an ln cn) n s a k f ∧ Pik W g2 (.slice none 0 0) 0 0 0 0 0 ∧ Pik W gp (.slice none 0 0) n' s' a' k' f' ∧ Below w.heap.size w W)
      ⟨k2.heap (Below.heap_setCell _ _ _ _ e1), p2'.heap (Below.heap_setCell _ _ _ _ e2), p3.set1 n', b2.setCell hgw _⟩ ?_
    clear k2 p2' p3 b2 d1 fr
    rintro W2 ⟨k3, p2, p3, b3⟩
    have hB : gp < W2.heap.size := p3.lt
    have b30 := b3
    have hg2W := p2.lt
    obtain ⟨ha1, ha2⟩ := ha'
    obtain ⟨hk1, hk2⟩ := hk'
    obtain ⟨hf1, hf2⟩ := hf'
    go_wp2_with fail
    go_loopw [4] (fun i wr => ∃ (j : Nat) (os : List Oq) (u : Value), j ≤ 4 ∧ j ≤ lo ∧ i = .int .i64 j ∧ Hid (os.length = j) ∧ Hid (∀ o ∈ os, 1 ≤ o.k ∧ o.k ≤ 6 ∧ -5 ≤ o.n ∧ o.n ≤ 9 ∧ rightO o = true) ∧ Kpk wr g1 (.slice ao lo co) (.slice an ln cn) n s a k f ∧ Pik wr g2 (.slice none 0 0) 0 0 0 0 0 ∧ Pik wr gp u n' s' a' k' f' ∧ Hid (wr.ownsRow W2.heap.size 90 2 u j (opl os)) ∧ Hid (u = .slice none 0 0 ↔ j = 0) ∧ Below w.heap.size w wr ∧ W2.heap.size ≤ wr.heap.size) (fun i _ => 4 - (intOf i).toNat)
    case atStart => exact ⟨0, [], _, by decide, Nat.zero_le _, rfl, rfl, (fun o ho => by cases ho), k3, p2, p3, World.ownsRow_nil _ _ _ _, ⟨fun _ => rfl, fun _ => rfl⟩, b3, Nat.le_refl _⟩
    case round =>
      clear k3 p2 p3 b3
      obtain ⟨j, os, u, hj4, hjlo, rfl, hjl, hos, k3, p2, p3, hown, hnil, b3, hWV⟩ := hrel
      obtain ⟨V, hVe⟩ : ∃ V, V = wr := ⟨_, rfl⟩
      subst hVe
      obtain ⟨ua, uc, rfl⟩ : ∃ ua uc, u = .slice ua j uc := by
        obtain ⟨_, h | ⟨g', cap', cur, rfl, _⟩⟩ := hown.out
        · rw [h.2, h.1]; exact ⟨_, _, rfl⟩
        · exact ⟨_, _, rfl⟩
      by_cases hlt : j < lo
      case neg =>
        have c0 := k3.c0
        have q0 := p3.c0
        have q1 := p3.c1
        have q2 := p3.c2
        have q3 := p3.c3
        have q4 := p3.c4
        have q5 := p3.c5
        have d0 := p2.c0
        have d1 := p2.c1
        have d2 := p2.c2
        have d3 := p2.c3
        have d4 := p2.c4
        have d5 := p2.c5
        have f0 := p2.free 0
        have f1 := p2.free 1
        have f2 := p2.free 2
        have f3 := p2.free 3
        have f4 := p2.free 4
        have f5 := p2.free 5
        go_wp2_with fail
        have z := p2.set6 (.slice ua j uc) n' s' a' k' f'
        have z0 := z.c0
        have z1 := z.c1
        have z2 := z.c2
        have z3 := z.c3
        have z4 := z.c4
        have z5 := z.c5
        refine bodyPost_ret (v := pv (.slice ua j uc) n' s' a' k' f') (by simp [results, Try.results16, go_sem, z0, z1, z2, z3, z4, z5]) rfl ⟨⟨os, n', s', a', k', f'⟩, _, ⟨by have := hjl.out; simp only; omega, hos.out, hs1, hs2, hn1, hn2, ha1, ha2, hk1, hk2, hf1, hf2⟩, rfl, ?_, ?_, below_set6 b3 (by have := hg2.out; omega) _ _ _ _ _ _⟩
        · simp only
          rw [hjl.out]
          refine own_base (own_heap hown.out (fun k hk => ?_)) (Nat.le_trans b30.size (Nat.le_refl _))
          have hne : k ≠ g2 := by omega
          rw [Below.heap_setCell _ _ _ _ hne, Below.heap_setCell _ _ _ _ hne, Below.heap_setCell _ _ _ _ hne, Below.heap_setCell _ _ _ _ hne, Below.heap_setCell _ _ _ _ hne, Below.heap_setCell _ _ _ _ hne]
        · simp only
          rw [hjl.out]; exact hnil.out
      by_cases h4 : j < 4
      case neg =>
        have c0 := k3.c0
        have q0 := p3.c0
        have q1 := p3.c1
        have q2 := p3.c2
        have q3 := p3.c3
        have q4 := p3.c4
        have q5 := p3.c5
        have d0 := p2.c0
        have d1 := p2.c1
        have d2 := p2.c2
        have d3 := p2.c3
        have d4 := p2.c4
        have d5 := p2.c5
        have f0 := p2.free 0
        have f1 := p2.free 1
        have f2 := p2.free 2
        have f3 := p2.free 3
        have f4 := p2.free 4
        have f5 := p2.free 5
        go_wp2_with fail
        have z := p2.set6 (.slice ua j uc) n' s' a' k' f'
        have z0 := z.c0
        have z1 := z.c1
        have z2 := z.c2
        have z3 := z.c3
        have z4 := z.c4
        have z5 := z.c5
        refine bodyPost_ret (v := pv (.slice ua j uc) n' s' a' k' f') (by simp [results, Try.results16, go_sem, z0, z1, z2, z3, z4, z5]) rfl ⟨⟨os, n', s', a', k', f'⟩, _, ⟨by have := hjl.out; simp only; omega, hos.out, hs1, hs2, hn1, hn2, ha1, ha2, hk1, hk2, hf1, hf2⟩, rfl, ?_, ?_, below_set6 b3 (by have := hg2.out; omega) _ _ _ _ _ _⟩
        · simp only
          rw [hjl.out]
          refine own_base (own_heap hown.out (fun k hk => ?_)) (Nat.le_trans b30.size (Nat.le_refl _))
          have hne : k ≠ g2 := by omega
          rw [Below.heap_setCell _ _ _ _ hne, Below.heap_setCell _ _ _ _ hne, Below.heap_setCell _ _ _ _ hne, Below.heap_setCell _ _ _ _ hne, Below.heap_setCell _ _ _ _ hne, Below.heap_setCell _ _ _ _ hne]
        · simp only
          rw [hjl.out]; exact hnil.out
      obtain ⟨b, off, x, rfl, hbw, hx0⟩ := ho'.out.2.2.2 j hlt
      have hx := (b3.cell (p := ⟨b, off + j, none⟩) hbw).trans hx0
      have hbV : b < V.heap.size := Nat.lt_of_lt_of_le hbw b3.size
      clear hx0
      have c0 := k3.c0
      go_upto_region 6 with fail
      clear c0
      have hC0 : (0 : Int) ≤ (j : Int) := by omega
      have hC1 : (j : Int) < (lo : Int) := by omega
      go_cut [5] (fun q wx => ∃ go c m, q = .pointer (some ⟨go, 0, none⟩) ∧ V.heap.size ≤ go ∧ Opk wx go c m ∧ (1 ≤ c ∧ c ≤ 6) ∧ (-5 ≤ m ∧ m ≤ 9) ∧ Below V.heap.size V wx)
      case first =>
        refine wp_region_held_drew (S := fun w' => Kpk w' g1 (.slice (some ⟨b, off, none⟩) lo co) (.slice an ln cn) n s a k f ∧ w'.cell? ⟨b, off + j, none⟩ = some (.int .i64 x) ∧ Below V.heap.size V w') (by kernel_rfl) ⟨k3, hx, (Below.refl _ _).drew⟩ (fun hHeld => ?_)
        generalize V.drew = V1 at hHeld ⊢
        have hV := hHeld
        refine take_at (i := 0) (v := .pointer (some ⟨g1, 0, none⟩)) rfl rfl (by kernel_rfl) (by kernel_rfl) (by kernel_rfl) (fun _ _ _ h => h) (Or.inl ⟨by rfl, fun X _ => by go_simp⟩) hHeld ?_
        try simp only [Act.put, List.setIfInBounds_toArray, List.set_cons_zero, List.set_cons_succ]
        refine take_at (i := 1) (v := .slice (some ⟨b, off, none⟩) lo co) rfl rfl (by kernel_rfl) (by kernel_rfl) (by kernel_rfl) (fun _ _ _ h => h) (Or.inl ⟨by rfl, fun X hX => by obtain ⟨ka, cx, _⟩ := hX; have c0 := ka.c0; have c1 := ka.c1; go_simp⟩) hHeld ?_
        try simp only [Act.put, List.setIfInBounds_toArray, List.set_cons_zero, List.set_cons_succ]
        refine take_at (i := 2) (v := .int .i64 (j : Int)) rfl rfl (by kernel_rfl) (by kernel_rfl) (by kernel_rfl) (fun _ _ _ h => h) (Or.inl ⟨by rfl, fun X _ => by go_simp⟩) hHeld ?_
        try simp only [Act.put, List.setIfInBounds_toArray, List.set_cons_zero, List.set_cons_succ]
        refine take_at (i := 3) (v := .pointer (some ⟨b, off + j, none⟩)) rfl rfl (by kernel_rfl) (by kernel_rfl) (by kernel_rfl) (fun _ _ _ h => h) (Or.inl ⟨by rfl, fun X _ => by go_simp⟩) hHeld ?_
        try simp only [Act.put, List.setIfInBounds_toArray, List.set_cons_zero, List.set_cons_succ]
        refine take_at (i := 4) (v := .int .i64 x) rfl rfl (by kernel_rfl) (by kernel_rfl) (by kernel_rfl) (fun _ _ _ h => h) (Or.inl ⟨by rfl, fun X hX => by obtain ⟨ka, cx, _⟩ := hX; have c0 := ka.c0; have c1 := ka.c1; go_simp⟩) hHeld ?_
        try simp only [Act.put, List.setIfInBounds_toArray, List.set_cons_zero, List.set_cons_succ]
        refine take_at (i := 6) (v := .pointer (some ⟨g1, 1, none⟩)) rfl rfl (by kernel_rfl) (by kernel_rfl) (by kernel_rfl) (fun _ _ _ h => h) (Or.inl ⟨by rfl, fun X _ => by go_simp⟩) hHeld ?_
        try simp only [Act.put, List.setIfInBounds_toArray, List.set_cons_zero, List.set_cons_succ]
        refine take_at (i := 7) (v := .slice an ln cn) rfl rfl (by kernel_rfl) (by kernel_rfl) (by kernel_rfl) (fun _ _ _ h => h) (Or.inl ⟨by rfl, fun X hX => by obtain ⟨ka, cx, _⟩ := hX; have c0 := ka.c0; have c1 := ka.c1; go_simp⟩) hHeld ?_
        try simp only [Act.put, List.setIfInBounds_toArray, List.set_cons_zero, List.set_cons_succ]
        refine take_at (i := 8) (v := .int .i64 (j : Int)) rfl rfl (by kernel_rfl) (by kernel_rfl) (by kernel_rfl) (fun _ _ _ h => h) (Or.inl ⟨by rfl, fun X _ => by go_simp⟩) hHeld ?_
        try simp only [Act.put, List.setIfInBounds_toArray, List.set_cons_zero, List.set_cons_succ]
        refine wpAnyH_ready (rs := [5, 12]) (by kernel_rfl) (by simp) ?_
        refine (AllReadyH.cons rfl (fun K hK => ?_) (AllReadyH.cons rfl (fun K hK => ?_) AllReadyH.nil))
        · rw [if_pos (by rfl)]
          go_wp2_with fail
          refine (within_any x 1 6 _ (by omega) (by omega) (by omega)).mono ?_
          rintro e w' ⟨⟨c, hc1, hc2, rfl⟩, he⟩; obtain rfl := he.symm; clear he
          go_wp2_with fail
          refine hK.out _ _ (hHeld) (fun hHeld => ?_)
          clear hK K
          try simp only [Act.put, List.setIfInBounds_toArray, List.set_cons_zero, List.set_cons_succ]
          refine wpAnyH_ready (rs := [9, 12]) (by kernel_rfl) (by simp) ?_
          refine (AllReadyH.cons rfl (fun K hK => ?_) (AllReadyH.cons rfl (fun K hK => ?_) AllReadyH.nil))
          · rw [if_pos (by rfl)]
            go_wp2_with fail
            refine (pick_any an ln cn j _ (hn'.out.below (bcall b3 hHeld.2.2) (Nat.le_refl _) (bcall b3 hHeld.2.2).size) (by omega)).mono ?_
            rintro e w' ⟨⟨y, rfl⟩, he⟩; obtain rfl := he.symm; clear he
            go_wp2_with fail
            refine hK.out _ _ (hHeld) (fun hHeld => ?_)
            clear hK K
            try simp only [Act.put, List.setIfInBounds_toArray, List.set_cons_zero, List.set_cons_succ]
            refine wpAnyH_ready (rs := [10, 12]) (by kernel_rfl) (by simp) ?_
            refine (AllReadyH.cons rfl (fun K hK => ?_) (AllReadyH.cons rfl (fun K hK => ?_) AllReadyH.nil))
            · rw [if_pos (by rfl)]
              go_wp2_with fail
              refine (within_any y (-5) 9 _ (by omega) (by omega) (by omega)).mono ?_
              rintro e w' ⟨⟨m, hm1, hm2, rfl⟩, he⟩; obtain rfl := he.symm; clear he
              go_wp2_with fail
              refine hK.out _ _ (hHeld) (fun hHeld => ?_)
              clear hK K
              try simp only [Act.put, List.setIfInBounds_toArray, List.set_cons_zero, List.set_cons_succ]
              refine take_at (i := 11) (v := opv c m) rfl rfl (by kernel_rfl) (by kernel_rfl) (by kernel_rfl) (fun _ _ _ h => h) (Or.inl ⟨by rfl, fun X _ => by go_simp⟩) hHeld ?_
              try simp only [Act.put, List.setIfInBounds_toArray, List.set_cons_zero, List.set_cons_succ]
              refine wpAnyH_ready (rs := [12]) (by kernel_rfl) (by simp) ?_
              refine (AllReadyH.cons rfl (fun K hK => ?_) AllReadyH.nil)
              rw [if_pos (by rfl)]
              go_simp
              refine hK.out _ _ (⟨hV.1.call (below_alloc _ _), ((below_alloc _ _).cell (p := ⟨b, off + j, none⟩) (Nat.lt_of_lt_of_le hbV hV.2.2.size)).trans hV.2.1, bnew hV.2.2 _⟩) (fun hHeld => ?_)
              clear hK K
              try simp only [Act.put, List.setIfInBounds_toArray, List.set_cons_zero, List.set_cons_succ]
              refine wpAnyH_ready (rs := [13]) (by kernel_rfl) (by simp) ?_
              refine (AllReadyH.cons rfl (fun K hK => ?_) AllReadyH.nil)
              rw [if_pos (by rfl)]
              go_simp
              refine hK.out _ _ (⟨hV.1.call (below_alloc _ _), ((below_alloc _ _).cell (p := ⟨b, off + j, none⟩) (Nat.lt_of_lt_of_le hbV hV.2.2.size)).trans hV.2.1, bnew hV.2.2 _⟩) (fun hHeld => ?_)
              clear hK K
              try simp only [Act.put, List.setIfInBounds_toArray, List.set_cons_zero, List.set_cons_succ]
              refine wpAnyH_done (by kernel_rfl) ?_ _
              go_wp2_with fail
              go_meet
              exact ⟨_, c, m, rfl, hV.2.2.size, opk_new _ _ _, ⟨hc1, hc2⟩, ⟨hm1, hm2⟩, hHeld.2.2⟩
            · rw [if_pos (by rfl)]
              go_simp
              refine hK.out _ _ (⟨hV.1.call (below_alloc _ _), ((below_alloc _ _).cell (p := ⟨b, off + j, none⟩) (Nat.lt_of_lt_of_le hbV hV.2.2.size)).trans hV.2.1, bnew hV.2.2 _⟩) (fun hHeld => ?_)
              clear hK K
              try simp only [Act.put, List.setIfInBounds_toArray, List.set_cons_zero, List.set_cons_succ]
              refine wpAnyH_ready (rs := [10]) (by kernel_rfl) (by simp) ?_
              refine (AllReadyH.cons rfl (fun K hK => ?_) AllReadyH.nil)
              rw [if_pos (by rfl)]
              go_wp2_with fail
              refine (within_any y (-5) 9 _ (by omega) (by omega) (by omega)).mono ?_
              rintro e w' ⟨⟨m, hm1, hm2, rfl⟩, he⟩; obtain rfl := he.symm; clear he
              go_wp2_with fail
              refine hK.out _ _ (hHeld) (fun hHeld => ?_)
              clear hK K
              try simp only [Act.put, List.setIfInBounds_toArray, List.set_cons_zero, List.set_cons_succ]
              refine take_at (i := 11) (v := opv c m) rfl rfl (by kernel_rfl) (by kernel_rfl) (by kernel_rfl) (fun _ _ _ h => h) (Or.inl ⟨by rfl, fun X _ => by go_simp⟩) hHeld ?_
              try simp only [Act.put, List.setIfInBounds_toArray, List.set_cons_zero, List.set_cons_succ]
              refine wpAnyH_ready (rs := [13]) (by kernel_rfl) (by simp) ?_
              refine (AllReadyH.cons rfl (fun K hK => ?_) AllReadyH.nil)
              rw [if_pos (by rfl)]
              go_simp
              refine hK.out _ _ (⟨hV.1.call (below_alloc _ _), ((below_alloc _ _).cell (p := ⟨b, off + j, none⟩) (Nat.lt_of_lt_of_le hbV hV.2.2.size)).trans hV.2.1, bnew hV.2.2 _⟩) (fun hHeld => ?_)
              clear hK K
              try simp only [Act.put, List.setIfInBounds_toArray, List.set_cons_zero, List.set_cons_succ]
              refine wpAnyH_done (by kernel_rfl) ?_ _
              go_wp2_with fail
              go_meet
              exact ⟨_, c, m, rfl, hV.2.2.size, opk_new _ _ _, ⟨hc1, hc2⟩, ⟨hm1, hm2⟩, hHeld.2.2⟩
          · rw [if_pos (by rfl)]
            go_simp
            refine hK.out _ _ (⟨hV.1.call (below_alloc _ _), ((below_alloc _ _).cell (p := ⟨b, off + j, none⟩) (Nat.lt_of_lt_of_le hbV hV.2.2.size)).trans hV.2.1, bnew hV.2.2 _⟩) (fun hHeld => ?_)
            clear hK K
            try simp only [Act.put, List.setIfInBounds_toArray, List.set_cons_zero, List.set_cons_succ]
            refine wpAnyH_ready (rs := [9]) (by kernel_rfl) (by simp) ?_
            refine (AllReadyH.cons rfl (fun K hK => ?_) AllReadyH.nil)
            rw [if_pos (by rfl)]
            go_wp2_with fail
            refine (pick_any an ln cn j _ (hn'.out.below (bcall b3 hHeld.2.2) (Nat.le_refl _) (bcall b3 hHeld.2.2).size) (by omega)).mono ?_
            rintro e w' ⟨⟨y, rfl⟩, he⟩; obtain rfl := he.symm; clear he
            go_wp2_with fail
            refine hK.out _ _ (hHeld) (fun hHeld => ?_)
            clear hK K
            try simp only [Act.put, List.setIfInBounds_toArray, List.set_cons_zero, List.set_cons_succ]
            refine wpAnyH_ready (rs := [10]) (by kernel_rfl) (by simp) ?_
            refine (AllReadyH.cons rfl (fun K hK => ?_) AllReadyH.nil)
            rw [if_pos (by rfl)]
            go_wp2_with fail
            refine (within_any y (-5) 9 _ (by omega) (by omega) (by omega)).mono ?_
            rintro e w' ⟨⟨m, hm1, hm2, rfl⟩, he⟩; obtain rfl := he.symm; clear he
            go_wp2_with fail
            refine hK.out _ _ (hHeld) (fun hHeld => ?_)
            clear hK K
            try simp only [Act.put, List.setIfInBounds_toArray, List.set_cons_zero, List.set_cons_succ]
            refine take_at (i := 11) (v := opv c m) rfl rfl (by kernel_rfl) (by kernel_rfl) (by kernel_rfl) (fun _ _ _ h => h) (Or.inl ⟨by rfl, fun X _ => by go_simp⟩) hHeld ?_
            try simp only [Act.put, List.setIfInBounds_toArray, List.set_cons_zero, List.set_cons_succ]
            refine wpAnyH_ready (rs := [13]) (by kernel_rfl) (by simp) ?_
            refine (AllReadyH.cons rfl (fun K hK => ?_) AllReadyH.nil)
            rw [if_pos (by rfl)]
            go_simp
            refine hK.out _ _ (⟨hV.1.call (below_alloc _ _), ((below_alloc _ _).cell (p := ⟨b, off + j, none⟩) (Nat.lt_of_lt_of_le hbV hV.2.2.size)).trans hV.2.1, bnew hV.2.2 _⟩) (fun hHeld => ?_)
            clear hK K
            try simp only [Act.put, List.setIfInBounds_toArray, List.set_cons_zero, List.set_cons_succ]
            refine wpAnyH_done (by kernel_rfl) ?_ _
            go_wp2_with fail
            go_meet
            exact ⟨_, c, m, rfl, hV.2.2.size, opk_new _ _ _, ⟨hc1, hc2⟩, ⟨hm1, hm2⟩, hHeld.2.2⟩
        · rw [if_pos (by rfl)]
          go_simp
          refine hK.out _ _ (⟨hV.1.call (below_alloc _ _), ((below_alloc _ _).cell (p := ⟨b, off + j, none⟩) (Nat.lt_of_lt_of_le hbV hV.2.2.size)).trans hV.2.1, bnew hV.2.2 _⟩) (fun hHeld => ?_)
          clear hK K
          try simp only [Act.put, List.setIfInBounds_toArray, List.set_cons_zero, List.set_cons_succ]
          refine wpAnyH_ready (rs := [5]) (by kernel_rfl) (by simp) ?_
          refine (AllReadyH.cons rfl (fun K hK => ?_) AllReadyH.nil)
          rw [if_pos (by rfl)]
          go_wp2_with fail
          refine (within_any x 1 6 _ (by omega) (by omega) (by omega)).mono ?_
          rintro e w' ⟨⟨c, hc1, hc2, rfl⟩, he⟩; obtain rfl := he.symm; clear he
          go_wp2_with fail
          refine hK.out _ _ (hHeld) (fun hHeld => ?_)
          clear hK K
          try simp only [Act.put, List.setIfInBounds_toArray, List.set_cons_zero, List.set_cons_succ]
          refine wpAnyH_ready (rs := [9]) (by kernel_rfl) (by simp) ?_
          refine (AllReadyH.cons rfl (fun K hK => ?_) AllReadyH.nil)
          rw [if_pos (by rfl)]
          go_wp2_with fail
          refine (pick_any an ln cn j _ (hn'.out.below (bcall b3 hHeld.2.2) (Nat.le_refl _) (bcall b3 hHeld.2.2).size) (by omega)).mono ?_
          rintro e w' ⟨⟨y, rfl⟩, he⟩; obtain rfl := he.symm; clear he
          go_wp2_with fail
          refine hK.out _ _ (hHeld) (fun hHeld => ?_)
          clear hK K
          try simp only [Act.put, List.setIfInBounds_toArray, List.set_cons_zero, List.set_cons_succ]
          refine wpAnyH_ready (rs := [10]) (by kernel_rfl) (by simp) ?_
          refine (AllReadyH.cons rfl (fun K hK => ?_) AllReadyH.nil)
          rw [if_pos (by rfl)]
          go_wp2_with fail
          refine (within_any y (-5) 9 _ (by omega) (by omega) (by omega)).mono ?_
          rintro e w' ⟨⟨m, hm1, hm2, rfl⟩, he⟩; obtain rfl := he.symm; clear he
          go_wp2_with fail
          refine hK.out _ _ (hHeld) (fun hHeld => ?_)
          clear hK K
          try simp only [Act.put, List.setIfInBounds_toArray, List.set_cons_zero, List.set_cons_succ]
          refine take_at (i := 11) (v := opv c m) rfl rfl (by kernel_rfl) (by kernel_rfl) (by kernel_rfl) (fun _ _ _ h => h) (Or.inl ⟨by rfl, fun X _ => by go_simp⟩) hHeld ?_
          try simp only [Act.put, List.setIfInBounds_toArray, List.set_cons_zero, List.set_cons_succ]
          refine wpAnyH_ready (rs := [13]) (by kernel_rfl) (by simp) ?_
          refine (AllReadyH.cons rfl (fun K hK => ?_) AllReadyH.nil)
          rw [if_pos (by rfl)]
          go_simp
          refine hK.out _ _ (⟨hV.1.call (below_alloc _ _), ((below_alloc _ _).cell (p := ⟨b, off + j, none⟩) (Nat.lt_of_lt_of_le hbV hV.2.2.size)).trans hV.2.1, bnew hV.2.2 _⟩) (fun hHeld => ?_)
          clear hK K
          try simp only [Act.put, List.setIfInBounds_toArray, List.set_cons_zero, List.set_cons_succ]
          refine wpAnyH_done (by kernel_rfl) ?_ _
          go_wp2_with fail
          go_meet
          exact ⟨_, c, m, rfl, hV.2.2.size, opk_new _ _ _, ⟨hc1, hc2⟩, ⟨hm1, hm2⟩, hHeld.2.2⟩
      case rest =>
        obtain ⟨go, c, m, rfl, hgo, ok0, hc, hm, bx⟩ := hcut
        obtain ⟨hc1, hc2⟩ := hc
        obtain ⟨hm1, hm2⟩ := hm
        clear hx
        by_cases hck : c = 3
        · subst hck
          have o0 := ok0.c0
          have o1 := ok0.c1
          have fr := ok0.free 1
          go_wp2_with fail
          refine (within_any m 1 4 _ (by omega) (by omega) (by omega)).mono ?_
          rintro e w' ⟨⟨m', hm3, hm4, rfl⟩, he⟩; obtain rfl := he.symm; clear he
          have hro : rightO ⟨3, m'⟩ = true := by unfold rightO; simp; omega
          have hg1p : g1 < gp := by have := hg1.out; have := hg2.out; omega
          go_upto_region 12 with fail
          refine world_gen (fun W => Opk W go 3 m' ∧ Below V.heap.size V W) ⟨ok0.set1 m', bx.setCell hgo _⟩ ?_
          rintro W ⟨ok, bW⟩
          clear bx
          have k4 := k3.call bW
          have p4 := p2.call bW
          have p5 := p3.call bW
          have own4 := own_below hown.out bW
          have b4 := bcall b3 bW
          have o0 := ok.c0
          have o1 := ok.c1
          have c0 := p5.c0
          have hWs : W2.heap.size ≤ W.heap.size := Nat.le_trans hWV bW.size
          go_upto_region 5 with (at_builtin; refine wpList_append_own _ rfl _ _ 24 rfl W2.heap.size 90 i0 _ 2 16 Try.underlying24 hi hz0 hz1 hz2 rfl (by decide) _ _ _ rfl (own4.alloc _) ⟨W.heap.size, 0, none⟩ 1 1 (opCells ⟨3, m'⟩) rfl rfl (lit_cells W 3 m') (by intro u hu; simp only [opCells, List.mem_cons, List.not_mem_nil, or_false] at hu; rcases hu with rfl | rfl <;> rfl) (by simp only [maxLen]; omega) (by omega) (by simp; omega) ?_; intro v' w5 hown' hgrow hnl; obtain ⟨g', cap', rfl⟩ := ownsRow_succ hown'; have hb5 : Below W2.heap.size W w5 := (((Below.refl _ W).alloc hWs _).grown hgrow (by simp; omega) (fun k hk => (own4.lt k hk).1)); have p6 := p5.below hb5 hB; have q0 := p6.c0; have fq := p6.free 0)
          have hown5 : Hid (w5.ownsRow W2.heap.size 90 2 (.slice (some ⟨g', 0, none⟩) (j + 1) cap') (j + 1) (opl (os ++ [⟨3, m'⟩]))) := by
            have h : opl (os ++ [(⟨3, m'⟩ : Oq)]) = opl os ++ opCells ⟨3, m'⟩ := by rw [opl_append]; simp [opl]
            rw [h]; exact hown'
          have k6 := k4.below hb5 (Nat.lt_trans (by omega) hB)
          have p7 := p4.below hb5 hg2W
          have b5 := b4.trans (hb5.mono b30.size)
          have hs5 : W2.heap.size ≤ w5.heap.size := Nat.le_trans hWs hb5.size
          clear hown' hgrow hnl own4 k4 p4 p5 b4 hb5
          go_wp2_with fail
          go_roundw
          case rel =>
            refine ⟨j + 1, os ++ [⟨3, m'⟩], _, by omega, by omega, by go_num, ?_, ?_, k6.heap (Below.heap_setCell _ _ _ _ e1), p7.heap (Below.heap_setCell _ _ _ _ e2), p6.set0 _, own_heap hown5.out (fun k hk => Below.heap_setCell _ _ _ _ (show k ≠ gp by omega)), ⟨(fun h => by cases h), (fun h => by omega)⟩, b5.setCell hgw _, ?_⟩
            · have := hjl.out
              show (os ++ [_]).length = j + 1
              rw [List.length_append, this]; rfl
            · intro o ho
              rcases List.mem_append.1 ho with h | h
              · exact hos.out o h
              · rw [List.mem_singleton.1 h]; exact ⟨by simp only; omega, by simp only; omega, by simp only; omega, by simp only; omega, hro⟩
            · simpa [World.setCell] using hs5
          case measure => simp [intOf]; omega
        by_cases hcl : c = 6
        · subst hcl
          have o0 := ok0.c0
          have o1 := ok0.c1
          have fr := ok0.free 1
          go_wp2_with fail
          refine (within_any m 0 2 _ (by omega) (by omega) (by omega)).mono ?_
          rintro e w' ⟨⟨m', hm3, hm4, rfl⟩, he⟩; obtain rfl := he.symm; clear he
          have hro : rightO ⟨6, m'⟩ = true := by unfold rightO; simp; omega
          have hg1p : g1 < gp := by have := hg1.out; have := hg2.out; omega
          go_upto_region 12 with fail
          refine world_gen (fun W => Opk W go 6 m' ∧ Below V.heap.size V W) ⟨ok0.set1 m', bx.setCell hgo _⟩ ?_
          rintro W ⟨ok, bW⟩
          clear bx
          have k4 := k3.call bW
          have p4 := p2.call bW
          have p5 := p3.call bW
          have own4 := own_below hown.out bW
          have b4 := bcall b3 bW
          have o0 := ok.c0
          have o1 := ok.c1
          have c0 := p5.c0
          have hWs : W2.heap.size ≤ W.heap.size := Nat.le_trans hWV bW.size
          go_upto_region 5 with (at_builtin; refine wpList_append_own _ rfl _ _ 24 rfl W2.heap.size 90 i0 _ 2 16 Try.underlying24 hi hz0 hz1 hz2 rfl (by decide) _ _ _ rfl (own4.alloc _) ⟨W.heap.size, 0, none⟩ 1 1 (opCells ⟨6, m'⟩) rfl rfl (lit_cells W 6 m') (by intro u hu; simp only [opCells, List.mem_cons, List.not_mem_nil, or_false] at hu; rcases hu with rfl | rfl <;> rfl) (by simp only [maxLen]; omega) (by omega) (by simp; omega) ?_; intro v' w5 hown' hgrow hnl; obtain ⟨g', cap', rfl⟩ := ownsRow_succ hown'; have hb5 : Below W2.heap.size W w5 := (((Below.refl _ W).alloc hWs _).grown hgrow (by simp; omega) (fun k hk => (own4.lt k hk).1)); have p6 := p5.below hb5 hB; have q0 := p6.c0; have fq := p6.free 0)
          have hown5 : Hid (w5.ownsRow W2.heap.size 90 2 (.slice (some ⟨g', 0, none⟩) (j + 1) cap') (j + 1) (opl (os ++ [⟨6, m'⟩]))) := by
            have h : opl (os ++ [(⟨6, m'⟩ : Oq)]) = opl os ++ opCells ⟨6, m'⟩ := by rw [opl_append]; simp [opl]
            rw [h]; exact hown'
          have k6 := k4.below hb5 (Nat.lt_trans (by omega) hB)
          have p7 := p4.below hb5 hg2W
          have b5 := b4.trans (hb5.mono b30.size)
          have hs5 : W2.heap.size ≤ w5.heap.size := Nat.le_trans hWs hb5.size
          clear hown' hgrow hnl own4 k4 p4 p5 b4 hb5
          go_wp2_with fail
          go_roundw
          case rel =>
            refine ⟨j + 1, os ++ [⟨6, m'⟩], _, by omega, by omega, by go_num, ?_, ?_, k6.heap (Below.heap_setCell _ _ _ _ e1), p7.heap (Below.heap_setCell _ _ _ _ e2), p6.set0 _, own_heap hown5.out (fun k hk => Below.heap_setCell _ _ _ _ (show k ≠ gp by omega)), ⟨(fun h => by cases h), (fun h => by omega)⟩, b5.setCell hgw _, ?_⟩
            · have := hjl.out
              show (os ++ [_]).length = j + 1
              rw [List.length_append, this]; rfl
            · intro o ho
              rcases List.mem_append.1 ho with h | h
              · exact hos.out o h
              · rw [List.mem_singleton.1 h]; exact ⟨by simp only; omega, by simp only; omega, by simp only; omega, by simp only; omega, hro⟩
            · simpa [World.setCell] using hs5
          case measure => simp [intOf]; omega
        have h3 := beq_no6 hck
        have h6 := beq_no6 hcl
        have hro : rightO ⟨c, m⟩ = true := by unfold rightO; simp [hck, hcl]; omega
        have o0 := ok0.c0
        have o1 := ok0.c1
        have hg1p : g1 < gp := by have := hg1.out; have := hg2.out; omega
        go_upto_region 12 with fail
        refine world_gen (fun W => Opk W go c m ∧ Below V.heap.size V W) ⟨ok0, bx⟩ ?_
        rintro W ⟨ok, bW⟩
        clear bx
        have k4 := k3.call bW
        have p4 := p2.call bW
        have p5 := p3.call bW
        have own4 := own_below hown.out bW
        have b4 := bcall b3 bW
        have o0 := ok.c0
        have o1 := ok.c1
        have c0 := p5.c0
        have hWs : W2.heap.size ≤ W.heap.size := Nat.le_trans hWV bW.size
        go_upto_region 5 with (at_builtin; refine wpList_append_own _ rfl _ _ 24 rfl W2.heap.size 90 i0 _ 2 16 Try.underlying24 hi hz0 hz1 hz2 rfl (by decide) _ _ _ rfl (own4.alloc _) ⟨W.heap.size, 0, none⟩ 1 1 (opCells ⟨c, m⟩) rfl rfl (lit_cells W c m) (by intro u hu; simp only [opCells, List.mem_cons, List.not_mem_nil, or_false] at hu; rcases hu with rfl | rfl <;> rfl) (by simp only [maxLen]; omega) (by omega) (by simp; omega) ?_; intro v' w5 hown' hgrow hnl; obtain ⟨g', cap', rfl⟩ := ownsRow_succ hown'; have hb5 : Below W2.heap.size W w5 := (((Below.refl _ W).alloc hWs _).grown hgrow (by simp; omega) (fun k hk => (own4.lt k hk).1)); have p6 := p5.below hb5 hB; have q0 := p6.c0; have fq := p6.free 0)
        have hown5 : Hid (w5.ownsRow W2.heap.size 90 2 (.slice (some ⟨g', 0, none⟩) (j + 1) cap') (j + 1) (opl (os ++ [⟨c, m⟩]))) := by
          have h : opl (os ++ [(⟨c, m⟩ : Oq)]) = opl os ++ opCells ⟨c, m⟩ := by rw [opl_append]; simp [opl]
          rw [h]; exact hown'
        have k6 := k4.below hb5 (Nat.lt_trans (by omega) hB)
        have p7 := p4.below hb5 hg2W
        have b5 := b4.trans (hb5.mono b30.size)
        have hs5 : W2.heap.size ≤ w5.heap.size := Nat.le_trans hWs hb5.size
        clear hown' hgrow hnl own4 k4 p4 p5 b4 hb5
        go_wp2_with fail
        go_roundw
        case rel =>
          refine ⟨j + 1, os ++ [⟨c, m⟩], _, by omega, by omega, by go_num, ?_, ?_, k6.heap (Below.heap_setCell _ _ _ _ e1), p7.heap (Below.heap_setCell _ _ _ _ e2), p6.set0 _, own_heap hown5.out (fun k hk => Below.heap_setCell _ _ _ _ (show k ≠ gp by omega)), ⟨(fun h => by cases h), (fun h => by omega)⟩, b5.setCell hgw _, ?_⟩
          · have := hjl.out
            show (os ++ [_]).length = j + 1
            rw [List.length_append, this]; rfl
          · intro o ho
            rcases List.mem_append.1 ho with h | h
            · exact hos.out o h
            · rw [List.mem_singleton.1 h]; exact ⟨by simp only; omega, by simp only; omega, by simp only; omega, by simp only; omega, hro⟩
          · simpa [World.setCell] using hs5
        case measure => simp [intOf]; omega
end Go.Proofs.Ytnamjnopicghhaa.O
