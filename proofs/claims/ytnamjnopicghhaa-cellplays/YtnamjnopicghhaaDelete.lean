/- What slices.Delete and Panes.Close do. -/
import Derived.Test.YtnamjnopicghhaaEnded
namespace Go.Proofs.Ytnamjnopicghhaa
open Go.RowKit M
set_option linter.unusedVariables false
set_option linter.unusedSimpArgs false
attribute [local go_sem ↓] Go.wp_at_zero Go.wp_at_succ

theorem zeros_one (k : Nat) : ∀ u ∈ (Builtin.zeroCells pzero.cells k).toList, u.oneCell' = true := by
  intro u hu
  have hu2 : ∃ a, a < k * pzero.cells.size ∧ pzero.cells[a % pzero.cells.size]! = u := by simpa [Builtin.zeroCells] using hu
  obtain ⟨a, _, rfl⟩ := hu2
  have hs : pzero.cells.size = 6 := rfl
  rw [hs]
  have hr : a % 6 < 6 := by omega
  generalize a % 6 = r at hr
  match r, hr with
  | 0, _ => rfl
  | 1, _ => rfl
  | 2, _ => rfl
  | 3, _ => rfl
  | 4, _ => rfl
  | 5, _ => rfl
theorem run_clear_rows (w : World) (ty : TypeId) (g o k c : Nat) (cur : Array Value) (hg : w.heap[g]? = some (.cells cur 132 (0, 0))) (h0 : 0 < k) (hfit : o + k * 6 ≤ cur.size) :
    (Builtin.clear_ #[106] ty #[.slice (some ⟨g, o, none⟩) k c]).run Try.prog w = .ok (.tuple #[]) (w.setRow g (splice cur.toList o (Builtin.zeroCells pzero.cells k).toList).toArray) := by
  obtain ⟨i, hi, hz0, hz1, hz2⟩ := info_parts Try.info132
  have hst := run_storeCells_at Try.prog g o 132 (Builtin.zeroCells pzero.cells k).toList 0 cur w hg (by simp only [Array.length_toList, zeros_size]; omega) (zeros_one k)
  obtain ⟨k', rfl⟩ : ∃ k', k = k' + 1 := ⟨k - 1, by omega⟩
  simp only [Nat.add_zero] at hst
  simp [Builtin.clear_, run_underlying Try.underlying106, zeroValue, typeInfo, hi, hz0, hst, splice]
/-- Nothing is deleted. -/
theorem delete_none (v : Value) (o : Nat) (K : Int) (L : List Pn) (w : World) (hS : Sl w v o K L) :
    Calls Try.prog 79 #[v, .int .i64 0, .int .i64 0] w fun e w' => e = .returned v ∧ w' = w := by
  rcases hS with ⟨rfl, rfl⟩ | ⟨cap, rfl, hP⟩
  · go_enter Try.func79, Try.ntmps79
    go_wp2_with fail
    go_ret
    exact ⟨rfl, rfl⟩
  · have hn1 : L.length ≤ cap := by obtain ⟨_, _, h, _⟩ := hP; exact h
    have hn2 : cap ≤ 9223372036854775807 := by obtain ⟨_, _, _, h, _⟩ := hP; unfold maxLen at h; omega
    clear hP
    generalize L.length = m at hn1 ⊢
    by_cases h0 : cap = 0
    · subst h0
      obtain rfl : m = 0 := by omega
      go_enter Try.func79, Try.ntmps79
      go_wp2_with fail
      go_ret
      exact ⟨rfl, rfl⟩
    · go_enter Try.func79, Try.ntmps79
      go_wp2_with fail
      all_goals (go_ret; exact ⟨rfl, rfl⟩)
set_option maxHeartbeats 1000000 in
set_option maxRecDepth 100000 in
/-- slices.Delete of the first ones. -/
theorem delete_some (o cap N : Nat) (K : Int) (L : List Pn) (w : World) (hP : PRow w o cap K L) (h0 : 0 < N) (hN : N ≤ L.length) :
    Calls Try.prog 79 #[.slice (some ⟨o, 0, none⟩) L.length cap, .int .i64 0, .int .i64 N] w fun e w' => e = .returned (.slice (some ⟨o, 0, none⟩) (L.length - N) cap) ∧ PRow w' o cap K (L.drop N) ∧ Ch o o w w' := by
  obtain ⟨inf, hinf, hz0, hz1, hz2⟩ := info_parts Try.info132
  have hsrc := hP.src N hN
  obtain ⟨cur, hh, h1, h2, h3, h4⟩ := hP
  obtain ⟨m, hm⟩ : ∃ m, Hid (L.length = m) := ⟨_, rfl⟩
  obtain ⟨D, hD⟩ : ∃ D, Hid (m - N = D) := ⟨_, rfl⟩
  have hlen : Hid ((pcs K (L.drop N)).length = D * 6) := by
    have h : (pcs K (L.drop N)).length = D * 6 := by rw [pcs_len, List.length_drop, hm.out, hD.out]
    exact h
  rw [hm.out] at h1 hN ⊢
  rw [hD.out]
  have hDm : D ≤ m := by have := hD.out; omega
  have hDlt : D < m := by have := hD.out; omega
  have hA : ∃ A : Addr, ((cap = N ∧ A = ⟨o, 0, none⟩) ∨ (cap ≠ N ∧ A = ⟨o, N * 6, none⟩)) ∧ Hid (∀ j u, (pcs K (L.drop N))[j]? = some u → w.drew.cell? (A.add j) = some u) := by
    by_cases hc : cap = N
    · refine ⟨⟨o, 0, none⟩, .inl ⟨hc, rfl⟩, fun j u hj => ?_⟩
      have := (List.getElem?_eq_some_iff.1 hj).1
      rw [hlen.out] at this
      have := hD.out
      omega
    · exact ⟨⟨o, N * 6, none⟩, .inr ⟨hc, rfl⟩, fun j u hj => hsrc j u hj⟩
  obtain ⟨A, hAc, hAs⟩ := hA
  have hrun := run_append_room (P := Try.prog) w.drew 106 106 132 inf Try.underlying106 hinf o 0 cap cur hh A D (cap - N) (pcs K (L.drop N)) (by rw [hz1, hlen.out]) hAs.out (pcs_one K _) (by omega) (by rw [hlen.out, h3]; omega)
  obtain ⟨C1, hC1⟩ : ∃ C1 : List Value, C1 = cur.toList.take (0 * inf.size) ++ pcs K (L.drop N) ++ cur.toList.drop (0 * inf.size + (pcs K (L.drop N)).length) := ⟨_, rfl⟩
  rw [← hC1, Nat.zero_add] at hrun
  have hC1l : C1.length = cap * 6 := by
    rw [hC1]
    simp only [Nat.zero_mul, List.take_zero, List.nil_append, Nat.zero_add, List.length_append, List.length_drop, Array.length_toList, hlen.out, h3]
    omega
  have hC1t : C1.take (D * 6) = pcs K (L.drop N) := by
    rw [hC1]
    simp only [Nat.zero_mul, List.take_zero, List.nil_append]
    rw [List.take_append_of_le_length (by rw [hlen.out]; exact Nat.le_refl _), List.take_of_length_le (by rw [hlen.out]; exact Nat.le_refl _)]
  have hh1 : (w.drew.setRow o C1.toArray).heap[o]? = some (.cells C1.toArray 132 (0, 0)) := setRow_heap w.drew o cur _ 132 (0, 0) hh
  have hch1 : Hid (Ch o o w (w.drew.setRow o C1.toArray)) := (Ch.refl o o w).drew.setRow (.inl rfl) _
  have hrun' : Hid ((Builtin.append_ #[106, 106] 106 #[.slice (some ⟨o, 0, none⟩) 0 cap, .slice (some A) D (cap - N)]).run Try.prog w.drew = .ok (.slice (some ⟨o, 0, none⟩) D cap) (w.drew.setRow o C1.toArray)) := hrun
  have hcl : ∀ ty, (Builtin.clear_ #[106] ty #[.slice (some ⟨o, D * 6, none⟩) (m - D) (cap - D)]).run Try.prog (w.drew.setRow o C1.toArray) = .ok (.tuple #[]) ((w.drew.setRow o C1.toArray).setRow o (splice C1 (D * 6) (Builtin.zeroCells pzero.cells (m - D)).toList).toArray) := fun ty =>
    run_clear_rows _ ty o (D * 6) (m - D) (cap - D) C1.toArray hh1 (by omega) (by rw [List.size_toArray, hC1l]; omega)
  have hfin : Hid (PRow ((w.drew.setRow o C1.toArray).setRow o (splice C1 (D * 6) (Builtin.zeroCells pzero.cells (m - D)).toList).toArray) o cap K (L.drop N)) := by
    have hzl : (Builtin.zeroCells pzero.cells (m - D)).toList.length = (m - D) * 6 := by rw [Array.length_toList, zeros_size]
    have hdl : (L.drop N).length = D := by rw [List.length_drop, hm.out, hD.out]
    refine ⟨_, setRow_heap _ o _ _ 132 (0, 0) hh1, by rw [hdl]; omega, h2, ?_, ?_⟩
    · rw [List.size_toArray, splice_len _ _ _ (by rw [hzl, hC1l]; omega), hC1l]
    · rw [hdl]
      show (splice C1 (D * 6) (Builtin.zeroCells pzero.cells (m - D)).toList).take (D * 6) = _
      unfold splice
      rw [List.take_append_of_le_length (by rw [List.length_take, hC1l]; omega), List.take_take, Nat.min_self, hC1t]
  have hn2 : cap ≤ 9223372036854775807 := by unfold maxLen at h2; omega
  have hNm : N ≤ m := hN
  have hNc : N ≤ cap := by omega
  have hDc : D ≤ cap := by omega
  have hDc2 : ¬ cap = D := by omega
  have h0i : ((0 : Int) == (N : Int)) = false := by simp; omega
  clear hh h2 h3 h4 hC1 hC1l hC1t hh1 hrun hsrc hz0 hz1 hz2 hinf
  obtain ⟨W1, hW1⟩ : ∃ W1, Hid (w.drew.setRow o C1.toArray = W1) := ⟨_, rfl⟩
  rw [hW1.out] at hrun' hcl hfin hch1
  obtain ⟨W2, hW2⟩ : ∃ W2, Hid (W1.setRow o (splice C1 (D * 6) (Builtin.zeroCells pzero.cells (m - D)).toList).toArray = W2) := ⟨_, rfl⟩
  have hch2 : Hid (Ch o o w W2) := by
    have h : Ch o o w W2 := by rw [← hW2.out]; exact hch1.out.setRow (.inl rfl) _
    exact h
  rw [hW2.out] at hfin
  simp only [hW2.out] at hcl
  clear hW1 hW2 hch1
  rcases hAc with ⟨hcN, rfl⟩ | ⟨hcN, rfl⟩
  · subst hcN
    have hD0 : D = 0 := by have := hD.out; omega
    subst hD0
    simp only [Nat.zero_mul, Nat.sub_zero] at hcl
    obtain rfl : m = cap := by omega
    go_enter Try.func79, Try.ntmps79
    go_upto_region 5 with fail
    refine wp_region_held_drew (S := fun _ => True) (by kernel_rfl) trivial (fun hHeld => ?_)
    refine take_at (i := 0) (v := .slice (some ⟨o, 0, none⟩) m m) rfl rfl (by kernel_rfl) (by kernel_rfl) (by kernel_rfl) (fun _ _ _ h => h) (Or.inl ⟨by rfl, fun X _ => by go_simp⟩) hHeld ?_
    try simp only [Act.put, List.setIfInBounds_toArray, List.set_cons_zero, List.set_cons_succ]
    refine take_at (i := 1) (v := .int .i64 0) rfl rfl (by kernel_rfl) (by kernel_rfl) (by kernel_rfl) (fun _ _ _ h => h) (Or.inl ⟨by rfl, fun X _ => by go_simp⟩) hHeld ?_
    try simp only [Act.put, List.setIfInBounds_toArray, List.set_cons_zero, List.set_cons_succ]
    refine take_at (i := 2) (v := .slice (some ⟨o, 0, none⟩) 0 m) rfl rfl (by kernel_rfl) (by kernel_rfl) (by kernel_rfl) (fun _ _ _ h => h) (Or.inl ⟨by rfl, fun X _ => by go_simp⟩) hHeld ?_
    try simp only [Act.put, List.setIfInBounds_toArray, List.set_cons_zero, List.set_cons_succ]
    refine take_at (i := 3) (v := .slice (some ⟨o, 0, none⟩) m m) rfl rfl (by kernel_rfl) (by kernel_rfl) (by kernel_rfl) (fun _ _ _ h => h) (Or.inl ⟨by rfl, fun X _ => by go_simp⟩) hHeld ?_
    try simp only [Act.put, List.setIfInBounds_toArray, List.set_cons_zero, List.set_cons_succ]
    refine take_at (i := 4) (v := .int .i64 (m : Int)) rfl rfl (by kernel_rfl) (by kernel_rfl) (by kernel_rfl) (fun _ _ _ h => h) (Or.inl ⟨by rfl, fun X _ => by go_simp⟩) hHeld ?_
    try simp only [Act.put, List.setIfInBounds_toArray, List.set_cons_zero, List.set_cons_succ]
    refine take_at (i := 5) (v := .slice (some ⟨o, 0, none⟩) (m - m) (m - m)) rfl rfl (by kernel_rfl) (by kernel_rfl) (by kernel_rfl) (fun _ _ _ h => h) (Or.inl ⟨by rfl, fun X _ => by go_simp⟩) hHeld ?_
    try simp only [Act.put, List.setIfInBounds_toArray, List.set_cons_zero, List.set_cons_succ]
    refine wpAnyH_ready (rs := [6]) (by kernel_rfl) (by simp) ?_
    refine AllReadyH.cons rfl (fun KK hK => ?_) AllReadyH.nil
    rw [if_pos (by rfl)]
    rw [hD.out]
    refine wp_append_any _ _ _ 106 106 rfl _ _ rfl rfl hrun'.out ?_
    refine hK.out _ _ (trivial) (fun hHeld => ?_)
    clear hK KK
    try simp only [Act.put, List.setIfInBounds_toArray, List.set_cons_zero, List.set_cons_succ]
    refine take_at (i := 7) (v := .slice (some ⟨o, 0, none⟩) 0 m) rfl rfl (by kernel_rfl) (by kernel_rfl) (by kernel_rfl) (fun _ _ _ h => h) (Or.inl ⟨by rfl, fun X _ => by go_simp⟩) hHeld ?_
    try simp only [Act.put, List.setIfInBounds_toArray, List.set_cons_zero, List.set_cons_succ]
    refine wpAnyH_done (by kernel_rfl) ?_ _
    go_wp2_with fail
    go_ret
    exact ⟨rfl, hfin.out, hch2.out⟩
  · go_enter Try.func79, Try.ntmps79
    go_upto_region 5 with fail
    refine wp_region_held_drew (S := fun _ => True) (by kernel_rfl) trivial (fun hHeld => ?_)
    refine take_at (i := 0) (v := .slice (some ⟨o, 0, none⟩) m cap) rfl rfl (by kernel_rfl) (by kernel_rfl) (by kernel_rfl) (fun _ _ _ h => h) (Or.inl ⟨by rfl, fun X _ => by go_simp⟩) hHeld ?_
    try simp only [Act.put, List.setIfInBounds_toArray, List.set_cons_zero, List.set_cons_succ]
    refine take_at (i := 1) (v := .int .i64 0) rfl rfl (by kernel_rfl) (by kernel_rfl) (by kernel_rfl) (fun _ _ _ h => h) (Or.inl ⟨by rfl, fun X _ => by go_simp⟩) hHeld ?_
    try simp only [Act.put, List.setIfInBounds_toArray, List.set_cons_zero, List.set_cons_succ]
    refine take_at (i := 2) (v := .slice (some ⟨o, 0, none⟩) 0 cap) rfl rfl (by kernel_rfl) (by kernel_rfl) (by kernel_rfl) (fun _ _ _ h => h) (Or.inl ⟨by rfl, fun X _ => by go_simp⟩) hHeld ?_
    try simp only [Act.put, List.setIfInBounds_toArray, List.set_cons_zero, List.set_cons_succ]
    refine take_at (i := 3) (v := .slice (some ⟨o, 0, none⟩) m cap) rfl rfl (by kernel_rfl) (by kernel_rfl) (by kernel_rfl) (fun _ _ _ h => h) (Or.inl ⟨by rfl, fun X _ => by go_simp⟩) hHeld ?_
    try simp only [Act.put, List.setIfInBounds_toArray, List.set_cons_zero, List.set_cons_succ]
    refine take_at (i := 4) (v := .int .i64 (N : Int)) rfl rfl (by kernel_rfl) (by kernel_rfl) (by kernel_rfl) (fun _ _ _ h => h) (Or.inl ⟨by rfl, fun X _ => by go_simp⟩) hHeld ?_
    try simp only [Act.put, List.setIfInBounds_toArray, List.set_cons_zero, List.set_cons_succ]
    refine take_at (i := 5) (v := .slice (some ⟨o, N * 6, none⟩) (m - N) (cap - N)) rfl rfl (by kernel_rfl) (by kernel_rfl) (by kernel_rfl) (fun _ _ _ h => h) (Or.inl ⟨by rfl, fun X _ => by go_simp⟩) hHeld ?_
    try simp only [Act.put, List.setIfInBounds_toArray, List.set_cons_zero, List.set_cons_succ]
    refine wpAnyH_ready (rs := [6]) (by kernel_rfl) (by simp) ?_
    refine AllReadyH.cons rfl (fun KK hK => ?_) AllReadyH.nil
    rw [if_pos (by rfl)]
    rw [hD.out]
    refine wp_append_any _ _ _ 106 106 rfl _ _ rfl rfl hrun'.out ?_
    refine hK.out _ _ (trivial) (fun hHeld => ?_)
    clear hK KK
    try simp only [Act.put, List.setIfInBounds_toArray, List.set_cons_zero, List.set_cons_succ]
    refine take_at (i := 7) (v := .slice (some ⟨o, 0, none⟩) D cap) rfl rfl (by kernel_rfl) (by kernel_rfl) (by kernel_rfl) (fun _ _ _ h => h) (Or.inl ⟨by rfl, fun X _ => by go_simp⟩) hHeld ?_
    try simp only [Act.put, List.setIfInBounds_toArray, List.set_cons_zero, List.set_cons_succ]
    refine wpAnyH_done (by kernel_rfl) ?_ _
    go_wp2_with fail
    go_ret
    exact ⟨rfl, hfin.out, hch2.out⟩
/-- slices.Delete of the first N panes. -/
theorem delete_is (v : Value) (o N : Nat) (K : Int) (L : List Pn) (w : World) (hS : Sl w v o K L) (hN : N ≤ L.length) :
    Calls Try.prog 79 #[v, .int .i64 0, .int .i64 N] w fun e w' => ∃ v', e = .returned v' ∧ Sl w' v' o K (L.drop N) ∧ (∃ a l c, v' = .slice a l c) ∧ ((w' = w) ∨ v ≠ .slice none 0 0) ∧ Ch o o w w' := by
  by_cases h0 : N = 0
  · subst h0
    refine (delete_none v o K L w hS).mono ?_
    rintro e w' ⟨rfl, rfl⟩
    refine ⟨v, rfl, by simpa using hS, ?_, .inl rfl, Ch.refl _ _ _⟩
    rcases hS with ⟨rfl, _⟩ | ⟨cap, rfl, _⟩
    · exact ⟨_, _, _, rfl⟩
    · exact ⟨_, _, _, rfl⟩
  · rcases hS with ⟨rfl, rfl⟩ | ⟨cap, rfl, hP⟩
    · simp at hN; omega
    · refine (delete_some o cap N K L w hP (by omega) hN).mono ?_
      rintro e w' ⟨rfl, h1, h2⟩
      exact ⟨_, rfl, .inr ⟨cap, by rw [List.length_drop], h1⟩, ⟨_, _, _, rfl⟩, .inr (by simp), h2⟩
theorem Ch.setb {b o : Nat} {a w : World} (h : Ch b o a w) (i : Nat) (u : Value) : Ch b o a (w.setCell ⟨b, i, none⟩ u) := h.set (.inl rfl) u
theorem own_ch {w w' : World} {base b o : Nat} {e : TypeId} {size : Nat} {v : Value} {n : Nat} {xs : List Value} (h : w.ownsRow base e size v n xs) (hc : Ch b o w w') (hb : b < base) (ho : o < base) : w'.ownsRow base e size v n xs := by
  obtain ⟨h1, h | ⟨g, cap, cur, rfl, h2, hh, r⟩⟩ := h
  · exact ⟨h1, .inl h⟩
  · have hg : g < w.heap.size := (Array.getElem?_eq_some_iff.1 hh).1
    exact ⟨h1, .inr ⟨g, cap, cur, rfl, h2, (hc.other g hg (by omega) (by omega)).trans hh, r⟩⟩
set_option maxHeartbeats 1000000 in
set_option maxRecDepth 100000 in
/-- Panes.Close. -/
theorem close_is (b o : Nat) (n sl K mark : Int) (L : List Pn) (N : Nat) (w : World) (hP : Pan w b o n sl K L) (hN : endN n mark L = N) (hl : L.length ≤ 1000000) :
    Calls Try.prog 68 #[.pointer (some ⟨b, 0, none⟩), .int .i64 mark] w fun e w' => ∃ u, e = .returned u ∧ w'.ownsRow w.heap.size 39 5 u N (rcs (L.take N)) ∧ Pan w' b o n sl K (L.drop N) ∧ Ch b o w w' := by
  have hNl : N ≤ L.length := by rw [← hN]; exact endN_le n mark L
  have hokD : Hid (Okl n sl (L.drop N)) := okl_drop hP.okl N
  have hbl := hP.lt
  have hol := hP.olt
  have htl : Hid ((L.take N).length = N) := by
    have h : (L.take N).length = N := by rw [List.length_take]; omega
    exact h
  obtain ⟨v, hb, hs, hok, _⟩ := hP
  have hb' : Hid (Pb w b n sl K v) := hb
  have hs' : Hid (Sl w v o K L) := hs
  rcases hs with ⟨rfl, rfl⟩ | ⟨cap, rfl, hrow⟩
  · obtain rfl : 0 = N := hN
    clear hb hok hl hNl
    go_enter Try.func68, Try.ntmps68
    go_wp2_with fail
    refine (ended_nil b n sl K mark none 0 _ hb'.out).mono ?_
    rintro e w1 ⟨rfl, hb1⟩
    have hB1 : Hid (Pb w1 b n sl K (.slice none 0 0)) := hb'.out.below hb1
    have hbw : Hid (Below w.heap.size w w1) := hb1
    clear hb1 hb'
    obtain ⟨c0, c1, c2, c3, _⟩ := hB1.out.c
    go_wp2_with fail
    refine (rows_is (.slice none 0 0) o K [] _ (.inl ⟨rfl, rfl⟩) (by simp)).mono ?_
    rintro e w2 ⟨u, rfl, hu, hb2⟩
    clear c0 c1 c2 c3
    have hB2 : Hid (Pb w2 b n sl K (.slice none 0 0)) := hB1.out.below hb2
    have hbw2 : Hid (Below w.heap.size w w2) := below_call hbw.out hb2
    have hu2 : Hid (w2.ownsRow w.heap.size 39 5 u 0 []) := by
      obtain ⟨h1, h2⟩ := hu
      refine ⟨by simp, ?_⟩
      rcases h2 with h2 | ⟨g, cap, cur, e1, e2, r⟩
      · exact .inl h2
      · exact .inr ⟨g, cap, cur, e1, Nat.le_trans hbw.out.size e2, r⟩
    clear hu hb2 hbw hB1
    obtain ⟨c0, c1, c2, c3, f3⟩ := hB2.out.c
    go_wp2_with fail
    refine (delete_none (.slice none 0 0) o K [] _ (.inl ⟨rfl, rfl⟩)).mono ?_
    rintro e w3 ⟨rfl, he⟩; obtain rfl := he.symm; clear he
    go_wp2_with fail
    go_ret
    refine ⟨u, rfl, ?_, ⟨.slice none 0 0, Pan.set3 hB2.out _, .inl ⟨rfl, rfl⟩, hokD.out, ?_⟩, Ch.setb (Ch.ofBelow hbw2.out) _ _⟩
    · exact own_ch hu2.out (Ch.setb (Ch.refl b b w2) _ _) hbl hbl
    · have := hbw2.out.size; show o < (w2.setCell _ _).heap.size; simp [World.setCell]; omega
  · have hn1 : L.length ≤ cap := by obtain ⟨_, _, h, _⟩ := hrow; exact h
    have hn2 : cap ≤ 9223372036854775807 := by obtain ⟨_, _, _, h, _⟩ := hrow; unfold maxLen at h; omega
    have hrow' : Hid (PRow w o cap K L) := hrow
    have hN' : Hid (endN n mark L = N) := hN
    have hok' : Hid (Okl n sl L) := hok
    have hob : o ≠ b := by obtain ⟨cur, hh, _⟩ := hrow; exact row_ne hb hh
    have hl' : Hid (L.length ≤ 1000000) := hl
    clear hb hok hN hrow hs' hl
    go_enter Try.func68, Try.ntmps68
    go_wp2_with fail
    refine (ended_some b o cap n sl K mark L N _ hb'.out hrow'.out hok'.out hN'.out hl'.out).mono ?_
    rintro e w1 ⟨rfl, hb1⟩
    have hB1 : Hid (Pb w1 b n sl K (.slice (some ⟨o, 0, none⟩) L.length cap)) := hb'.out.below hb1
    have hR1 : Hid (PRow w1 o cap K L) := hrow'.out.below hb1
    have hbw : Hid (Below w.heap.size w w1) := hb1
    clear hb1 hb' hrow'
    obtain ⟨c0, c1, c2, c3, _⟩ := hB1.out.c
    obtain ⟨m, hm⟩ : ∃ m, Hid (L.length = m) := ⟨_, rfl⟩
    rw [hm.out] at c3 hn1 hNl
    have hNc : N ≤ cap := by omega
    go_wp2_with fail
    refine (rows_is (.slice (some ⟨o, 0, none⟩) N cap) o K (L.take N) _ (.inr ⟨cap, by rw [htl.out], hR1.out.take N (by rw [hm.out]; exact hNl)⟩) (by rw [htl.out]; have := hl'.out; have := hm.out; omega)).mono ?_
    rintro e w2 ⟨u, rfl, hu, hb2⟩
    clear c0 c1 c2 c3
    have hB2 : Hid (Pb w2 b n sl K (.slice (some ⟨o, 0, none⟩) m cap)) := by
      have h := hB1.out.below hb2
      rw [hm.out] at h
      exact h
    have hR2 : Hid (PRow w2 o cap K L) := hR1.out.below hb2
    have hbw2 : Hid (Below w.heap.size w w2) := below_call hbw.out hb2
    have hu2 : Hid (w2.ownsRow w.heap.size 39 5 u N (rcs (L.take N))) := by
      rw [htl.out] at hu
      obtain ⟨h1, h2⟩ := hu
      refine ⟨h1, ?_⟩
      rcases h2 with h2 | ⟨g, cap, cur, e1, e2, r⟩
      · exact .inl h2
      · exact .inr ⟨g, cap, cur, e1, Nat.le_trans hbw.out.size e2, r⟩
    clear hu hb2 hbw hB1 hR1
    obtain ⟨c0, c1, c2, c3, f3⟩ := hB2.out.c
    go_wp2_with fail
    rw [← hm.out]
    refine (delete_is (.slice (some ⟨o, 0, none⟩) L.length cap) o N K L _ (.inr ⟨cap, rfl, hR2.out⟩) (by rw [hm.out]; exact hNl)).mono ?_
    rintro e w3 ⟨v', rfl, hsl, ⟨a', l', c', rfl⟩, _, hch⟩
    clear c0 c1 c2 c3 f3
    have hB3 : Hid (Pb w3 b n sl K (.slice (some ⟨o, 0, none⟩) m cap)) := hB2.out.ch hch hob.symm hob.symm
    have hu3 : Hid (w3.ownsRow w.heap.size 39 5 u N (rcs (L.take N))) := own_ch hu2.out hch hol hol
    have hsl3 : Hid (Sl w3 (.slice a' l' c') o K (L.drop N)) := hsl
    have hch3 : Hid (Ch b o w w3) := (Ch.ofBelow hbw2.out).trans hch.mono (.inl rfl)
    have hol3 : o < w3.heap.size := by have := hbw2.out.size; have := hch.size; omega
    clear hsl hch hu2 hR2 hB2 hbw2
    obtain ⟨c0, c1, c2, c3, f3⟩ := hB3.out.c
    go_wp2_with fail
    go_ret
    refine ⟨u, rfl, ?_, ⟨.slice a' l' c', Pan.set3 hB3.out _, ?_, hokD.out, ?_⟩, Ch.setb hch3.out _ _⟩
    · exact own_ch hu3.out (Ch.setb (Ch.refl b b w3) _ _) hbl hbl
    · rcases hsl3.out with h | ⟨cap, h1, h2⟩
      · exact .inl h
      · exact .inr ⟨cap, h1, h2.keep (Below.heap_setCell _ _ _ _ hob)⟩
    · show o < (w3.setCell _ _).heap.size; simp [World.setCell]; exact hol3
end Go.Proofs.Ytnamjnopicghhaa
