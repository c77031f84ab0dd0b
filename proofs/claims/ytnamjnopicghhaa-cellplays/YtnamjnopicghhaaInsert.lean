/- What slices.Insert does to the row of panes: one pane laid in at a place. -/
import Derived.Test.YtnamjnopicghhaaSlice
namespace Go.Proofs.Ytnamjnopicghhaa
open Go.RowKit M
set_option linter.unusedVariables false
set_option linter.unusedSimpArgs false
attribute [local go_sem ↓] Go.wp_at_zero Go.wp_at_succ

set_option maxHeartbeats 1000000 in
set_option maxRecDepth 100000 in
/-- At the end. -/
theorem insert_end (v : Value) (o : Nat) (K : Int) (L : List Pn) (p : Pn) (q : Nat) (w : World) (hS : Sl w v o K L) (hq : w.heap[q]? = some (.cells (pcell K p).toArray 132 (0, 0))) (hl : L.length ≤ 1000000) :
    Calls Try.prog 91 #[v, .int .i64 L.length, .slice (some ⟨q, 0, none⟩) 1 1] w fun e w' => ∃ v' o', e = .returned v' ∧ Slp w' v' o' K (L ++ [p]) ∧ (o' = o ∨ w.heap.size ≤ o') ∧ Ch o o w w' := by
  obtain ⟨v', w', o', hr, h1, h2, h3⟩ := run_app1 w 106 v o K L p q 1 hS hq hl
  have hr' : Hid ((Builtin.append_ #[106, 106] 106 #[v, .slice (some ⟨q, 0, none⟩) 1 1]).run Try.prog w = .ok v' w') := hr
  have h1' : Hid (Slp w' v' o' K (L ++ [p])) := h1
  have h3' : Hid (Ch o o w w') := h3
  have h2' : Hid (o' = o ∨ w.heap.size ≤ o') := h2
  clear h1 h2 h3 hr hq
  rcases hS with ⟨rfl, rfl⟩ | ⟨cap, rfl, hP⟩
  · go_enter Try.func91, Try.ntmps91
    go_wp2_with (at_builtin; refine wpList_append_any _ rfl _ _ 106 106 rfl _ _ rfl rfl hr'.out ?_)
    go_ret
    exact ⟨_, _, rfl, h1'.out, h2'.out, h3'.out⟩
  · have hn1 : L.length ≤ cap := by obtain ⟨_, _, h, _⟩ := hP; exact h
    have hn2 : cap ≤ 9223372036854775807 := by obtain ⟨_, _, _, h, _⟩ := hP; unfold maxLen at h; omega
    clear hP
    obtain ⟨n, hn⟩ : ∃ n, Hid (L.length = n) := ⟨_, rfl⟩
    rw [hn.out] at hn1 hl hr' ⊢
    go_enter Try.func91, Try.ntmps91
    by_cases hcn : cap = n
    · subst hcn
      go_wp2_with (at_builtin; refine wpList_append_any _ rfl _ _ 106 106 rfl _ _ rfl rfl hr'.out ?_)
      go_ret
      exact ⟨_, _, rfl, h1'.out, h2'.out, h3'.out⟩
    · go_wp2_with (at_builtin; refine wpList_append_any _ rfl _ _ 106 106 rfl _ _ rfl rfl hr'.out ?_)
      go_ret
      exact ⟨_, _, rfl, h1'.out, h2'.out, h3'.out⟩
theorem mid_len (K : Int) (L : List Pn) (p : Pn) (i : Nat) (hi : i ≤ L.length) : pcs K (L.take i ++ p :: L.drop i) = (pcs K L).take (i * 6) ++ (pcell K p ++ pcs K (L.drop i)) := by
  rw [pcs_append, pcs_cons, pcs_take]
theorem Try.lay45 : ∀ (w : World) (q o i la ca lb cb kB : Nat) (cs : Array Value) (cur : Array Value), q ≠ o → w.heap[q]? = some (.cells cs 132 (0, 0)) → w.heap[o]? = some (.cells cur 132 (0, 0)) → cur.size = kB → kB ≠ 0 →
    (callFunc 98 #[.slice (some ⟨q, 0, none⟩) la ca, .slice (some ⟨o, i, none⟩) lb cb]).run Try.prog w = .ok (.value (.bool false)) w := by
  intro w q o i la ca lb cb kB cs cur hne hq ho hk hk0
  rw [run_callFunc_extern Try.func98 (by kernel_rfl) (by kernel_rfl) (by kernel_rfl) (e := Extern.SlicesOverlaps.overlaps #[106, 106] #[4]) (by kernel_rfl),
    Lib.run_overlaps_apart w 106 4 132 Try.underlying106 6 (fun w => by rw [Try.sizeOf75]) ⟨q, 0, none⟩ ⟨o, i, none⟩ la ca lb cb hne 132 132 cs.size kB (by simp [World.shape?, hq]) (by simp [World.shape?, ho, hk]) hk0 (by simp [World.frozen?, hq]) (by simp [World.frozen?, hq])]
  rfl
set_option maxHeartbeats 1000000 in
set_option maxRecDepth 100000 in
/-- Not at the end, where there is room. -/
theorem insert_room (o cap i : Nat) (K : Int) (L : List Pn) (p : Pn) (q : Nat) (w : World) (hP : PRow w o cap K L) (hq : w.heap[q]? = some (.cells (pcell K p).toArray 132 (0, 0))) (hne : q ≠ o) (hl : L.length ≤ 1000000) (hi : i < L.length) (hroom : L.length + 1 ≤ cap) :
    Calls Try.prog 91 #[.slice (some ⟨o, 0, none⟩) L.length cap, .int .i64 i, .slice (some ⟨q, 0, none⟩) 1 1] w fun e w' => ∃ v' o', e = .returned v' ∧ Slp w' v' o' K (L.take i ++ p :: L.drop i) ∧ (o' = o ∨ w.heap.size ≤ o') ∧ Ch o o w w' := by
  have hsrc : Hid (∀ j u, (pcs K (L.drop i))[j]? = some u → w.cell? ((⟨o, i * 6, none⟩ : Addr).add j) = some u) := hP.src i (by omega)
  have hsrc2 : Hid (∀ j u, (pcell K p)[j]? = some u → w.cell? ((⟨q, 0, none⟩ : Addr).add j) = some u) := by
    intro j u h
    exact src_cells hq j u (by simpa using h)
  have hone : Hid (∀ u ∈ pcell K p, u.oneCell' = true) := by rw [← pcs_single]; exact pcs_one K [p]
  have hone2 : Hid (∀ u ∈ pcs K (L.drop i), u.oneCell' = true) := pcs_one K _
  have hlen : Hid ((pcell K p).length = 6) := rfl
  have hlen2 : Hid ((pcs K (L.drop i)).length = (L.length - i) * 6) := by
    have h : (pcs K (L.drop i)).length = (L.length - i) * 6 := by rw [pcs_len, List.length_drop]
    exact h
  obtain ⟨cur, hh, h1, h2, h3, h4⟩ := hP
  have hmid : Hid (∀ C : List Value, C = cur.toList → (splice (splice C (i * 6 + 6) (pcs K (L.drop i))) (i * 6) (pcell K p)).take ((L.length + 1) * 6) = pcs K (L.take i ++ p :: L.drop i)) := by
    rintro C rfl
    rw [splice_take _ _ _ _ _ (by rw [Array.length_toList, h3]; omega) rfl (by rw [hlen2.out]; omega), mid_len K L p i (by omega), ← h4, List.take_take, Nat.min_eq_left (by omega)]
  have hov : ∀ lb cb, (callFunc 98 #[.slice (some ⟨q, 0, none⟩) 1 1, .slice (some ⟨o, (i + 1) * 6, none⟩) lb cb]).run Try.prog w = .ok (.value (.bool false)) w := fun lb cb =>
    Try.lay45 w q o _ 1 1 lb cb (cap * 6) _ cur hne hq hh h3 (by omega)
  have hh' : Hid (w.heap[o]? = some (.cells cur 132 (0, 0))) := hh
  have h2' : Hid (cap ≤ maxLen) := h2
  have hn2 : cap ≤ 9223372036854775807 := by unfold maxLen at h2; omega
  have h3' : Hid (cur.size = cap * 6) := h3
  have hfin : Hid ((L.take i ++ p :: L.drop i).length = L.length + 1) := by
    have h : (L.take i ++ p :: L.drop i).length = L.length + 1 := by simp; omega
    exact h
  clear hh h3 h4 hq h2
  obtain ⟨n, hn⟩ : ∃ n, Hid (L.length = n) := ⟨_, rfl⟩
  rw [hn.out] at h1 hl hi hroom hlen2 hmid hfin ⊢
  obtain ⟨n1, en1, hn1⟩ : ∃ n1 : Nat, (n : Int) + 1 = (n1 : Int) ∧ Hid (n1 = n + 1) := ⟨n + 1, by omega, rfl⟩
  obtain ⟨i1, ei1, hi1⟩ : ∃ i1 : Nat, (i : Int) + 1 = (i1 : Int) ∧ Hid (i1 = i + 1) := ⟨i + 1, by omega, rfl⟩
  rw [← hi1.out] at hov
  have b1 : i1 ≤ n1 := by have := hn1.out; have := hi1.out; omega
  have b2 : n1 ≤ cap := by have := hn1.out; omega
  have b3 : i1 < cap := by have := hi1.out; omega
  have b4 : ¬ cap = i1 := by omega
  have b5 : ¬ cap = i := by omega
  have b6 : i ≤ n1 := by have := hn1.out; omega
  have b7 : ¬ (i : Int) = (n : Int) := by omega
  have b8 : ¬ cap < n1 := by omega
  have b9 : IntKind.i64.wrap (i1 : Int) = (i1 : Int) := by rw [IntKind.wrap_i64]; omega
  go_enter Try.func91, Try.ntmps91
  go_wp2_with (simp only [hov])
  refine wp_region_held_drew (S := fun _ => True) (by kernel_rfl) trivial (fun hHeld => ?_)
  refine take_at (i := 0) (v := .slice (some ⟨o, 0, none⟩) n1 cap) rfl rfl (by kernel_rfl) (by kernel_rfl) (by kernel_rfl) (fun _ _ _ h => h) (Or.inl ⟨by rfl, fun X _ => by go_simp⟩) hHeld ?_
  try simp only [Act.put, List.setIfInBounds_toArray, List.set_cons_zero, List.set_cons_succ]
  refine take_at (i := 1) (v := .int .i64 (i : Int)) rfl rfl (by kernel_rfl) (by kernel_rfl) (by kernel_rfl) (fun _ _ _ h => h) (Or.inl ⟨by rfl, fun X _ => by go_simp⟩) hHeld ?_
  try simp only [Act.put, List.setIfInBounds_toArray, List.set_cons_zero, List.set_cons_succ]
  refine take_at (i := 2) (v := .int .i64 1) rfl rfl (by kernel_rfl) (by kernel_rfl) (by kernel_rfl) (fun _ _ _ h => h) (Or.inl ⟨by rfl, fun X _ => by go_simp⟩) hHeld ?_
  try simp only [Act.put, List.setIfInBounds_toArray, List.set_cons_zero, List.set_cons_succ]
  refine take_at (i := 3) (v := .int .i64 (i1 : Int)) rfl rfl (by kernel_rfl) (by kernel_rfl) (by kernel_rfl) (fun _ _ _ h => h) (Or.inl ⟨by rfl, fun X _ => by go_simp⟩) hHeld ?_
  try simp only [Act.put, List.setIfInBounds_toArray, List.set_cons_zero, List.set_cons_succ]
  refine take_at (i := 4) (v := .slice (some ⟨o, i1 * 6, none⟩) (n1 - i1) (cap - i1)) rfl rfl (by kernel_rfl) (by kernel_rfl) (by kernel_rfl) (fun _ _ _ h => h) (Or.inl ⟨by rfl, fun X _ => by go_simp⟩) hHeld ?_
  try simp only [Act.put, List.setIfInBounds_toArray, List.set_cons_zero, List.set_cons_succ]
  refine take_at (i := 5) (v := .slice (some ⟨o, 0, none⟩) n1 cap) rfl rfl (by kernel_rfl) (by kernel_rfl) (by kernel_rfl) (fun _ _ _ h => h) (Or.inl ⟨by rfl, fun X _ => by go_simp⟩) hHeld ?_
  try simp only [Act.put, List.setIfInBounds_toArray, List.set_cons_zero, List.set_cons_succ]
  refine take_at (i := 6) (v := .int .i64 (i : Int)) rfl rfl (by kernel_rfl) (by kernel_rfl) (by kernel_rfl) (fun _ _ _ h => h) (Or.inl ⟨by rfl, fun X _ => by go_simp⟩) hHeld ?_
  try simp only [Act.put, List.setIfInBounds_toArray, List.set_cons_zero, List.set_cons_succ]
  refine take_at (i := 7) (v := .slice (some ⟨o, i * 6, none⟩) (n1 - i) (cap - i)) rfl rfl (by kernel_rfl) (by kernel_rfl) (by kernel_rfl) (fun _ _ _ h => h) (Or.inl ⟨by rfl, fun X _ => by go_simp⟩) hHeld ?_
  try simp only [Act.put, List.setIfInBounds_toArray, List.set_cons_zero, List.set_cons_succ]
  refine wpAnyH_ready (rs := [8]) (by kernel_rfl) (by simp) ?_
  refine AllReadyH.cons rfl (fun KK hK => ?_) AllReadyH.nil
  rw [if_pos (by rfl)]
  refine wp_copy_run _ _ _ 106 106 rfl _ _ rfl rfl (run_copy_rows w.drew 106 106 _ 132 o (i1 * 6) (n1 - i1) (cap - i1) ⟨o, i * 6, none⟩ (n1 - i) (cap - i) cur 132 (pcs K (L.drop i)) 6 (n - i) Try.underlying106 Try.size75 hh'.out (by have := hn1.out; have := hi1.out; simp only [Nat.min_def]; split <;> omega) hlen2.out hsrc.out (by rw [hlen2.out, h3'.out]; have := hi1.out; omega) hone2.out) ?_
  refine hK.out _ _ (trivial) (fun hHeld => ?_)
  clear hK KK
  try simp only [Act.put, List.setIfInBounds_toArray, List.set_cons_zero, List.set_cons_succ]
  refine wpAnyH_done (by kernel_rfl) ?_ _
  go_upto_region 16 with fail
  refine world_gen (fun W => Hid (W.heap[o]? = some (.cells (splice cur.toList (i * 6 + 6) (pcs K (L.drop i))).toArray 132 (0, 0))) ∧ Hid (∀ j u, (pcell K p)[j]? = some u → W.cell? ((⟨q, 0, none⟩ : Addr).add j) = some u) ∧ Ch o o w W) ⟨?_, ?_, ?_⟩ ?_
  · have h := setRow_heap w.drew o cur (splice cur.toList (i1 * 6) (pcs K (L.drop i))).toArray 132 (0, 0) hh'.out
    rw [show i * 6 + 6 = i1 * 6 by have := hi1.out; omega]
    exact h
  · intro j u hj
    have := hsrc2.out j u hj
    rw [World.cell?_of_block (w := w) (by rw [Addr.add_lit]; exact setRow_other w.drew o q _ hne)]
    exact this
  · exact (Ch.refl o o w).drew.setRow (.inl rfl) _
  clear hsrc hsrc2 hov
  rintro W ⟨hW, hsrc2, hch⟩
  have hcl : Hid ((splice cur.toList (i * 6 + 6) (pcs K (L.drop i))).length = cap * 6) := by
    have h : (splice cur.toList (i * 6 + 6) (pcs K (L.drop i))).length = cap * 6 := by
      rw [splice_len _ _ _ (by rw [hlen2.out, Array.length_toList, h3'.out]; omega), Array.length_toList, h3'.out]
    exact h
  go_wp2_with (refine wpList_copy_run _ rfl _ _ 106 106 rfl _ _ rfl rfl (run_copy_rows W 106 106 _ 132 o (i * 6) (n1 - i) (cap - i) ⟨q, 0, none⟩ 1 1 _ 132 (pcell K p) 6 1 Try.underlying106 Try.size75 hW.out (by have := hn1.out; simp only [Nat.min_def]; split <;> omega) hlen.out hsrc2.out (by rw [hlen.out, List.size_toArray, hcl.out]; omega) hone.out) ?_)
  go_wp2_with fail
  go_ret
  refine ⟨_, o, rfl, ⟨cap, by rw [hfin.out, ← hn1.out]; rfl, _, setRow_heap W o _ _ 132 (0, 0) hW.out, by rw [hfin.out]; omega, h2'.out, ?_, ?_⟩, .inl rfl, hch.setRow (.inl rfl) _⟩
  · rw [List.size_toArray, splice_len _ _ _ (by rw [hlen.out, List.toList_toArray, hcl.out]; omega), List.toList_toArray, hcl.out]
  · rw [hfin.out]
    exact hmid.out _ rfl
set_option maxHeartbeats 1000000 in
set_option maxRecDepth 100000 in
/-- Not at the end, where there is no room: a new row. -/
theorem insert_grow (o cap i : Nat) (K : Int) (L : List Pn) (p : Pn) (q : Nat) (w : World) (hP : PRow w o cap K L) (hq : w.heap[q]? = some (.cells (pcell K p).toArray 132 (0, 0))) (hl : L.length ≤ 1000000) (hi : i < L.length) (hroom : cap < L.length + 1) :
    Calls Try.prog 91 #[.slice (some ⟨o, 0, none⟩) L.length cap, .int .i64 i, .slice (some ⟨q, 0, none⟩) 1 1] w fun e w' => ∃ v' o', e = .returned v' ∧ Slp w' v' o' K (L.take i ++ p :: L.drop i) ∧ (o' = o ∨ w.heap.size ≤ o') ∧ Ch o o w w' := by
  obtain ⟨inf, hinf, hz0, hz1, hz2⟩ := info_parts Try.info132
  have hqs : q < w.heap.size := (Array.getElem?_eq_some_iff.1 hq).1
  have hos := hP.lt
  have hsrc : ∀ j u, (pcs K (L.drop i))[j]? = some u → w.cell? ((⟨o, i * 6, none⟩ : Addr).add j) = some u := hP.src i (by omega)
  have hsrc2 : ∀ j u, (pcell K p)[j]? = some u → w.cell? ((⟨q, 0, none⟩ : Addr).add j) = some u := by
    intro j u h
    exact src_cells hq j u (by simpa using h)
  have hone : Hid (∀ u ∈ pcell K p, u.oneCell' = true) := by rw [← pcs_single]; exact pcs_one K [p]
  have hone2 : Hid (∀ u ∈ pcs K (L.drop i), u.oneCell' = true) := pcs_one K _
  have hlen : Hid ((pcell K p).length = 6) := rfl
  have hlen2 : Hid ((pcs K (L.drop i)).length = (L.length - i) * 6) := by
    have h : (pcs K (L.drop i)).length = (L.length - i) * 6 := by rw [pcs_len, List.length_drop]
    exact h
  have hold : (Builtin.firstCells inf.size i (.slice (some ⟨o, 0, none⟩) i cap)).run Try.prog w.drew = .ok (pcs K (L.take i)).toArray w.drew := by
    refine run_firstCells_some w.drew inf.size i ⟨o, 0, none⟩ i cap _ (by rw [pcs_len, hz1, List.length_take]; congr 1; omega) (fun j u hj => ?_)
    rw [← pcs_take, List.getElem?_take] at hj
    split at hj
    · have := hP.src 0 (Nat.zero_le _) j u (by simpa using hj)
      simpa using this
    · cases hj
  obtain ⟨cur, hh, h1, h2, h3, h4⟩ := hP
  obtain ⟨k, hk⟩ : ∃ k, Hid (L.length + 1 - i = k) := ⟨_, rfl⟩
  have hrun := Lib.run_append_grow_zeros (P := Try.prog) w 106 3 106 132 inf pzero .i64 .i64 Try.underlying106 Try.underlying3 hinf hz0 (some ⟨o, 0, none⟩) i cap (pcs K (L.take i)) hold k (by have := hk.out; omega) (by rw [hz1]; omega) (by have := hk.out; omega) (by have := hk.out; omega) (by rw [hz2]; have := hk.out; omega) (by rw [hz2]; exact growslice_fits (by have := hk.out; omega) (by have := hk.out; omega))
  rw [show i + k = L.length + 1 by have := hk.out; omega] at hrun
  have hge := grownCap_ge w (L.length + 1) cap 132
  have hgm := grownCap_le_maxLen w (L.length + 1) cap 132 (by unfold maxLen; omega)
  obtain ⟨G, hG⟩ : ∃ G, grownCap w (L.length + 1) cap 132 = G := ⟨_, rfl⟩
  rw [hG] at hrun hge hgm
  clear hG
  obtain ⟨Z, hZ⟩ : ∃ Z : List Value, (pcs K (L.take i)).toArray ++ Builtin.zeroCells pzero.cells k ++ Builtin.zeroCells pzero.cells (G - (L.length + 1)) = Z.toArray := ⟨_, Array.toArray_toList.symm⟩
  have hZl : Hid (Z.length = G * 6) := by
    have h : Z.length = G * 6 := by
      have := congrArg Array.size hZ
      rw [Array.size_append, Array.size_append, zeros_size, zeros_size, List.size_toArray, pcs_len, List.length_take, List.size_toArray] at this
      have := hk.out
      omega
    exact h
  have hZt : Z.take (i * 6) = pcs K (L.take i) := by
    have h := congrArg Array.toList hZ
    simp only [Array.toList_append] at h
    have hl6 : (pcs K (L.take i)).length = i * 6 := by rw [pcs_len, List.length_take]; omega
    have h' : Z = pcs K (L.take i) ++ (Builtin.zeroCells pzero.cells k).toList ++ (Builtin.zeroCells pzero.cells (G - (L.length + 1))).toList := h.symm
    rw [h', List.append_assoc, List.take_append_of_le_length (by omega), List.take_of_length_le (by omega)]
  have hmid : Hid ((splice (splice Z (i * 6) (pcell K p)) (i * 6 + 6) (pcs K (L.drop i))).take ((L.length + 1) * 6) = pcs K (L.take i ++ p :: L.drop i)) := by
    have h : (splice (splice Z (i * 6) (pcell K p)) (i * 6 + 6) (pcs K (L.drop i))).take ((L.length + 1) * 6) = pcs K (L.take i ++ p :: L.drop i) := by
      rw [splice_take2 _ _ _ _ _ rfl (by have := hZl.out; omega) (by rw [hlen2.out]; omega), pcs_append, pcs_cons, hZt]
    exact h
  rw [hZ] at hrun
  have hr' : Hid ((Builtin.append_ #[106, 3] 106 #[.slice (some ⟨o, 0, none⟩) i cap, .int .i64 k]).run Try.prog w = .ok (.slice (some ⟨w.heap.size, 0, none⟩) (L.length + 1) G) (w.drew.alloc (.cells Z.toArray 132))) := hrun
  have hn2 : cap ≤ 9223372036854775807 := by unfold maxLen at h2; omega
  have hgm2 : G ≤ 9223372036854775807 := by unfold maxLen at hgm; omega
  have hgm' : Hid (G ≤ maxLen) := hgm
  have hfin : Hid ((L.take i ++ p :: L.drop i).length = L.length + 1) := by
    have h : (L.take i ++ p :: L.drop i).length = L.length + 1 := by simp; omega
    exact h
  have hW0 : ∃ W, Hid (w.drew.alloc (.cells Z.toArray 132) = W) := ⟨_, rfl⟩
  obtain ⟨W, hWe⟩ := hW0
  have hWG : Hid (W.heap[w.heap.size]? = some (.cells Z.toArray 132 (0, 0))) := by
    have h : W.heap[w.heap.size]? = some (.cells Z.toArray 132 (0, 0)) := by rw [← hWe.out]; exact heap_alloc_new w.drew _
    exact h
  have hWb : Hid (Below w.heap.size w W) := by
    have h : Below w.heap.size w W := by rw [← hWe.out]; exact (Below.refl _ _).drew.alloc (Nat.le_refl _) _
    exact h
  have hs1 : Hid (∀ j u, (pcell K p)[j]? = some u → W.cell? ((⟨q, 0, none⟩ : Addr).add j) = some u) := fun j u hj => by
    rw [hWb.out.cell (by rw [Addr.add_lit]; exact hqs)]
    exact hsrc2 j u hj
  have hs2 : Hid (∀ j u, (pcs K (L.drop i))[j]? = some u → W.cell? ((⟨o, i * 6, none⟩ : Addr).add j) = some u) := fun j u hj => by
    rw [hWb.out.cell (by rw [Addr.add_lit]; exact hos)]
    exact hsrc j u hj
  rw [hWe.out] at hr'
  clear hh h3 h4 h2 hq hold hrun hZ hZt hgm hsrc hsrc2 hWe hz0 hz1 hz2 hinf
  obtain ⟨n, hn⟩ : ∃ n, Hid (L.length = n) := ⟨_, rfl⟩
  rw [hn.out] at h1 hl hi hroom hlen2 hmid hfin hge hk hr' ⊢
  obtain ⟨g, hg⟩ : ∃ g, Hid (w.heap.size = g) := ⟨_, rfl⟩
  rw [hg.out] at hos hqs hr' hWG
  obtain ⟨n1, en1, hn1⟩ : ∃ n1 : Nat, (n : Int) + 1 = (n1 : Int) ∧ Hid (n1 = n + 1) := ⟨n + 1, by omega, rfl⟩
  obtain ⟨i1, ei1, hi1⟩ : ∃ i1 : Nat, (i : Int) + 1 = (i1 : Int) ∧ Hid (i1 = i + 1) := ⟨i + 1, by omega, rfl⟩
  rw [← hn1.out] at hr' hge
  have b1 : i1 ≤ n1 := by have := hn1.out; have := hi1.out; omega
  have b2 : cap < n1 := by have := hn1.out; omega
  have b3 : i1 < G := by have := hi1.out; have := hn1.out; omega
  have b4 : ¬ G = i1 := by omega
  have b5 : ¬ cap = i := by omega
  have b5' : ¬ G = i := by have := hn1.out; omega
  have b6 : i ≤ n1 := by have := hn1.out; omega
  have b7 : ¬ (i : Int) = (n : Int) := by omega
  have b8 : ¬ G < n1 := by omega
  have b9 : IntKind.i64.wrap (i1 : Int) = (i1 : Int) := by rw [IntKind.wrap_i64]; omega
  have ek : (n1 : Int) - (i : Int) = (k : Int) := by have := hk.out; have := hn1.out; omega
  have c1 : i ≤ cap := by omega
  have c2 : i ≤ G := by omega
  have c3 : i ≤ n := by omega
  have c4 : i1 ≤ G := by omega
  go_enter Try.func91, Try.ntmps91
  go_upto_region 10 with (at_builtin; refine wpList_append_any _ rfl _ _ 106 3 rfl _ _ rfl rfl hr'.out ?_)
  go_upto_region 11 with (refine wpList_copy_run _ rfl _ _ 106 106 rfl _ _ rfl rfl (run_copy_rows W 106 106 _ 132 g (i * 6) (n1 - i) (G - i) ⟨q, 0, none⟩ 1 1 Z.toArray 132 (pcell K p) 6 1 Try.underlying106 Try.size75 hWG.out (by have := hn1.out; simp only [Nat.min_def]; split <;> omega) hlen.out hs1.out (by rw [hlen.out, List.size_toArray, hZl.out]; have := hn1.out; omega) hone.out) ?_)
  have hh1 : Hid ((W.setRow g (splice Z (i * 6) (pcell K p)).toArray).drew.heap[g]? = some (.cells (splice Z (i * 6) (pcell K p)).toArray 132 (0, 0))) := setRow_heap W g _ _ 132 (0, 0) hWG.out
  have hs3 : Hid (∀ j u, (pcs K (L.drop i))[j]? = some u → (W.setRow g (splice Z (i * 6) (pcell K p)).toArray).drew.cell? ((⟨o, i * 6, none⟩ : Addr).add j) = some u) := fun j u hj => by
    rw [World.cell?_of_block (w := W) (by rw [Addr.add_lit]; exact setRow_other W g o _ (by omega))]
    exact hs2.out j u hj
  have hb3 : Hid (Below g w (W.setRow g (splice Z (i * 6) (pcell K p)).toArray).drew) := by
    have h : Below g w (W.setRow g (splice Z (i * 6) (pcell K p)).toArray).drew := (below_setRow (by rw [← hg.out]; exact hWb.out) (Nat.le_refl _) _).drew
    exact h
  have hcl : Hid ((splice Z (i * 6) (pcell K p)).length = G * 6) := by
    have h : (splice Z (i * 6) (pcell K p)).length = G * 6 := by
      rw [splice_len _ _ _ (by rw [hlen.out, hZl.out]; have := hn1.out; omega), hZl.out]
    exact h
  clear hs1 hs2 hWG hWb hr'
  refine wp_region_held_drew (S := fun _ => True) (by kernel_rfl) trivial (fun hHeld => ?_)
  generalize (W.setRow g (splice Z (i * 6) (pcell K p)).toArray).drew = V at hh1 hs3 hb3 ⊢
  refine take_at (i := 0) (v := .slice (some ⟨g, 0, none⟩) n1 G) rfl rfl (by kernel_rfl) (by kernel_rfl) (by kernel_rfl) (fun _ _ _ h => h) (Or.inl ⟨by rfl, fun X _ => by go_simp⟩) hHeld ?_
  try simp only [Act.put, List.setIfInBounds_toArray, List.set_cons_zero, List.set_cons_succ]
  refine take_at (i := 1) (v := .int .i64 (i : Int)) rfl rfl (by kernel_rfl) (by kernel_rfl) (by kernel_rfl) (fun _ _ _ h => h) (Or.inl ⟨by rfl, fun X _ => by go_simp⟩) hHeld ?_
  try simp only [Act.put, List.setIfInBounds_toArray, List.set_cons_zero, List.set_cons_succ]
  refine take_at (i := 2) (v := .int .i64 1) rfl rfl (by kernel_rfl) (by kernel_rfl) (by kernel_rfl) (fun _ _ _ h => h) (Or.inl ⟨by rfl, fun X _ => by go_simp⟩) hHeld ?_
  try simp only [Act.put, List.setIfInBounds_toArray, List.set_cons_zero, List.set_cons_succ]
  refine take_at (i := 3) (v := .int .i64 (i1 : Int)) rfl rfl (by kernel_rfl) (by kernel_rfl) (by kernel_rfl) (fun _ _ _ h => h) (Or.inl ⟨by rfl, fun X _ => by go_simp⟩) hHeld ?_
  try simp only [Act.put, List.setIfInBounds_toArray, List.set_cons_zero, List.set_cons_succ]
  refine take_at (i := 4) (v := .slice (some ⟨g, i1 * 6, none⟩) (n1 - i1) (G - i1)) rfl rfl (by kernel_rfl) (by kernel_rfl) (by kernel_rfl) (fun _ _ _ h => h) (Or.inl ⟨by rfl, fun X _ => by go_simp⟩) hHeld ?_
  try simp only [Act.put, List.setIfInBounds_toArray, List.set_cons_zero, List.set_cons_succ]
  refine take_at (i := 5) (v := .slice (some ⟨o, 0, none⟩) n cap) rfl rfl (by kernel_rfl) (by kernel_rfl) (by kernel_rfl) (fun _ _ _ h => h) (Or.inl ⟨by rfl, fun X _ => by go_simp⟩) hHeld ?_
  try simp only [Act.put, List.setIfInBounds_toArray, List.set_cons_zero, List.set_cons_succ]
  refine take_at (i := 6) (v := .int .i64 (i : Int)) rfl rfl (by kernel_rfl) (by kernel_rfl) (by kernel_rfl) (fun _ _ _ h => h) (Or.inl ⟨by rfl, fun X _ => by go_simp⟩) hHeld ?_
  try simp only [Act.put, List.setIfInBounds_toArray, List.set_cons_zero, List.set_cons_succ]
  refine take_at (i := 7) (v := .slice (some ⟨o, i * 6, none⟩) (n - i) (cap - i)) rfl rfl (by kernel_rfl) (by kernel_rfl) (by kernel_rfl) (fun _ _ _ h => h) (Or.inl ⟨by rfl, fun X _ => by go_simp⟩) hHeld ?_
  try simp only [Act.put, List.setIfInBounds_toArray, List.set_cons_zero, List.set_cons_succ]
  refine wpAnyH_ready (rs := [8]) (by kernel_rfl) (by simp) ?_
  refine AllReadyH.cons rfl (fun KK hK => ?_) AllReadyH.nil
  rw [if_pos (by rfl)]
  refine wp_copy_run _ _ _ 106 106 rfl _ _ rfl rfl (run_copy_rows V 106 106 _ 132 g (i1 * 6) (n1 - i1) (G - i1) ⟨o, i * 6, none⟩ (n - i) (cap - i) (splice Z (i * 6) (pcell K p)).toArray 132 (pcs K (L.drop i)) 6 (n - i) Try.underlying106 Try.size75 hh1.out (by have := hn1.out; have := hi1.out; simp only [Nat.min_def]; split <;> omega) hlen2.out hs3.out (by rw [hlen2.out, List.size_toArray, hcl.out]; have := hi1.out; have := hn1.out; omega) hone2.out) ?_
  refine hK.out _ _ (trivial) (fun hHeld => ?_)
  clear hK KK
  try simp only [Act.put, List.setIfInBounds_toArray, List.set_cons_zero, List.set_cons_succ]
  refine wpAnyH_done (by kernel_rfl) ?_ _
  go_wp2_with fail
  go_ret
  have e6 : i1 * 6 = i * 6 + 6 := by have := hi1.out; omega
  refine ⟨_, g, rfl, ⟨G, by rw [hfin.out, ← hn1.out]; rfl, _, setRow_heap V g _ _ 132 (0, 0) hh1.out, by rw [hfin.out, ← hn1.out]; exact hge, hgm'.out, ?_, ?_⟩, .inr (by rw [hg.out]; exact Nat.le_refl _), ?_⟩
  · rw [List.size_toArray, splice_len _ _ _ (by rw [hlen2.out]; show _ ≤ (splice Z (i * 6) (pcell K p)).length; rw [hcl.out]; have := hi1.out; have := hn1.out; omega)]
    exact hcl.out
  · rw [hfin.out, e6]
    exact hmid.out
  · exact Ch.ofBelow (below_setRow (by rw [hg.out]; exact hb3.out) (by rw [hg.out]; exact Nat.le_refl _) _)
/-- slices.Insert of one pane. -/
theorem insert_is (v : Value) (o i : Nat) (K : Int) (L : List Pn) (p : Pn) (q : Nat) (w : World) (hS : Sl w v o K L) (hq : w.heap[q]? = some (.cells (pcell K p).toArray 132 (0, 0))) (hne : q ≠ o) (hl : L.length ≤ 1000000) (hi : i ≤ L.length) :
    Calls Try.prog 91 #[v, .int .i64 i, .slice (some ⟨q, 0, none⟩) 1 1] w fun e w' => ∃ v' o', e = .returned v' ∧ Slp w' v' o' K (L.take i ++ p :: L.drop i) ∧ (o' = o ∨ w.heap.size ≤ o') ∧ Ch o o w w' := by
  by_cases hin : i = L.length
  · subst hin
    rw [List.take_of_length_le (Nat.le_refl _), List.drop_of_length_le (Nat.le_refl _)]
    exact insert_end v o K L p q w hS hq hl
  · rcases hS with ⟨rfl, rfl⟩ | ⟨cap, rfl, hP⟩
    · simp at hi; exact absurd hi hin
    · by_cases hr : L.length + 1 ≤ cap
      · exact insert_room o cap i K L p q w hP hq hne hl (by omega) hr
      · exact insert_grow o cap i K L p q w hP hq hl (by omega) (by omega)
end Go.Proofs.Ytnamjnopicghhaa
