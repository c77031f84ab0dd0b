/- What cordonbook.Roomy, cordonbook.Same and cordonbook.Intact do with a list of operations. -/
import Derived.Test.YtimeglhoiibhdaaCopy
namespace Go.Proofs.Ytimeglhoiibhdaa
open Go.RowKit M

theorem Try.size23 : (Try.prog.info? 23).map (·.size) = some 2 := by kernel_rfl
def roomyO (zs : List Oq) (mark : Oq) (k : Nat) : List Oq := zs ++ List.replicate k mark ++ List.replicate (80 - k) ⟨0, 0⟩
theorem roomy_lenO (zs : List Oq) (mark : Oq) (k : Nat) (h : k ≤ 80) : (roomyO zs mark k).length = zs.length + 80 := by simp [roomyO]; omega
theorem roomy_setO (zs : List Oq) (mark : Oq) (k : Nat) (h : k < 80) : ((opl (roomyO zs mark k)).set ((zs.length + k) * 2) (.int .i64 mark.k)).set ((zs.length + k) * 2 + 1) (.int .i64 mark.n) = opl (roomyO zs mark (k + 1)) := by
  unfold roomyO
  obtain ⟨r, hr⟩ : ∃ r, 80 - k = r + 1 := ⟨80 - k - 1, by omega⟩
  have hr' : 80 - (k + 1) = r := by omega
  rw [hr, hr', List.replicate_succ, opl_append, List.replicate_succ' (n := k)]
  have hl : (opl (zs ++ List.replicate k mark)).length = (zs.length + k) * 2 := by rw [opl_len]; simp
  have e1 : opl ((⟨0, 0⟩ : Oq) :: List.replicate r ⟨0, 0⟩) = .int .i64 0 :: .int .i64 0 :: opl (List.replicate r ⟨0, 0⟩) := rfl
  rw [e1, List.set_append_right _ _ (by omega), hl, Nat.sub_self, List.set_cons_zero, List.set_append_right _ _ (by omega), hl, Nat.add_sub_cancel_left, List.set_cons_succ, List.set_cons_zero]
  simp only [← List.append_assoc, opl_append]
  simp only [List.append_assoc]
  rfl
theorem roomy_endO (zs : List Oq) (mark : Oq) : roomyO zs mark 80 = zs ++ List.replicate 80 mark := by simp [roomyO]
theorem opl_nought (n : Nat) : opl (List.replicate n ⟨0, 0⟩) = List.replicate (n * 2) (.int .i64 0) := by
  induction n with
  | zero => rfl
  | succ n ih =>
    rw [List.replicate_succ, show (n + 1) * 2 = n * 2 + 1 + 1 by omega, List.replicate_succ, List.replicate_succ, ← ih]
    rfl
theorem made_nought (n : Nat) : (madeCells #[Value.int .i64 0, Value.int .i64 0] n).toList = List.replicate n (Value.int .i64 0) := by
  apply List.ext_getElem?
  intro j
  by_cases hj : j < n
  · have h2 : j % 2 = 0 ∨ j % 2 = 1 := by omega
    rcases h2 with h2 | h2 <;> simp [madeCells, hj, h2]
  · simp [madeCells, hj]
theorem splice0O (zs : List Oq) (m : Oq) : splice (List.replicate ((zs.length + 80) * 2) (Value.int .i64 0)) 0 (opl zs) = opl (roomyO zs m 0) := by
  unfold splice roomyO
  rw [List.take_zero, List.nil_append, Nat.zero_add, opl_len, List.drop_replicate, show (zs.length + 80) * 2 - zs.length * 2 = 80 * 2 by omega, ← opl_nought, List.replicate_zero, List.append_nil, opl_append]

set_option maxHeartbeats 1000000 in
set_option maxRecDepth 100000 in
theorem roomy_anyO (v : Value) (zs : List Oq) (mk mn : Int) (w : World) (hv : RdO w v zs) (hl : zs.length ≤ 60) :
    Calls Try.prog 20 #[v, opv mk mn] w fun e w' => ∃ u, e = .returned u ∧ w'.ownsRow w.heap.size 23 2 u (zs ++ List.replicate 80 (⟨mk, mn⟩ : Oq)).length (opl (zs ++ List.replicate 80 (⟨mk, mn⟩ : Oq))) ∧ Below w.heap.size w w' := by
  obtain ⟨i0, hi, hz0, hz1, hz2⟩ := info_parts Try.info23
  obtain ⟨_, _, ao, cap, rfl, _, _, hc⟩ := hv
  have hc' : Hid (zs.length ≠ 0 → ∃ b off, ao = some ⟨b, off, none⟩ ∧ b < w.heap.size ∧ ∀ j, j < zs.length → OpAt w b (off + j * 2) (opAt zs j)) := hc
  clear hc
  obtain ⟨n, hn⟩ : ∃ n, n = zs.length := ⟨_, rfl⟩
  have hl' : n ≤ 60 := by omega
  have hn' : Hid (n = zs.length) := hn
  rw [← hn]
  clear hn hl
  go_enter Try.func20, Try.ntmps20
  go_upto_region 1 with fail
  refine world_gen (fun W => Opk W w.heap.size mk mn ∧ w.heap.size < W.heap.size ∧ Below w.heap.size w W) ⟨opk_new _ _ _, by simp, below_alloc _ _⟩ ?_
  rintro W0 ⟨k0, hlt0, h0⟩
  obtain ⟨g, hg⟩ : ∃ g, Hid (w.heap.size = g) := ⟨_, rfl⟩
  rw [hg.out] at k0 ⊢
  go_upto_region 2 with (at_make; refine wpList_make_full _ rfl _ _ 24 rfl W0.heap.size 23 i0 (.agg #[.int .i64 0, .int .i64 0]) 2 Try.underlying24 hi hz0 hz1 _ _ _ _ (n + 80) rfl rfl (by omega) (by omega) (by rw [hz2]; omega) (by unfold maxLen; omega) (Nat.le_refl _) ?_; intro w0 hown0 hgrow0)
  have hb0 : Below W0.heap.size W0 w0 := (Below.refl _ _).grown hgrow0 (Nat.le_refl _) (fun k hk => by cases hk)
  go_wp2_with (refine wpList_copy_rows rfl _ _ 24 24 rfl 23 2 Try.underlying24 Try.size23 _ _ _ _ _ _ rfl rfl W0.heap.size 0 (List.replicate ((n + 80) * 2) (.int .i64 0)) 23 ?g1 (opl zs) n ?gm ?g2 ?g3 ?g4 (opl_one zs) W0.heap.size W0 hb0 (Nat.le_refl _) ?_)
  case g1 =>
    obtain ⟨_, h | ⟨g, cap', cur, hvv, _, hh, _, _, hs, ht⟩⟩ := hown0
    · cases h.1
    · cases hvv
      rw [hh]
      congr 2
      have e1 : cur.toList = List.replicate ((n + 80) * 2) (Value.int .i64 0) := by
        rw [List.take_of_length_le (by simp; omega)] at ht
        rw [ht]; exact made_nought _
      rw [← e1]
  case gm => simp only [Nat.min_def]; split <;> omega
  case g2 => rw [opl_len, ← hn'.out]
  case g3 =>
    intro hpos
    obtain ⟨b, off, rfl, hblt, hcell⟩ := hc'.out (by have := hn'.out; omega)
    refine ⟨_, rfl, fun j u hj => ?_⟩
    obtain ⟨q1, q2⟩ := opl_some hj
    have hb1 : Below w.heap.size w w0 := bcall h0 hb0
    obtain ⟨c0, c1⟩ := (hcell (j / 2) q1).below hb1 hblt
    rw [Addr.add_lit]
    have hj' : j = j / 2 * 2 + j % 2 := by omega
    have hr : j % 2 < 2 := by omega
    generalize j % 2 = r at q2 hj' hr
    rw [hj', ← Nat.add_assoc]
    match r, hr with
    | 0, _ => simpa [opCells, ← q2] using c0
    | 1, _ => simpa [opCells, ← q2] using c1
  case g4 => rw [opl_len, ← hn'.out]; simp; omega
  intro w1 hg1 hb1
  have hown1 : w1.ownsRow W0.heap.size 23 2 (.slice (some ⟨W0.heap.size, 0, none⟩) (n + 80) (n + 80)) (n + 80) (opl (roomyO zs ⟨mk, mn⟩ 0)) := by
    have h := hg1.out
    rw [hn'.out, splice0O zs ⟨mk, mn⟩] at h
    have hlen : (opl (roomyO zs ⟨mk, mn⟩ 0)).length = (n + 80) * 2 := by rw [opl_len, roomy_lenO _ _ _ (by decide), ← hn'.out]
    refine ⟨by rw [hlen], .inr ⟨W0.heap.size, n + 80, _, rfl, Nat.le_refl _, h, Nat.le_refl _, by unfold maxLen; omega, by simpa using hlen, ?_⟩⟩
    rw [List.take_of_length_le (by simp [hlen])]
  have k1 := k0.call hb1
  clear hg1 hown0 hgrow0 hb0 k0
  have r0 : W0.heap.size ≠ g := by have := hg.out; omega
  go_wp2_with fail
  go_loopw [6] (fun i wr => ∃ k : Nat, k ≤ 80 ∧ i = .int .i64 ((n + k : Nat) : Int) ∧ wr.ownsRow W0.heap.size 23 2 (.slice (some ⟨W0.heap.size, 0, none⟩) (n + 80) (n + 80)) (n + 80) (opl (roomyO zs ⟨mk, mn⟩ k)) ∧ Opk wr g mk mn ∧ Below W0.heap.size W0 wr) (fun i _ => n + 80 - (intOf i).toNat)
  case atStart => exact ⟨0, by decide, by go_num, hown1, k1, hb1⟩
  case round =>
    obtain ⟨k, hk, rfl, hown, ko, hbw⟩ := hrel
    clear hown1 hb1 k1
    by_cases hlt : k < 80
    · have hlen : (opl (roomyO zs ⟨mk, mn⟩ k)).length = (n + 80) * 2 := by rw [opl_len, roomy_lenO _ _ _ hk, ← hn'.out]
      obtain ⟨c, hc⟩ : ∃ c, wr.cell? ⟨W0.heap.size, (n + k) * 2, none⟩ = some c := by
        have := hown.cellAt ((n + k) * 2) (by omega)
        rw [this]
        exact ⟨_, List.getElem?_eq_getElem (by omega)⟩
      obtain ⟨c', hc1⟩ : ∃ c, wr.cell? ⟨W0.heap.size, (n + k) * 2 + 1, none⟩ = some c := by
        have := hown.cellAt ((n + k) * 2 + 1) (by omega)
        rw [this]
        exact ⟨_, List.getElem?_eq_getElem (by omega)⟩
      have hf := hown.frozenAt ((n + k) * 2)
      have hf1 := hown.frozenAt ((n + k) * 2 + 1)
      have hst := (hown.stored ((n + k) * 2) (.int .i64 mk)).1.stored ((n + k) * 2 + 1) (.int .i64 mn)
      have hset : Hid (((opl (roomyO zs ⟨mk, mn⟩ k)).set ((n + k) * 2) (.int .i64 mk)).set ((n + k) * 2 + 1) (.int .i64 mn) = opl (roomyO zs ⟨mk, mn⟩ (k + 1))) := by
        have := roomy_setO zs ⟨mk, mn⟩ k hlt
        rw [← hn'.out] at this; exact this
      clear hlen
      have hst' : Hid (((wr.setCell ⟨W0.heap.size, (n + k) * 2, none⟩ (.int .i64 mk)).setCell ⟨W0.heap.size, (n + k) * 2 + 1, none⟩ (.int .i64 mn)).ownsRow W0.heap.size 23 2 (.slice (some ⟨W0.heap.size, 0, none⟩) (n + 80) (n + 80)) (n + 80) (opl (roomyO zs ⟨mk, mn⟩ (k + 1))) ∧ Opk ((wr.setCell ⟨W0.heap.size, (n + k) * 2, none⟩ (.int .i64 mk)).setCell ⟨W0.heap.size, (n + k) * 2 + 1, none⟩ (.int .i64 mn)) g mk mn ∧ Below W0.heap.size W0 ((wr.setCell ⟨W0.heap.size, (n + k) * 2, none⟩ (.int .i64 mk)).setCell ⟨W0.heap.size, (n + k) * 2 + 1, none⟩ (.int .i64 mn))) := by
        refine ⟨?_, ?_, (hbw.setCell (Nat.le_refl _) _).setCell (Nat.le_refl _) _⟩
        · have := hst.1
          rw [hset.out] at this; exact this
        · unfold Opk at ko ⊢
          rw [Below.heap_setCell _ _ _ _ (Ne.symm r0), Below.heap_setCell _ _ _ _ (Ne.symm r0)]; exact ko
      clear hst hset hown
      have m0 := ko.c0
      have m1 := ko.c1
      go_wp2
      go_roundw
      case rel => exact ⟨k + 1, by omega, by go_num, hst'.out.1, hst'.out.2.1, hst'.out.2.2⟩
      case measure => simp [intOf]; omega
    · have : k = 80 := by omega
      subst this
      go_wp2
      go_ret
      refine ⟨_, rfl, ?_, bcall h0 hbw⟩
      rw [← roomy_endO, roomy_lenO _ _ _ (by decide), ← hn'.out]
      obtain ⟨q1, q | ⟨g1, cp, cur, q2, q3, q4⟩⟩ := hown
      · exact ⟨q1, .inl q⟩
      · exact ⟨q1, .inr ⟨g1, cp, cur, q2, Nat.le_trans (Nat.le_of_lt hlt0) q3, q4⟩⟩

theorem rep_atO (zs : List Oq) (mark : Oq) (k : Nat) (h : k < 80) : opAt (zs ++ List.replicate 80 mark) (zs.length + k) = mark := by
  unfold opAt
  rw [List.getD_eq_getElem?_getD, List.getElem?_append_right (by omega), Nat.add_sub_cancel_left, List.getElem?_replicate, if_pos h]
  rfl
theorem pre_atO (zs : List Oq) (mark : Oq) (k : Nat) (h : k < zs.length) : opAt (zs ++ List.replicate 80 mark) k = opAt zs k := by
  unfold opAt
  rw [List.getD_eq_getElem?_getD, List.getD_eq_getElem?_getD, List.getElem?_append_left h]

set_option maxHeartbeats 1000000 in
set_option maxRecDepth 100000 in
theorem intact_anyO (vf vw : Value) (zs : List Oq) (mk mn : Int) (w : World) (hf : RdO w vf (zs ++ List.replicate 80 (⟨mk, mn⟩ : Oq))) (hv : RdO w vw zs) (hl : zs.length ≤ 60) :
    Calls Try.prog 21 #[vf, vw, opv mk mn] w fun e w' => e = .returned (.bool true) ∧ Below w.heap.size w w' := by
  obtain ⟨_, hfl, af, capf, rfl, hcf, hcm0, hf⟩ := hf
  obtain ⟨b, off, rfl, hblt, hcell⟩ := hf (by simp)
  have hv2 := hv
  obtain ⟨_, hvl, aw, capw, rfl, _, _, _⟩ := hv
  have e1 : (zs ++ List.replicate 80 (⟨mk, mn⟩ : Oq)).length = zs.length + 80 := by simp
  rw [e1] at hcf hcell ⊢
  have hrd : Hid (RdO w (.slice (some ⟨b, off, none⟩) zs.length capf) zs) := by
    refine ⟨by omega, hvl, _, capf, rfl, by omega, hcm0, fun _ => ⟨b, off, rfl, hblt, fun j hj => ?_⟩⟩
    have := hcell j (by omega)
    rw [pre_atO zs ⟨mk, mn⟩ j hj] at this; exact this
  have hcm : Hid (∀ k, k < 80 → OpAt w b (off + (zs.length + k) * 2) ⟨mk, mn⟩) := by
    intro k hk
    have := hcell (zs.length + k) (by omega)
    rw [rep_atO zs ⟨mk, mn⟩ k hk] at this; exact this
  have hv3 : Hid (RdO w (.slice aw zs.length capw) zs) := hv2
  clear hcell hf hv2 hfl hvl
  obtain ⟨n, hn⟩ : ∃ n, n = zs.length := ⟨_, rfl⟩
  have hn' : Hid (n = zs.length) := hn
  rw [← hn] at hcf hl hrd hcm hv3 ⊢
  clear hn e1
  go_enter Try.func21, Try.ntmps21
  go_upto_region 1 with fail
  refine world_gen (fun W => Opk W w.heap.size mk mn ∧ Below w.heap.size w W) ⟨opk_new _ _ _, below_alloc _ _⟩ ?_
  rintro W0 ⟨k0, h0⟩
  have hrd0 : Hid (RdO W0 _ zs) := hrd.out.below h0 (Nat.le_refl _) h0.size
  have hv0 : Hid (RdO W0 _ zs) := hv3.out.below h0 (Nat.le_refl _) h0.size
  clear hrd hv3
  obtain ⟨g, hg⟩ : ∃ g, Hid (w.heap.size = g) := ⟨_, rfl⟩
  rw [hg.out] at k0 ⊢
  go_wp2_with fail
  refine (same_ops _ _ zs zs _ true hrd0.out hv0.out (by simp)).mono ?_
  rintro e w2 ⟨rfl, b2⟩
  have h2 := bcall h0 b2
  have k2 := k0.call b2
  clear b2 h0 k0 hrd0 hv0
  go_wp2_with fail
  go_loopw [7] (fun i wr => ∃ k : Nat, k ≤ 80 ∧ i = .int .i64 ((n + k : Nat) : Int) ∧ Opk wr g mk mn ∧ Below w.heap.size w wr) (fun i _ => n + 80 - (intOf i).toNat)
  case atStart => exact ⟨0, by decide, by go_num, k2, h2⟩
  case round =>
    obtain ⟨k, hk, rfl, ko, hbw⟩ := hrel
    clear k2 h2
    by_cases hlt : k < 80
    · obtain ⟨p0, p1⟩ := (hcm.out k hlt).below hbw hblt
      have m0 := ko.c0
      have m1 := ko.c1
      simp only at p0 p1
      go_wp2_with fail
      go_quiet (fail)
      go_wp2_with fail
      go_roundw
      case rel => exact ⟨k + 1, by omega, by go_num, ko.call (below_drewN (Below.refl _ _) nq), below_drewN hbw nq⟩
      case measure => simp [intOf]; omega
    · have : k = 80 := by omega
      subst this
      go_wp2
      go_ret
      exact ⟨rfl, hbw⟩
end Go.Proofs.Ytimeglhoiibhdaa
