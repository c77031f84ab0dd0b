/- What cordonbook.Roomy and cordonbook.Intact do with a list of ints. -/
import Derived.Test.YtokcanmhhabecaaFrame
import Derived.Laws.CopyOwn
import Derived.Deep.DeepCutAuto
namespace Go.Proofs.Ytokcanmhhabecaa
open Go.RowKit M
set_option linter.unusedVariables false

theorem Try.size3 : (Try.prog.info? 3).map (·.size) = some 1 := by kernel_rfl
def roomy (zs : List Int) (mark : Int) (k : Nat) : List Int := zs ++ List.replicate k mark ++ List.replicate (80 - k) 0
theorem roomy_len (zs : List Int) (mark : Int) (k : Nat) (h : k ≤ 80) : (roomy zs mark k).length = zs.length + 80 := by simp [roomy]; omega
theorem roomy_set (zs : List Int) (mark : Int) (k : Nat) (h : k < 80) : (iv (roomy zs mark k)).set (zs.length + k) (.int .i64 mark) = iv (roomy zs mark (k + 1)) := by
  unfold iv roomy
  obtain ⟨r, hr⟩ : ∃ r, 80 - k = r + 1 := ⟨80 - k - 1, by omega⟩
  have hr' : 80 - (k + 1) = r := by omega
  rw [hr, hr']
  simp only [List.map_append, List.map_replicate]
  rw [List.set_append_right _ _ (by simp), List.replicate_succ, List.replicate_succ']
  simp [List.append_assoc]
theorem roomy_end (zs : List Int) (mark : Int) : roomy zs mark 80 = zs ++ List.replicate 80 mark := by simp [roomy]

theorem splice0 (zs : List Int) : splice (List.replicate (zs.length + 80) (Value.int .i64 0)) 0 (iv zs) = iv (roomy zs 7 0) ∧ ∀ m, splice (List.replicate (zs.length + 80) (Value.int .i64 0)) 0 (iv zs) = iv (roomy zs m 0) := by
  have h : ∀ m, splice (List.replicate (zs.length + 80) (Value.int .i64 0)) 0 (iv zs) = iv (roomy zs m 0) := by
    intro m
    unfold splice roomy iv
    simp
  exact ⟨h 7, h⟩

set_option maxHeartbeats 1000000 in
set_option maxRecDepth 100000 in
theorem roomy_any (v : Value) (zs : List Int) (mark : Int) (w : World) (hv : Rd .i64 w v zs) (hl : zs.length ≤ 60) :
    Calls Try.prog 11 #[v, .int .i64 mark] w fun e w' => ∃ u, e = .returned u ∧ w'.ownsRow w.heap.size 3 1 u (zs ++ List.replicate 80 mark).length (iv (zs ++ List.replicate 80 mark)) ∧ Below w.heap.size w w' := by
  obtain ⟨i0, hi, hz0, hz1, hz2⟩ := info_parts Try.info3
  obtain ⟨_, ao, cap, rfl, _, _, hc⟩ := hv
  have hc' : Hid (zs.length ≠ 0 → ∃ b off, ao = some ⟨b, off, none⟩ ∧ ∀ j, j < zs.length → w.cell? ⟨b, off + j, none⟩ = some (.int .i64 (zs.getD j 0))) := hc
  clear hc
  obtain ⟨n, hn⟩ : ∃ n, n = zs.length := ⟨_, rfl⟩
  have hl' : n ≤ 60 := by omega
  have hn' : Hid (n = zs.length) := hn
  rw [← hn]
  clear hn hl
  go_enter Try.func11, Try.ntmps11
  go_upto_region 2 with (at_make; refine wpList_make_full _ rfl _ _ 29 rfl w.heap.size 3 i0 (.int .i64 0) 1 Try.underlying29 hi hz0 hz1 _ _ _ _ (n + 80) rfl rfl (by omega) (by omega) (by rw [hz2]; omega) (by unfold maxLen; omega) (Nat.le_refl _) ?_; intro w0 hown0 hgrow0)
  go_wp2_with (refine wpList_copy_splice rfl _ _ 29 29 rfl 3 Try.underlying29 Try.size3 _ _ _ _ _ _ rfl rfl w.heap.size 0 (List.replicate (n + 80) (.int .i64 0)) 3 ?g1 (iv zs) ?g2 ?g3 ?g4 (iv_one zs) w.heap.size w ?g5 (Nat.le_refl _) ?_)
  case g1 =>
    obtain ⟨_, h | ⟨g, cap', cur, hvv, _, hh, _, _, hs, ht⟩⟩ := hown0
    · cases h.1
    · cases hvv
      rw [hh]
      congr 2
      have e1 : cur.toList = List.replicate (n + 80) (Value.int .i64 0) := by
        rw [List.take_of_length_le (by simp; omega)] at ht
        rw [ht, Nat.mul_one]; exact toList_madeCells_one _ _
      rw [← e1]
  case g2 => rw [iv_len, ← hn'.out]; simp only [Nat.min_def]; split <;> omega
  case g3 =>
    intro hpos
    rw [iv_len] at hpos
    obtain ⟨b, off, rfl, hcell⟩ := hc'.out (by omega)
    refine ⟨_, rfl, fun j u hj => ?_⟩
    simp only [iv, List.getElem?_map, Option.map_eq_some_iff] at hj
    obtain ⟨z, hz, rfl⟩ := hj
    have hjl := (List.getElem?_eq_some_iff.1 hz).1
    have hcj := hcell j hjl
    have hlt : b < w.heap.size := World.block_lt_of_cell? w _ hcj
    have hb0 : Below w.heap.size w w0 := (Below.refl _ _).grown hgrow0 (Nat.le_refl _) (fun k hk => by cases hk)
    have := (hb0.cell (p := ⟨b, off + j, none⟩) hlt).trans hcj
    rw [Addr.add_lit]
    simpa [List.getD_eq_getElem?_getD, hz] using this
  case g4 => rw [iv_len, ← hn'.out]; simp
  case g5 => exact (Below.refl _ _).grown hgrow0 (Nat.le_refl _) (fun k hk => by cases hk)
  intro w1 hg1 hb1
  have hown1 : w1.ownsRow w.heap.size 3 1 (.slice (some ⟨w.heap.size, 0, none⟩) (n + 80) (n + 80)) (n + 80) (iv (roomy zs mark 0)) := by
    have h := hg1.out
    rw [hn'.out, (splice0 zs).2 mark] at h
    have hlen : (iv (roomy zs mark 0)).length = n + 80 := by rw [iv_len, roomy_len _ _ _ (by decide), ← hn'.out]
    refine ⟨by rw [hlen]; omega, .inr ⟨w.heap.size, n + 80, _, rfl, Nat.le_refl _, h, Nat.le_refl _, by unfold maxLen; omega, by simpa using hlen, ?_⟩⟩
    rw [List.take_of_length_le (by simp [hlen])]
  clear hg1 hown0 hgrow0
  go_wp2
  go_loopw [6] (fun i wr => ∃ k : Nat, k ≤ 80 ∧ i = .int .i64 ((n + k : Nat) : Int) ∧ wr.ownsRow w.heap.size 3 1 (.slice (some ⟨w.heap.size, 0, none⟩) (n + 80) (n + 80)) (n + 80) (iv (roomy zs mark k)) ∧ Below w.heap.size w wr) (fun i _ => n + 80 - (intOf i).toNat)
  case atStart => exact ⟨0, by decide, by go_num, hown1, hb1⟩
  case round =>
    obtain ⟨k, hk, rfl, hown, hbw⟩ := hrel
    clear hown1 hb1
    by_cases hlt : k < 80
    · have hlen : (iv (roomy zs mark k)).length = n + 80 := by rw [iv_len, roomy_len _ _ _ hk, ← hn'.out]
      obtain ⟨c, hc⟩ : ∃ c, wr.cell? ⟨w.heap.size, n + k, none⟩ = some c := by
        have := hown.cellAt (n + k) (by omega)
        rw [this]
        exact ⟨_, List.getElem?_eq_getElem (by omega)⟩
      have hf := hown.frozenAt (n + k)
      have hst := hown.stored (n + k) (.int .i64 mark)
      have hset : Hid ((iv (roomy zs mark k)).set (n + k) (.int .i64 mark) = iv (roomy zs mark (k + 1))) := by
        have := roomy_set zs mark k hlt
        rw [← hn'.out] at this; exact this
      clear hlen
      have hst' : Hid ((wr.setCell ⟨w.heap.size, n + k, none⟩ (.int .i64 mark)).ownsRow w.heap.size 3 1 (.slice (some ⟨w.heap.size, 0, none⟩) (n + 80) (n + 80)) (n + 80) (iv (roomy zs mark (k + 1))) ∧ Below w.heap.size w (wr.setCell ⟨w.heap.size, n + k, none⟩ (.int .i64 mark))) := by
        refine ⟨?_, hbw.setCell (Nat.le_refl _) _⟩
        have := hst.1
        rw [hset.out] at this; exact this
      clear hst hset hown
      go_wp2
      go_roundw
      case rel => exact ⟨k + 1, by omega, by go_num, hst'.out.1, hst'.out.2⟩
      case measure => simp [intOf]; omega
    · have : k = 80 := by omega
      subst this
      go_wp2
      go_ret
      refine ⟨_, rfl, ?_, hbw⟩
      rw [← roomy_end, roomy_len _ _ _ (by decide), ← hn'.out]
      exact hown

theorem rep_at (zs : List Int) (mark : Int) (k : Nat) (h : k < 80) : (zs ++ List.replicate 80 mark).getD (zs.length + k) 0 = mark := by
  rw [List.getD_eq_getElem?_getD, List.getElem?_append_right (by omega), Nat.add_sub_cancel_left, List.getElem?_replicate, if_pos h]
  rfl
theorem pre_at (zs : List Int) (mark : Int) (k : Nat) (h : k < zs.length) : (zs ++ List.replicate 80 mark).getD k 0 = zs.getD k 0 := by
  rw [List.getD_eq_getElem?_getD, List.getD_eq_getElem?_getD, List.getElem?_append_left h]

set_option maxHeartbeats 1000000 in
set_option maxRecDepth 100000 in
theorem intact_any (vf vw : Value) (zs : List Int) (mark : Int) (w : World) (hf : Rd .i64 w vf (zs ++ List.replicate 80 mark)) (hv : Rd .i64 w vw zs) (hl : zs.length ≤ 60) :
    Calls Try.prog 12 #[vf, vw, .int .i64 mark] w fun e w' => e = .returned (.bool true) ∧ Below w.heap.size w w' := by
  obtain ⟨_, af, capf, rfl, hcf, hcm0, hf⟩ := hf
  obtain ⟨b, off, rfl, hcell⟩ := hf (by simp)
  have hv2 := hv
  obtain ⟨_, aw, capw, rfl, _, _, _⟩ := hv
  have e1 : (zs ++ List.replicate 80 mark).length = zs.length + 80 := by simp
  rw [e1] at hcf hcell ⊢
  have hrd : Hid (Rd .i64 w (.slice (some ⟨b, off, none⟩) zs.length capf) zs) := by
    refine ⟨by omega, _, capf, rfl, by omega, hcm0, fun _ => ⟨b, off, rfl, fun j hj => ?_⟩⟩
    rw [hcell j (by omega), pre_at zs mark j hj]
  have hcm : Hid (∀ k, k < 80 → w.cell? ⟨b, off + (zs.length + k), none⟩ = some (.int .i64 mark)) := by
    intro k hk
    rw [hcell _ (by omega), rep_at zs mark k hk]
  have hv3 : Hid (Rd .i64 w (.slice aw zs.length capw) zs) := hv2
  clear hcell hf hv2
  obtain ⟨n, hn⟩ : ∃ n, n = zs.length := ⟨_, rfl⟩
  have hn' : Hid (n = zs.length) := hn
  rw [← hn] at hcf hl hrd hcm hv3 ⊢
  clear hn e1
  go_enter Try.func12, Try.ntmps12
  go_wp2_with fail
  refine (same_i _ _ zs zs _ true hrd.out hv3.out (by simp)).mono ?_
  rintro e w2 ⟨rfl, b2⟩
  go_wp2_with fail
  go_loop [7] (fun i => ∃ k : Nat, k ≤ 80 ∧ i = .int .i64 ((n + k : Nat) : Int)) (fun i => n + 80 - (intOf i).toNat)
  case atStart => exact ⟨0, by decide, by go_num⟩
  case round =>
    obtain ⟨k, hk, rfl⟩ := hrel
    by_cases hlt : k < 80
    · have hc := (b2.cell (p := ⟨b, off + (n + k), none⟩) (World.block_lt_of_cell? w _ (hcm.out k hlt))).trans (hcm.out k hlt)
      go_wp2
      go_round
      case rel => exact ⟨k + 1, by omega, by go_num⟩
      case measure => simp [intOf]; omega
    · have : k = 80 := by omega
      subst this
      go_wp2
      go_ret
      exact ⟨rfl, b2⟩
end Go.Proofs.Ytokcanmhhabecaa
