/- CellTwins: a twin of the same calls is the same; rows once told are told again. -/
import Derived.Test.YtnamjnopicghhaaRowsApp
import Derived.Deep.QuietTactic
import Derived.BigQuiet
namespace Go.Proofs.Ytnamjnopicghhaa
open Go.RowKit M
open O (Small Ints kv Kpk Pik)
open O.MO (Oq Pq rightP)
set_option linter.unusedVariables false
set_option linter.unusedSimpArgs false
attribute [local go_sem ↓] Go.wp_at_zero Go.wp_at_succ

/-- What stands in the round. -/
def Wb (n : Nat) (l s f : Int) (wait : List Inp) : Prop := 0 ≤ l ∧ l ≤ 60 ∧ 0 ≤ s ∧ s ≤ n ∧ 0 ≤ f ∧ f ≤ n ∧ wait.length ≤ n
theorem wb_off {k n : Nat} {room l s f l' s' f' E : Int} {wait wait' : List Inp} {x : Inp} (h : Wb n l s f wait) (hE : Off k room x l s f wait E l' s' f' wait') : Wb (n + 1) l' s' f' wait' := by
  obtain ⟨h1, h2, h3, h4, h5, h6, h7⟩ := h
  unfold Wb
  rcases hE with ⟨_, _, rfl, rfl, rfl, rfl⟩ | ⟨_, _, _, rfl, rfl, rfl, rfl⟩ | ⟨_, _, _, _, rfl, rfl, rfl, rfl⟩ | ⟨_, _, _, _, rfl, rfl, rfl, rfl⟩
  · exact ⟨by omega, by omega, by omega, by omega, by omega, by omega, by omega⟩
  · exact ⟨by omega, by omega, by omega, by omega, by omega, by omega, by omega⟩
  · exact ⟨by omega, by omega, by omega, by omega, by omega, by omega, by omega⟩
  · exact ⟨by omega, by omega, by omega, by omega, by omega, by omega, by simp; omega⟩
theorem count_b {W0 : World} {us : List Th} {c : Nat} {p : Pq} {i l s f : Int} {wait taken : List Inp} (N : Nat) (w : World) (hS : St W0 w (cel c p i l s f wait taken :: us)) (hN : (rowsR p r0 taken).length = N) :
    Calls Try.prog 26 #[.pointer (some ⟨c, 0, none⟩)] w fun e w' => e = .returned (.int .i64 ((N : Nat) : Int)) ∧ Below w.heap.size w w' := by
  refine (count_is w hS).mono ?_
  rintro e w' ⟨rfl, rfl⟩
  exact ⟨by rw [hN], Below.refl _ _⟩
theorem len_op34 {o : Oper} {a : Act} {w : World} (x : Operand) (ao : Option Addr) (n c : Nat) (ho : o.op = .call { callee := .builtin .len, args := #[x], argTypes := #[34] }) (hx : a.eval x = .slice ao n c) :
    (execOp a.eval o).run Try.prog w = .ok (.value (.int .i64 ((n : Nat) : Int))) w := by
  unfold execOp
  simp only [ho, resolve, invoke, builtin, Sem.run_bind, Sem.run_pure, Result.andThen_ok, List.map_toArray, List.map_cons, List.map_nil, hx]
  go_simp
set_option maxHeartbeats 8000000 in
set_option maxRecDepth 100000 in
theorem cellTwins_walk (k : KeepIn) (la : Option Addr) (ll lc : Nat) (ma : Option Addr) (ml mc : Nat) (nn : Int) (w : World) (hk : IsKeep w k) (hI : Ins4 w la ll lc) (hJ : Ins4 w ma ml mc) (hnn : (Lit.int .i64 nn).wf = true) :
    Calls Try.prog 8 #[kin k, .slice la ll lc, .slice ma ml mc, .int .i64 nn] w fun e w' => e = .returned (.bool true) ∧ Below w.heap.size w w' := by
  obtain ⟨ao, lo, co, an, ln, cn, kn, ks, kg, kk, kf⟩ := k
  unfold kin
  obtain ⟨hk1, hk2⟩ := hk
  simp only at hk1 hk2
  have hI' : Hid (Ins4 w la ll lc) := hI
  have hJ' : Hid (Ins4 w ma ml mc) := hJ
  clear hI hJ hnn
  go_enter Try.func8, Try.ntmps8
  go_upto_region 1 with fail
  refine world_gen (fun W => Hid (Kpk W w.heap.size (.slice ao lo co) (.slice an ln cn) kn ks kg kk kf) ∧ Hid (Ints W ao lo co) ∧ Hid (Ints W an ln cn) ∧ Hid (St w W [])) ⟨O.kpk_new _ _ _ _ _ _ _ _, hk1.call (below_alloc _ _), hk2.call (below_alloc _ _), (st_start w).below (below_alloc _ _)⟩ ?_
  clear hk1 hk2
  rintro W ⟨hK, hk1, hk2, hB⟩
  generalize w.heap.size = g0 at hK ⊢
  have c0 := hK.out.c0
  have c1 := hK.out.c1
  have c2 := hK.out.c2
  have c3 := hK.out.c3
  have c4 := hK.out.c4
  have c5 := hK.out.c5
  have c6 := hK.out.c6
  go_wp2_with fail
  refine (kpipe_st ao lo co an ln cn kn ks kg kk kf _ hB.out hk1.out hk2.out).mono ?_
  rintro e W1 ⟨p, ua, uc, hSm, rfl, hS1, _⟩
  have hS' : Hid (Small p) := hSm
  have hS : Hid (St w W1 (opT (.slice ua p.os.length uc) p.os :: [])) := hS1
  clear hK hk1 hk2 c0 c1 c2 c3 c4 c5 c6 hB hS1 hSm
  go_wp2_with fail
  refine (cnew_is (p := p) (.slice ua p.os.length uc) (1 : Nat) 60 60 _ hS.out hS.out.op (small_new hS'.out).1 (small_new hS'.out).2.1 ⟨by decide, by decide⟩ (.inl ⟨by decide, rfl⟩)).mono ?_
  rintro e V1 ⟨c1, rfl, hN⟩
  have hS1 : Hid (St w V1 (cel c1 p (1 : Nat) 60 0 0 [] [] :: [])) := hN.rm 1
  clear hN hS
  go_wp2_with fail
  refine (inputs_st la ll lc _ hS1.out (hI'.out.below hS1.out.b (Nat.le_refl _) hS1.out.size)).mono ?_
  rintro e W3 ⟨is, ia, ic, rfl, hl25, hG, hN⟩
  have hS : Hid (St w W3 (cel c1 p (1 : Nat) 60 0 0 [] [] :: inl (.slice ia is.length ic) is :: [])) := hN.sw
  clear hN hS1 hI' hG
  obtain ⟨m, hm⟩ : ∃ m, Hid (is.length = m) := ⟨_, rfl⟩
  rw [hm.out] at hl25 hS ⊢
  go_wp2_with fail
  go_loopw [32] (fun i wr => ∃ (j : Nat) (l s f : Int) (wait : List Inp), j ≤ m ∧ i = .int .i64 j ∧ Hid (Wb j l s f wait) ∧ Hid (St w wr (cel c1 p (1 : Nat) l s f wait [] :: inl (.slice ia m ic) is :: []))) (fun i _ => m - (intOf i).toNat)
  case atStart => exact ⟨0, 60, 0, 0, [], Nat.zero_le _, rfl, ⟨by decide, by decide, by decide, by decide, by decide, by decide, by simp⟩, hS⟩
  case round =>
    obtain ⟨j, l, s, f, wait, hj, rfl, hW, hS5⟩ := hrel
    clear hS
    by_cases hlt : j < m
    · obtain ⟨g, off, rfl, hin⟩ := hS5.out.inAt (v := ia) (n := m) (c := ic) (is := is) (by simp) j (by rw [hm.out]; exact hlt)
      obtain ⟨x, hx⟩ : ∃ x, Hid (iAt is j = x) := ⟨_, rfl⟩
      rw [hx.out] at hin
      obtain ⟨d0, d1, d2, d3, d4⟩ := hin
      have hS8 := hS5
      clear hS5
      go_upto_region 7 with fail
      clear d0 d1 d2 d3 d4
      refine world_gen (fun X => Hid (St w X (inkT wr.heap.size x :: cel c1 p (1 : Nat) l s f wait [] :: inl (.slice (some ⟨g, off, none⟩) m ic) is :: []))) (hS8.out.newBlk _ _ rfl) ?_
      clear hS8
      generalize wr.heap.size = g1
      rintro wc hS8
      obtain ⟨E, l2, s2, f2, wait2, hE⟩ := off_ex 1 99 x l s f wait
      have hE' : Hid (Off 1 99 x l s f wait E l2 s2 f2 wait2) := hE
      have hW' : Hid (Wb (j + 1) l2 s2 f2 wait2) := wb_off hW.out hE
      clear hE
      obtain ⟨d0, d1, d2, d3, d4⟩ := (show Ink wc g1 x from hS8.out.blk).c
      simp only [Nat.zero_add] at d0 d1 d2 d3 d4
      go_wp2_with fail
      refine (offer_is 99 x _ hS8.out.sw (by decide) ⟨by have := hW.out.1; omega, by have := hW.out.2.1; omega⟩ ⟨hW.out.2.2.1, by have := hW.out.2.2.2.1; omega⟩ ⟨hW.out.2.2.2.2.1, by have := hW.out.2.2.2.2.2.1; omega⟩ (by have := hW.out.2.2.2.2.2.2; omega) E l2 s2 f2 wait2 hE'.out).mono ?_
      rintro e V2 ⟨rfl, hN⟩
      have hS9 : Hid (St w V2 (cel c1 p (1 : Nat) l2 s2 f2 wait2 [] :: inl (.slice (some ⟨g, off, none⟩) m ic) is :: [])) := hN.rm 1
      clear hN hS8 d0 d1 d2 d3 d4
      go_wp2_with fail
      go_roundw
      case rel => exact ⟨j + 1, l2, s2, f2, wait2, by omega, by go_num, hW', hS9⟩
      case measure => simp [intOf]; omega
    · have hW2 : Hid (Wb 25 l s f wait) := by
        have h : Wb 25 l s f wait := by obtain ⟨h1, h2, h3, h4, h5, h6, h7⟩ := hW.out; exact ⟨h1, h2, h3, by omega, h5, by omega, by omega⟩
        exact h
      clear hW
      go_wp2_with fail
      refine (ctwin_is _ hS5.out (by have := hW2.out.2.2.2.2.2.2; omega) (by simp) (small_new hS'.out).2.1).mono ?_
      rintro e V1 ⟨c2, rfl, hN⟩
      have hS6 : Hid (St w V1 (cel c1 p (1 : Nat) l s f wait [] :: cel c2 p (1 : Nat) l s f wait [] :: [])) := (hN.re [1, 0] 2).rm 2
      clear hN hS5
      go_wp2_with fail
      refine (count_is _ hS6.out).mono ?_
      rintro e X3 ⟨rfl, he⟩; obtain rfl := he.symm; clear he
      have hz : ((rowsR p r0 []).length : Nat) = 0 := rfl
      rw [hz]
      clear hz
      go_wp2_with fail
      refine (O.within_any nn 0 30 _ (by decide) (by decide) (by decide)).mono ?_
      rintro e W' ⟨⟨xx, hx0, hx30, rfl⟩, he⟩; obtain rfl := he.symm; clear he
      obtain ⟨k1, hk1⟩ := fst_ex xx wait.length
      have hk1' : Hid (Fst xx wait.length k1) := hk1
      clear hk1
      have hwl : wait.length ≤ 25 := hW2.out.2.2.2.2.2.2
      go_wp2_with fail
      refine (serve_is xx _ hS6.out k1 hk1'.out (by simp; omega)).mono ?_
      rintro e V2 ⟨u1, rfl, hN⟩
      have hS7 : Hid (St w V2 (cel c2 p (1 : Nat) l s f wait [] :: rwl u1 (rowsR p (stR p r0 []) (wait.take k1)) :: cel c1 p (1 : Nat) l s f (wait.drop k1) ([] ++ wait.take k1) :: [])) := hN.re [2, 0, 1] 3
      clear hN hS6
      go_wp2_with fail
      refine (serve_is xx _ hS7.out k1 hk1'.out (by simp; omega)).mono ?_
      rintro e V3 ⟨u2, rfl, hN⟩
      have hst : stR p r0 [] = r0 := rfl
      rw [List.nil_append, hst] at hN
      obtain ⟨t1, ht1⟩ : ∃ x, Hid (wait.take k1 = x) := ⟨_, rfl⟩
      obtain ⟨w1, hw1⟩ : ∃ x, Hid (wait.drop k1 = x) := ⟨_, rfl⟩
      rw [ht1.out, hw1.out] at hN
      obtain ⟨RA, hRA⟩ : ∃ x, Hid (rowsR p r0 t1 = x) := ⟨_, rfl⟩
      rw [hRA.out] at hN
      have htl1 : t1.length ≤ 25 := by rw [← ht1.out, List.length_take]; omega
      have hW3 : Hid (Wb 25 l s f w1) := by
        have h : Wb 25 l s f w1 := by
          obtain ⟨h1, h2, h3, h4, h5, h6, h7⟩ := hW2.out
          exact ⟨h1, h2, h3, h4, h5, h6, by rw [← hw1.out, List.length_drop]; omega⟩
        exact h
      have hAl : RA.length ≤ 200 := by have := (rows_len p t1).1; rw [hRA.out] at this; omega
      have hS8 : Hid (St w V3 (rwl u1 RA :: rwl u2 RA :: cel c1 p (1 : Nat) l s f w1 t1 :: cel c2 p (1 : Nat) l s f w1 t1 :: [])) := hN.re [2, 0, 3, 1] 4
      clear hN hS7 hk1' hW2 hwl ht1 hw1 hst
      have h1 := rdr_own (hS8.out.rwAt (v := u1) (R := RA) (by simp))
      have h2 := rdr_own (hS8.out.rwAt (v := u2) (R := RA) (by simp))
      go_wp2_with fail
      refine (same_r u1 u2 RA _ h1 h2).mono ?_
      rintro e V4 ⟨rfl, hb4⟩
      have hS9 : Hid (St w V4 (cel c1 p (1 : Nat) l s f w1 t1 :: cel c2 p (1 : Nat) l s f w1 t1 :: rwl u1 RA :: [])) := ((hS8.out.below hb4).re [2, 3, 0, 1] 4).rm 3
      clear h1 h2 hb4 hS8
      obtain ⟨NA, hNA⟩ : ∃ x, Hid (RA.length = x) := ⟨_, rfl⟩
      rw [hNA.out] at hAl
      obtain ⟨mm, hmm⟩ := rwm_ex 32 NA
      have hmm' : Hid (Rwm 32 NA mm) := hmm
      have hm32 : mm ≤ 32 ∧ mm ≤ NA := by unfold Rwm at hmm; omega
      clear hmm
      go_wp2_with fail
      refine (crows_is 32 0 _ hS9.out (by omega) NA mm (by rw [hRA.out, hNA.out]; omega) hmm'.out).mono ?_
      rintro e V5 ⟨u3, rfl, hN⟩
      rw [hRA.out, List.drop_zero] at hN
      obtain ⟨RF, hRF⟩ : ∃ x, Hid (RA.take mm = x) := ⟨_, rfl⟩
      rw [hRF.out] at hN
      have hFl : RF.length = mm := by rw [← hRF.out, List.length_take, hNA.out]; omega
      obtain ⟨fa, fc, rfl⟩ := own_len' hN.rw
      rw [hFl] at hN
      rw [hFl]
      obtain ⟨xa, xc, rfl⟩ := own_len' (hN.rwAt (v := u1) (R := RA) (by simp))
      rw [hNA.out] at hN
      have hS10 : Hid (St w V5 (cel c1 p (1 : Nat) l s f w1 t1 :: cel c2 p (1 : Nat) l s f w1 t1 :: rwl (.slice fa mm fc) RF :: rwl (.slice xa NA xc) RA :: [])) := hN.re [1, 2, 0] 3
      rw [hNA.out]
      clear hN hS9 hmm'
      go_wp2_with fail
      refine (inputs_st ma ml mc _ hS10.out (hJ'.out.below hS10.out.b (Nat.le_refl _) hS10.out.size)).mono ?_
      rintro e V6 ⟨js, ja, jc, rfl, hl25, hG, hN⟩
      obtain ⟨m2, hm2⟩ : ∃ m, Hid (js.length = m) := ⟨_, rfl⟩
      rw [hm2.out] at hl25 hN ⊢
      have hS11 : Hid (St w V6 (cel c1 p (1 : Nat) l s f w1 t1 :: cel c2 p (1 : Nat) l s f w1 t1 :: inl (.slice ja m2 jc) js :: rwl (.slice fa mm fc) RF :: rwl (.slice xa NA xc) RA :: [])) := hN.re [1, 2, 0] 3
      clear hN hS10 hJ' hG
      go_wp2_with fail
      go_loopw [69] (fun i wr => ∃ (j : Nat) (l s f : Int) (wt : List Inp), j ≤ m2 ∧ i = .int .i64 j ∧ Hid (Wb (25 + j) l s f wt) ∧ Hid (St w wr (cel c1 p (1 : Nat) l s f wt t1 :: cel c2 p (1 : Nat) l s f wt t1 :: inl (.slice ja m2 jc) js :: rwl (.slice fa mm fc) RF :: rwl (.slice xa NA xc) RA :: []))) (fun i _ => m2 - (intOf i).toNat)
      case atStart => exact ⟨0, l, s, f, w1, Nat.zero_le _, rfl, hW3, hS11⟩
      case round =>
        clear hS11 hW3
        obtain ⟨j, l, s, f, wt, hj, rfl, hW, hS12⟩ := hrel
        by_cases hlt : j < m2
        · obtain ⟨g, off, rfl, hin⟩ := hS12.out.inAt (v := ja) (n := m2) (c := jc) (is := js) (by simp) j (by rw [hm2.out]; exact hlt)
          obtain ⟨x, hx⟩ : ∃ x, Hid (iAt js j = x) := ⟨_, rfl⟩
          rw [hx.out] at hin
          obtain ⟨d0, d1, d2, d3, d4⟩ := hin
          have hS8 := hS12
          clear hS12
          go_upto_region 20 with fail
          clear d0 d1 d2 d3 d4
          refine world_gen (fun X => Hid (St w X (inkT wr.heap.size x :: cel c1 p (1 : Nat) l s f wt t1 :: cel c2 p (1 : Nat) l s f wt t1 :: inl (.slice (some ⟨g, off, none⟩) m2 jc) js :: rwl (.slice fa mm fc) RF :: rwl (.slice xa NA xc) RA :: []))) (hS8.out.newBlk _ _ rfl) ?_
          clear hS8
          generalize wr.heap.size = g1
          rintro wc hS8
          obtain ⟨E, l2, s2, f2, wait2, hE⟩ := off_ex 1 99 x l s f wt
          have hE' : Hid (Off 1 99 x l s f wt E l2 s2 f2 wait2) := hE
          have hW' : Hid (Wb (25 + (j + 1)) l2 s2 f2 wait2) := wb_off hW.out hE
          clear hE
          have hP1 : Ink wc g1 x := hS8.out.blk
          refine wp_region_held_drew (S := fun X => Ink X g1 x) (by kernel_rfl) hP1 (fun hHeld => ?_)
          have hT : Hid (St w wc.drew (inkT g1 x :: cel c1 p (1 : Nat) l s f wt t1 :: cel c2 p (1 : Nat) l s f wt t1 :: inl (.slice (some ⟨g, off, none⟩) m2 jc) js :: rwl (.slice fa mm fc) RF :: rwl (.slice xa NA xc) RA :: [])) := hS8.out.below (Below.refl _ _).drew
          clear hS8
          clear hP1
          generalize wc.drew = V at hHeld hT ⊢
          have hS8 := hT
          clear hT
          refine take_at (i := 0) (v := .pointer (some ⟨c1, 0, none⟩)) rfl rfl (by kernel_rfl) (by kernel_rfl) (by kernel_rfl) (fun _ _ _ h => h) (Or.inl ⟨by rfl, fun X _ => by go_simp⟩) hHeld ?_
          try simp only [Act.put, List.setIfInBounds_toArray, List.set_cons_zero, List.set_cons_succ]
          refine take_at (i := 1) (v := inv x) rfl rfl (by kernel_rfl) (by kernel_rfl) (by kernel_rfl) (fun _ _ _ h => h) (Or.inl ⟨by rfl, fun X hX => by obtain ⟨k0, k1, k2, k3, k4⟩ := hX.c; simp only [Nat.zero_add] at k0 k1 k2 k3 k4; go_simp⟩) hHeld ?_
          try simp only [Act.put, List.setIfInBounds_toArray, List.set_cons_zero, List.set_cons_succ]
          refine take_at (i := 3) (v := .pointer (some ⟨c2, 0, none⟩)) rfl rfl (by kernel_rfl) (by kernel_rfl) (by kernel_rfl) (fun _ _ _ h => h) (Or.inl ⟨by rfl, fun X _ => by go_simp⟩) hHeld ?_
          try simp only [Act.put, List.setIfInBounds_toArray, List.set_cons_zero, List.set_cons_succ]
          refine take_at (i := 4) (v := inv x) rfl rfl (by kernel_rfl) (by kernel_rfl) (by kernel_rfl) (fun _ _ _ h => h) (Or.inl ⟨by rfl, fun X hX => by obtain ⟨k0, k1, k2, k3, k4⟩ := hX.c; simp only [Nat.zero_add] at k0 k1 k2 k3 k4; go_simp⟩) hHeld ?_
          try simp only [Act.put, List.setIfInBounds_toArray, List.set_cons_zero, List.set_cons_succ]
          refine wpAnyH_ready (rs := [2]) (by kernel_rfl) (by simp) ?_
          refine AllReadyH.cons rfl (fun K hK => ?_) AllReadyH.nil
          rw [if_pos (by rfl)]
          go_wp2_with fail
          refine (offer_is 99 x _ (hS8.out.sw) (by decide) ⟨by have := hW.out.1; omega, by have := hW.out.2.1; omega⟩ ⟨hW.out.2.2.1, by have := hW.out.2.2.2.1; omega⟩ ⟨hW.out.2.2.2.2.1, by have := hW.out.2.2.2.2.2.1; omega⟩ (by have := hW.out.2.2.2.2.2.2; omega) E l2 s2 f2 wait2 hE'.out).mono ?_
          rintro e Y1 ⟨rfl, hN⟩
          have hS2 : Hid (St w Y1 (cel c2 p (1 : Nat) l s f wt t1 :: cel c1 p (1 : Nat) l2 s2 f2 wait2 t1 :: inkT g1 x :: inl (.slice (some ⟨g, off, none⟩) m2 jc) js :: rwl (.slice fa mm fc) RF :: rwl (.slice xa NA xc) RA :: [])) := hN.re [2, 0, 1] 3
          have hh : Ink Y1 g1 x := hS2.out.blkAt (b := g1) (by simp)
          clear hN hS8 hHeld
          go_wp2_with fail
          refine hK.out _ _ (hh) (fun hHeld => ?_)
          clear hK K
          try simp only [Act.put, List.setIfInBounds_toArray, List.set_cons_zero, List.set_cons_succ]
          clear hh
          refine wpAnyH_ready (rs := [5]) (by kernel_rfl) (by simp) ?_
          refine AllReadyH.cons rfl (fun K hK => ?_) AllReadyH.nil
          rw [if_pos (by rfl)]
          go_wp2_with fail
          refine (offer_is 99 x _ (hS2.out) (by decide) ⟨by have := hW.out.1; omega, by have := hW.out.2.1; omega⟩ ⟨hW.out.2.2.1, by have := hW.out.2.2.2.1; omega⟩ ⟨hW.out.2.2.2.2.1, by have := hW.out.2.2.2.2.2.1; omega⟩ (by have := hW.out.2.2.2.2.2.2; omega) E l2 s2 f2 wait2 hE'.out).mono ?_
          rintro e Y2 ⟨rfl, hN⟩
          have hS3 : Hid (St w Y2 (cel c2 p (1 : Nat) l2 s2 f2 wait2 t1 :: cel c1 p (1 : Nat) l2 s2 f2 wait2 t1 :: inkT g1 x :: inl (.slice (some ⟨g, off, none⟩) m2 jc) js :: rwl (.slice fa mm fc) RF :: rwl (.slice xa NA xc) RA :: [])) := hN
          have hh : Ink Y2 g1 x := hS3.out.blkAt (b := g1) (by simp)
          clear hN hS2 hHeld
          go_wp2_with fail
          refine hK.out _ _ (hh) (fun hHeld => ?_)
          clear hK K
          try simp only [Act.put, List.setIfInBounds_toArray, List.set_cons_zero, List.set_cons_succ]
          clear hh
          refine take_at (i := 6) (v := .bool false) rfl rfl (by kernel_rfl) (by kernel_rfl) (by kernel_rfl) (fun _ _ _ h => h) (Or.inl ⟨by rfl, fun X _ => by go_simp⟩) hHeld ?_
          try simp only [Act.put, List.setIfInBounds_toArray, List.set_cons_zero, List.set_cons_succ]
          refine wpAnyH_done (by kernel_rfl) ?_ _
          clear hHeld
          have hS9 : Hid (St w _ (cel c1 p (1 : Nat) l2 s2 f2 wait2 t1 :: cel c2 p (1 : Nat) l2 s2 f2 wait2 t1 :: inl (.slice (some ⟨g, off, none⟩) m2 jc) js :: rwl (.slice fa mm fc) RF :: rwl (.slice xa NA xc) RA :: [])) := (hS3.out.rm 2).re [1, 0] 2
          clear hS3
          go_wp2_with fail
          go_roundw
          case rel => exact ⟨j + 1, l2, s2, f2, wait2, by omega, by go_num, hW', hS9⟩
          case measure => simp [intOf]; omega
        · have hwl : wt.length ≤ 50 := by have := hW.out.2.2.2.2.2.2; omega
          have hS13 : Hid (St w wr (cel c1 p (1 : Nat) l s f wt t1 :: cel c2 p (1 : Nat) l s f wt t1 :: rwl (.slice fa mm fc) RF :: rwl (.slice xa NA xc) RA :: [])) := hS12.out.rm 2
          obtain ⟨k2, hk2⟩ := fst_ex 99 wt.length
          have hk2' : Hid (Fst 99 wt.length k2) := hk2
          clear hk2 hW hS12
          go_wp2_with fail
          refine (serve_is 99 _ hS13.out k2 hk2'.out (by omega)).mono ?_
          rintro e V2 ⟨u4, rfl, hN⟩
          have hS14 : Hid (St w V2 (cel c2 p (1 : Nat) l s f wt t1 :: rwl u4 (rowsR p (stR p r0 t1) (wt.take k2)) :: cel c1 p (1 : Nat) l s f (wt.drop k2) (t1 ++ wt.take k2) :: rwl (.slice fa mm fc) RF :: rwl (.slice xa NA xc) RA :: [])) := hN.re [2, 0, 1] 3
          clear hN hS13
          go_wp2_with fail
          refine (serve_is 99 _ hS14.out k2 hk2'.out (by omega)).mono ?_
          rintro e V3 ⟨u5, rfl, hN⟩
          obtain ⟨t2, ht2⟩ : ∃ x, Hid (t1 ++ wt.take k2 = x) := ⟨_, rfl⟩
          obtain ⟨w2, hw2⟩ : ∃ x, Hid (wt.drop k2 = x) := ⟨_, rfl⟩
          obtain ⟨RU, hRU⟩ : ∃ x, Hid (rowsR p (stR p r0 t1) (wt.take k2) = x) := ⟨_, rfl⟩
          rw [hRU.out, ht2.out, hw2.out] at hN
          have htl2 : t2.length ≤ 75 := by rw [← ht2.out, List.length_append, List.length_take]; omega
          have hall : Hid (rowsR p r0 t2 = RA ++ RU) := by
            have h : rowsR p r0 t2 = RA ++ RU := by rw [← ht2.out, rowsR_append, hRA.out, hRU.out]
            exact h
          obtain ⟨NU, hNU⟩ : ∃ x, Hid (RU.length = x) := ⟨_, rfl⟩
          have hNU600 : NU ≤ 600 := by have h := (rows_len p t2).1; rw [hall.out, List.length_append, hNA.out, hNU.out] at h; omega
          have hlen : Hid ((rowsR p r0 t2).length = NA + NU) := by
            have h : (rowsR p r0 t2).length = NA + NU := by rw [hall.out, List.length_append, hNA.out, hNU.out]
            exact h
          have hS15 : Hid (St w V3 (cel c1 p (1 : Nat) l s f w2 t2 :: cel c2 p (1 : Nat) l s f w2 t2 :: rwl u4 RU :: rwl u5 RU :: rwl (.slice fa mm fc) RF :: rwl (.slice xa NA xc) RA :: [])) := hN.re [3, 1, 2, 0] 4
          clear hN hS14 hk2' ht2 hw2
          go_wp2_with fail
          refine (crows_is (mm : Nat) 0 _ hS15.out (by omega) (NA + NU) mm (by rw [hlen.out]; omega) (.inr (.inl ⟨by omega, by omega, by omega, rfl⟩))).mono ?_
          rintro e V5 ⟨u6, rfl, hN⟩
          have htake : ((rowsR p r0 t2).drop 0).take mm = RF := by
            rw [List.drop_zero, hall.out, List.take_append_of_le_length (by rw [hNA.out]; omega)]
            exact hRF.out
          rw [htake] at hN
          obtain ⟨ya, yc, rfl⟩ := own_len' (hN.rwAt (v := u4) (R := RU) (by simp))
          rw [hNU.out] at hN
          have hS16 : Hid (St w V5 (cel c1 p (1 : Nat) l s f w2 t2 :: cel c2 p (1 : Nat) l s f w2 t2 :: rwl (.slice ya NU yc) RU :: rwl u5 RU :: rwl u6 RF :: rwl (.slice fa mm fc) RF :: rwl (.slice xa NA xc) RA :: [])) := hN.re [1, 2, 3, 4, 0] 5
          rw [hNU.out]
          clear hN hS15 htake
          obtain ⟨NT, hNT⟩ : ∃ x, Hid (NA + NU = x) := ⟨_, rfl⟩
          rw [hNT.out] at hlen
          have hsum : (NA : Int) + (NU : Int) = (NT : Int) := by have := hNT.out; omega
          have hNT800 : NT ≤ 800 := by have := hNT.out; omega
          have h4 : Hid (RdR V5 (.slice ya NU yc) RU) := by have h := rdr_own (hS16.out.rwAt (v := .slice ya NU yc) (R := RU) (by simp)); exact h
          have h5 : Hid (RdR V5 u5 RU) := by have h := rdr_own (hS16.out.rwAt (v := u5) (R := RU) (by simp)); exact h
          have h6 : Hid (RdR V5 u6 RF) := by have h := rdr_own (hS16.out.rwAt (v := u6) (R := RF) (by simp)); exact h
          have h7 : Hid (RdR V5 (.slice fa mm fc) RF) := by have h := rdr_own (hS16.out.rwAt (v := .slice fa mm fc) (R := RF) (by simp)); exact h
          obtain ⟨v1, b1, vr1, vt1, hO1⟩ := hS16.out.opn
          have hk1 : Hid (Ckb V5 c1 l s f v1 b1 (1 : Nat) vr1 vt1) := hO1.ck
          obtain ⟨v2, b2, vr2, vt2, hO2⟩ := (hS16.out.re [1, 0] 2).opn
          have hk2 : Hid (Ckb V5 c2 l s f v2 b2 (1 : Nat) vr2 vt2) := hO2.ck
          have hB5 : Hid (Below w.heap.size w V5) := hS16.out.b
          clear hO1 hO2
          go_upto_region 25 with fail
          refine wp_region_held_drew (S := fun X => Below V5.heap.size V5 X) (by kernel_rfl) (Below.refl _ _).drew (fun hHeld => ?_)
          generalize V5.drew = V at hHeld ⊢
          refine take_at (i := 0) (v := .slice ya NU yc) rfl rfl (by kernel_rfl) (by kernel_rfl) (by kernel_rfl) (fun _ _ _ h => h) (Or.inl ⟨by rfl, fun X _ => by go_simp⟩) hHeld ?_
          try simp only [Act.put, List.setIfInBounds_toArray, List.set_cons_zero, List.set_cons_succ]
          refine take_at (i := 1) (v := u5) rfl rfl (by kernel_rfl) (by kernel_rfl) (by kernel_rfl) (fun _ _ _ h => h) (Or.inl ⟨by rfl, fun X _ => by go_simp⟩) hHeld ?_
          try simp only [Act.put, List.setIfInBounds_toArray, List.set_cons_zero, List.set_cons_succ]
          refine wpAnyH_ready (rs := [2]) (by kernel_rfl) (by simp) ?_
          refine AllReadyH.cons rfl (fun K hK => ?_) AllReadyH.nil
          rw [if_pos (by rfl)]
          go_wp2_with fail
          refine (same_r (.slice ya NU yc) u5 RU _ (h4.out.below hHeld) (h5.out.below hHeld)).mono ?_
          rintro e X1 ⟨rfl, hb⟩
          have hHb := below_call hHeld hb
          clear hHeld hb
          go_wp2_with fail
          refine hK.out _ _ (hHb) (fun hHeld => ?_)
          clear hK K hHb
          try simp only [Act.put, List.setIfInBounds_toArray, List.set_cons_zero, List.set_cons_succ]
          refine take_at (i := 3) (v := .bool true) rfl rfl (by kernel_rfl) (by kernel_rfl) (by kernel_rfl) (fun _ _ _ h => h) (Or.inl ⟨by rfl, fun X _ => by go_simp⟩) hHeld ?_
          try simp only [Act.put, List.setIfInBounds_toArray, List.set_cons_zero, List.set_cons_succ]
          refine take_at (i := 4) (v := .int .i64 0) rfl rfl (by kernel_rfl) (by kernel_rfl) (by kernel_rfl) (fun _ _ _ h => h) (Or.inl ⟨by rfl, fun X _ => by go_simp⟩) hHeld ?_
          try simp only [Act.put, List.setIfInBounds_toArray, List.set_cons_zero, List.set_cons_succ]
          refine take_at (i := 5) (v := .bool true) rfl rfl (by kernel_rfl) (by kernel_rfl) (by kernel_rfl) (fun _ _ _ h => h) (Or.inl ⟨by rfl, fun X _ => by go_simp⟩) hHeld ?_
          try simp only [Act.put, List.setIfInBounds_toArray, List.set_cons_zero, List.set_cons_succ]
          refine take_at (i := 6) (v := .bool true) rfl rfl (by kernel_rfl) (by kernel_rfl) (by kernel_rfl) (fun _ _ _ h => h) (Or.inl ⟨by rfl, fun X _ => by go_simp⟩) hHeld ?_
          try simp only [Act.put, List.setIfInBounds_toArray, List.set_cons_zero, List.set_cons_succ]
          refine take_at (i := 7) (v := .bool true) rfl rfl (by kernel_rfl) (by kernel_rfl) (by kernel_rfl) (fun _ _ _ h => h) (Or.inl ⟨by rfl, fun X _ => by go_simp⟩) hHeld ?_
          try simp only [Act.put, List.setIfInBounds_toArray, List.set_cons_zero, List.set_cons_succ]
          refine take_at (i := 8) (v := .int .i64 0) rfl rfl (by kernel_rfl) (by kernel_rfl) (by kernel_rfl) (fun _ _ _ h => h) (Or.inl ⟨by rfl, fun X _ => by go_simp⟩) hHeld ?_
          try simp only [Act.put, List.setIfInBounds_toArray, List.set_cons_zero, List.set_cons_succ]
          refine take_at (i := 9) (v := .bool true) rfl rfl (by kernel_rfl) (by kernel_rfl) (by kernel_rfl) (fun _ _ _ h => h) (Or.inl ⟨by rfl, fun X _ => by go_simp⟩) hHeld ?_
          try simp only [Act.put, List.setIfInBounds_toArray, List.set_cons_zero, List.set_cons_succ]
          refine take_at (i := 10) (v := .bool true) rfl rfl (by kernel_rfl) (by kernel_rfl) (by kernel_rfl) (fun _ _ _ h => h) (Or.inl ⟨by rfl, fun X _ => by go_simp⟩) hHeld ?_
          try simp only [Act.put, List.setIfInBounds_toArray, List.set_cons_zero, List.set_cons_succ]
          refine take_at (i := 11) (v := .bool true) rfl rfl (by kernel_rfl) (by kernel_rfl) (by kernel_rfl) (fun _ _ _ h => h) (Or.inl ⟨by rfl, fun X _ => by go_simp⟩) hHeld ?_
          try simp only [Act.put, List.setIfInBounds_toArray, List.set_cons_zero, List.set_cons_succ]
          refine take_at (i := 12) (v := u6) rfl rfl (by kernel_rfl) (by kernel_rfl) (by kernel_rfl) (fun _ _ _ h => h) (Or.inl ⟨by rfl, fun X _ => by go_simp⟩) hHeld ?_
          try simp only [Act.put, List.setIfInBounds_toArray, List.set_cons_zero, List.set_cons_succ]
          refine take_at (i := 13) (v := .slice fa mm fc) rfl rfl (by kernel_rfl) (by kernel_rfl) (by kernel_rfl) (fun _ _ _ h => h) (Or.inl ⟨by rfl, fun X _ => by go_simp⟩) hHeld ?_
          try simp only [Act.put, List.setIfInBounds_toArray, List.set_cons_zero, List.set_cons_succ]
          refine wpAnyH_ready (rs := [14]) (by kernel_rfl) (by simp) ?_
          refine AllReadyH.cons rfl (fun K hK => ?_) AllReadyH.nil
          rw [if_pos (by rfl)]
          go_wp2_with fail
          refine (same_r u6 (.slice fa mm fc) RF _ (h6.out.below hHeld) (h7.out.below hHeld)).mono ?_
          rintro e X2 ⟨rfl, hb⟩
          have hHb := below_call hHeld hb
          clear hHeld hb
          go_wp2_with fail
          refine hK.out _ _ (hHb) (fun hHeld => ?_)
          clear hK K hHb
          try simp only [Act.put, List.setIfInBounds_toArray, List.set_cons_zero, List.set_cons_succ]
          refine take_at (i := 15) (v := .bool true) rfl rfl (by kernel_rfl) (by kernel_rfl) (by kernel_rfl) (fun _ _ _ h => h) (Or.inl ⟨by rfl, fun X _ => by go_simp⟩) hHeld ?_
          try simp only [Act.put, List.setIfInBounds_toArray, List.set_cons_zero, List.set_cons_succ]
          refine take_at (i := 16) (v := .bool true) rfl rfl (by kernel_rfl) (by kernel_rfl) (by kernel_rfl) (fun _ _ _ h => h) (Or.inl ⟨by rfl, fun X _ => by go_simp⟩) hHeld ?_
          try simp only [Act.put, List.setIfInBounds_toArray, List.set_cons_zero, List.set_cons_succ]
          refine take_at (i := 17) (v := .pointer (some ⟨c1, 0, none⟩)) rfl rfl (by kernel_rfl) (by kernel_rfl) (by kernel_rfl) (fun _ _ _ h => h) (Or.inl ⟨by rfl, fun X _ => by go_simp⟩) hHeld ?_
          try simp only [Act.put, List.setIfInBounds_toArray, List.set_cons_zero, List.set_cons_succ]
          refine take_at (i := 19) (v := .slice xa NA xc) rfl rfl (by kernel_rfl) (by kernel_rfl) (by kernel_rfl) (fun _ _ _ h => h) (Or.inl ⟨by rfl, fun X _ => by go_simp⟩) hHeld ?_
          try simp only [Act.put, List.setIfInBounds_toArray, List.set_cons_zero, List.set_cons_succ]
          refine take_at (i := 20) (v := .int .i64 ((NA : Nat) : Int)) rfl rfl (by kernel_rfl) (by kernel_rfl) (by kernel_rfl) (fun _ _ _ h => h) (Or.inl ⟨by rfl, fun X _ => len_op34 _ _ _ _ rfl rfl⟩) hHeld ?_
          try simp only [Act.put, List.setIfInBounds_toArray, List.set_cons_zero, List.set_cons_succ]
          refine take_at (i := 21) (v := .slice ya NU yc) rfl rfl (by kernel_rfl) (by kernel_rfl) (by kernel_rfl) (fun _ _ _ h => h) (Or.inl ⟨by rfl, fun X _ => by go_simp⟩) hHeld ?_
          try simp only [Act.put, List.setIfInBounds_toArray, List.set_cons_zero, List.set_cons_succ]
          refine take_at (i := 22) (v := .int .i64 ((NU : Nat) : Int)) rfl rfl (by kernel_rfl) (by kernel_rfl) (by kernel_rfl) (fun _ _ _ h => h) (Or.inl ⟨by rfl, fun X _ => len_op34 _ _ _ _ rfl rfl⟩) hHeld ?_
          try simp only [Act.put, List.setIfInBounds_toArray, List.set_cons_zero, List.set_cons_succ]
          refine take_at (i := 23) (v := .int .i64 ((NT : Nat) : Int)) rfl rfl (by kernel_rfl) (by kernel_rfl) (by kernel_rfl) (fun _ _ _ h => h) (Or.inl ⟨by rfl, fun X _ => by go_simp; exact IntWalk.i64_in _ ⟨by omega, by omega⟩⟩) hHeld ?_
          try simp only [Act.put, List.setIfInBounds_toArray, List.set_cons_zero, List.set_cons_succ]
          refine wpAnyH_ready (rs := [18]) (by kernel_rfl) (by simp) ?_
          refine AllReadyH.cons rfl (fun K hK => ?_) AllReadyH.nil
          rw [if_pos (by rfl)]
          go_wp2_with fail
          refine (count_b NT _ (hS16.out.below hHeld) hlen.out).mono ?_
          rintro e X3 ⟨rfl, hb⟩
          have hHb := below_call hHeld hb
          clear hHeld hb
          go_wp2_with fail
          refine hK.out _ _ (hHb) (fun hHeld => ?_)
          clear hK K hHb
          try simp only [Act.put, List.setIfInBounds_toArray, List.set_cons_zero, List.set_cons_succ]
          refine take_at (i := 24) (v := .bool true) rfl rfl (by kernel_rfl) (by kernel_rfl) (by kernel_rfl) (fun _ _ _ h => h) (Or.inl ⟨by rfl, fun X _ => by go_simp⟩) hHeld ?_
          try simp only [Act.put, List.setIfInBounds_toArray, List.set_cons_zero, List.set_cons_succ]
          refine take_at (i := 25) (v := .bool true) rfl rfl (by kernel_rfl) (by kernel_rfl) (by kernel_rfl) (fun _ _ _ h => h) (Or.inl ⟨by rfl, fun X _ => by go_simp⟩) hHeld ?_
          try simp only [Act.put, List.setIfInBounds_toArray, List.set_cons_zero, List.set_cons_succ]
          refine take_at (i := 26) (v := .bool true) rfl rfl (by kernel_rfl) (by kernel_rfl) (by kernel_rfl) (fun _ _ _ h => h) (Or.inl ⟨by rfl, fun X _ => by go_simp⟩) hHeld ?_
          try simp only [Act.put, List.setIfInBounds_toArray, List.set_cons_zero, List.set_cons_succ]
          refine take_at (i := 27) (v := .pointer (some ⟨c1, 0, none⟩)) rfl rfl (by kernel_rfl) (by kernel_rfl) (by kernel_rfl) (fun _ _ _ h => h) (Or.inl ⟨by rfl, fun X _ => by go_simp⟩) hHeld ?_
          try simp only [Act.put, List.setIfInBounds_toArray, List.set_cons_zero, List.set_cons_succ]
          refine take_at (i := 28) (v := .pointer (some ⟨c1, 0, none⟩)) rfl rfl (by kernel_rfl) (by kernel_rfl) (by kernel_rfl) (fun _ _ _ h => h) (Or.inl ⟨by rfl, fun X _ => by go_simp⟩) hHeld ?_
          try simp only [Act.put, List.setIfInBounds_toArray, List.set_cons_zero, List.set_cons_succ]
          refine take_at (i := 29) (v := .pointer (some ⟨c1, 0, none⟩)) rfl rfl (by kernel_rfl) (by kernel_rfl) (by kernel_rfl) (fun _ _ _ h => h) (Or.inl ⟨by rfl, fun X _ => by go_simp⟩) hHeld ?_
          try simp only [Act.put, List.setIfInBounds_toArray, List.set_cons_zero, List.set_cons_succ]
          refine take_at (i := 30) (v := .agg #[.int .i64 l, .int .i64 s, .int .i64 f]) rfl rfl (by kernel_rfl) (by kernel_rfl) (by kernel_rfl) (fun _ _ _ h => h) (Or.inl ⟨by rfl, fun X hX => by have h := hk1.out.call hX; have k0 := h.c0; have k1 := h.c1; have k2 := h.c2; go_simp⟩) hHeld ?_
          try simp only [Act.put, List.setIfInBounds_toArray, List.set_cons_zero, List.set_cons_succ]
          refine take_at (i := 32) (v := .pointer (some ⟨c2, 0, none⟩)) rfl rfl (by kernel_rfl) (by kernel_rfl) (by kernel_rfl) (fun _ _ _ h => h) (Or.inl ⟨by rfl, fun X _ => by go_simp⟩) hHeld ?_
          try simp only [Act.put, List.setIfInBounds_toArray, List.set_cons_zero, List.set_cons_succ]
          refine take_at (i := 33) (v := .pointer (some ⟨c2, 0, none⟩)) rfl rfl (by kernel_rfl) (by kernel_rfl) (by kernel_rfl) (fun _ _ _ h => h) (Or.inl ⟨by rfl, fun X _ => by go_simp⟩) hHeld ?_
          try simp only [Act.put, List.setIfInBounds_toArray, List.set_cons_zero, List.set_cons_succ]
          refine take_at (i := 34) (v := .pointer (some ⟨c2, 0, none⟩)) rfl rfl (by kernel_rfl) (by kernel_rfl) (by kernel_rfl) (fun _ _ _ h => h) (Or.inl ⟨by rfl, fun X _ => by go_simp⟩) hHeld ?_
          try simp only [Act.put, List.setIfInBounds_toArray, List.set_cons_zero, List.set_cons_succ]
          refine take_at (i := 35) (v := .agg #[.int .i64 l, .int .i64 s, .int .i64 f]) rfl rfl (by kernel_rfl) (by kernel_rfl) (by kernel_rfl) (fun _ _ _ h => h) (Or.inl ⟨by rfl, fun X hX => by have h := hk2.out.call hX; have k0 := h.c0; have k1 := h.c1; have k2 := h.c2; go_simp⟩) hHeld ?_
          try simp only [Act.put, List.setIfInBounds_toArray, List.set_cons_zero, List.set_cons_succ]
          refine wpAnyH_ready (rs := [31]) (by kernel_rfl) (by simp) ?_
          refine AllReadyH.cons rfl (fun K hK => ?_) AllReadyH.nil
          rw [if_pos (by rfl)]
          go_wp2_with fail
          refine (qleft_is l s f _).mono ?_
          rintro e X4 ⟨rfl, hb⟩
          have hHb := below_call hHeld hb
          clear hHeld hb
          go_wp2_with fail
          refine hK.out _ _ (hHb) (fun hHeld => ?_)
          clear hK K hHb
          try simp only [Act.put, List.setIfInBounds_toArray, List.set_cons_zero, List.set_cons_succ]
          refine wpAnyH_ready (rs := [36]) (by kernel_rfl) (by simp) ?_
          refine AllReadyH.cons rfl (fun K hK => ?_) AllReadyH.nil
          rw [if_pos (by rfl)]
          go_wp2_with fail
          refine (qleft_is l s f _).mono ?_
          rintro e X5 ⟨rfl, hb⟩
          have hHb := below_call hHeld hb
          clear hHeld hb
          go_wp2_with fail
          refine hK.out _ _ (hHb) (fun hHeld => ?_)
          clear hK K hHb
          try simp only [Act.put, List.setIfInBounds_toArray, List.set_cons_zero, List.set_cons_succ]
          refine take_at (i := 37) (v := .bool true) rfl rfl (by kernel_rfl) (by kernel_rfl) (by kernel_rfl) (fun _ _ _ h => h) (Or.inl ⟨by rfl, fun X _ => by go_simp⟩) hHeld ?_
          try simp only [Act.put, List.setIfInBounds_toArray, List.set_cons_zero, List.set_cons_succ]
          refine take_at (i := 38) (v := .bool true) rfl rfl (by kernel_rfl) (by kernel_rfl) (by kernel_rfl) (fun _ _ _ h => h) (Or.inl ⟨by rfl, fun X _ => by go_simp⟩) hHeld ?_
          try simp only [Act.put, List.setIfInBounds_toArray, List.set_cons_zero, List.set_cons_succ]
          refine take_at (i := 39) (v := .bool true) rfl rfl (by kernel_rfl) (by kernel_rfl) (by kernel_rfl) (fun _ _ _ h => h) (Or.inl ⟨by rfl, fun X _ => by go_simp⟩) hHeld ?_
          try simp only [Act.put, List.setIfInBounds_toArray, List.set_cons_zero, List.set_cons_succ]
          refine take_at (i := 40) (v := .pointer (some ⟨c1, 0, none⟩)) rfl rfl (by kernel_rfl) (by kernel_rfl) (by kernel_rfl) (fun _ _ _ h => h) (Or.inl ⟨by rfl, fun X _ => by go_simp⟩) hHeld ?_
          try simp only [Act.put, List.setIfInBounds_toArray, List.set_cons_zero, List.set_cons_succ]
          refine take_at (i := 41) (v := .pointer (some ⟨c1, 0, none⟩)) rfl rfl (by kernel_rfl) (by kernel_rfl) (by kernel_rfl) (fun _ _ _ h => h) (Or.inl ⟨by rfl, fun X _ => by go_simp⟩) hHeld ?_
          try simp only [Act.put, List.setIfInBounds_toArray, List.set_cons_zero, List.set_cons_succ]
          refine take_at (i := 42) (v := .pointer (some ⟨c1, 0, none⟩)) rfl rfl (by kernel_rfl) (by kernel_rfl) (by kernel_rfl) (fun _ _ _ h => h) (Or.inl ⟨by rfl, fun X _ => by go_simp⟩) hHeld ?_
          try simp only [Act.put, List.setIfInBounds_toArray, List.set_cons_zero, List.set_cons_succ]
          refine take_at (i := 43) (v := .agg #[.int .i64 l, .int .i64 s, .int .i64 f]) rfl rfl (by kernel_rfl) (by kernel_rfl) (by kernel_rfl) (fun _ _ _ h => h) (Or.inl ⟨by rfl, fun X hX => by have h := hk1.out.call hX; have k0 := h.c0; have k1 := h.c1; have k2 := h.c2; go_simp⟩) hHeld ?_
          try simp only [Act.put, List.setIfInBounds_toArray, List.set_cons_zero, List.set_cons_succ]
          refine take_at (i := 45) (v := .pointer (some ⟨c2, 0, none⟩)) rfl rfl (by kernel_rfl) (by kernel_rfl) (by kernel_rfl) (fun _ _ _ h => h) (Or.inl ⟨by rfl, fun X _ => by go_simp⟩) hHeld ?_
          try simp only [Act.put, List.setIfInBounds_toArray, List.set_cons_zero, List.set_cons_succ]
          refine take_at (i := 46) (v := .pointer (some ⟨c2, 0, none⟩)) rfl rfl (by kernel_rfl) (by kernel_rfl) (by kernel_rfl) (fun _ _ _ h => h) (Or.inl ⟨by rfl, fun X _ => by go_simp⟩) hHeld ?_
          try simp only [Act.put, List.setIfInBounds_toArray, List.set_cons_zero, List.set_cons_succ]
          refine take_at (i := 47) (v := .pointer (some ⟨c2, 0, none⟩)) rfl rfl (by kernel_rfl) (by kernel_rfl) (by kernel_rfl) (fun _ _ _ h => h) (Or.inl ⟨by rfl, fun X _ => by go_simp⟩) hHeld ?_
          try simp only [Act.put, List.setIfInBounds_toArray, List.set_cons_zero, List.set_cons_succ]
          refine take_at (i := 48) (v := .agg #[.int .i64 l, .int .i64 s, .int .i64 f]) rfl rfl (by kernel_rfl) (by kernel_rfl) (by kernel_rfl) (fun _ _ _ h => h) (Or.inl ⟨by rfl, fun X hX => by have h := hk2.out.call hX; have k0 := h.c0; have k1 := h.c1; have k2 := h.c2; go_simp⟩) hHeld ?_
          try simp only [Act.put, List.setIfInBounds_toArray, List.set_cons_zero, List.set_cons_succ]
          refine wpAnyH_ready (rs := [44]) (by kernel_rfl) (by simp) ?_
          refine AllReadyH.cons rfl (fun K hK => ?_) AllReadyH.nil
          rw [if_pos (by rfl)]
          go_wp2_with fail
          refine (qrefused_is l s f _).mono ?_
          rintro e X6 ⟨rfl, hb⟩
          have hHb := below_call hHeld hb
          clear hHeld hb
          go_wp2_with fail
          refine hK.out _ _ (hHb) (fun hHeld => ?_)
          clear hK K hHb
          try simp only [Act.put, List.setIfInBounds_toArray, List.set_cons_zero, List.set_cons_succ]
          refine wpAnyH_ready (rs := [49]) (by kernel_rfl) (by simp) ?_
          refine AllReadyH.cons rfl (fun K hK => ?_) AllReadyH.nil
          rw [if_pos (by rfl)]
          go_wp2_with fail
          refine (qrefused_is l s f _).mono ?_
          rintro e X7 ⟨rfl, hb⟩
          have hHb := below_call hHeld hb
          clear hHeld hb
          go_wp2_with fail
          refine hK.out _ _ (hHb) (fun hHeld => ?_)
          clear hK K hHb
          try simp only [Act.put, List.setIfInBounds_toArray, List.set_cons_zero, List.set_cons_succ]
          refine take_at (i := 50) (v := .bool true) rfl rfl (by kernel_rfl) (by kernel_rfl) (by kernel_rfl) (fun _ _ _ h => h) (Or.inl ⟨by rfl, fun X _ => by go_simp⟩) hHeld ?_
          try simp only [Act.put, List.setIfInBounds_toArray, List.set_cons_zero, List.set_cons_succ]
          refine take_at (i := 51) (v := .bool true) rfl rfl (by kernel_rfl) (by kernel_rfl) (by kernel_rfl) (fun _ _ _ h => h) (Or.inl ⟨by rfl, fun X _ => by go_simp⟩) hHeld ?_
          try simp only [Act.put, List.setIfInBounds_toArray, List.set_cons_zero, List.set_cons_succ]
          refine take_at (i := 52) (v := .bool true) rfl rfl (by kernel_rfl) (by kernel_rfl) (by kernel_rfl) (fun _ _ _ h => h) (Or.inl ⟨by rfl, fun X _ => by go_simp⟩) hHeld ?_
          try simp only [Act.put, List.setIfInBounds_toArray, List.set_cons_zero, List.set_cons_succ]
          refine wpAnyH_ready (rs := [53]) (by kernel_rfl) (by simp) ?_
          refine AllReadyH.cons rfl (fun K hK => ?_) AllReadyH.nil
          rw [if_pos (by rfl)]
          go_wp2_with fail
          refine (runs_is _).mono ?_
          rintro e X8 ⟨rfl, hb⟩
          have hHb := below_call hHeld hb
          clear hHeld hb
          go_wp2_with fail
          refine hK.out _ _ (hHb) (fun hHeld => ?_)
          clear hK K hHb
          try simp only [Act.put, List.setIfInBounds_toArray, List.set_cons_zero, List.set_cons_succ]
          refine take_at (i := 54) (v := .bool true) rfl rfl (by kernel_rfl) (by kernel_rfl) (by kernel_rfl) (fun _ _ _ h => h) (Or.inl ⟨by rfl, fun X _ => by go_simp⟩) hHeld ?_
          try simp only [Act.put, List.setIfInBounds_toArray, List.set_cons_zero, List.set_cons_succ]
          refine take_at (i := 55) (v := .bool true) rfl rfl (by kernel_rfl) (by kernel_rfl) (by kernel_rfl) (fun _ _ _ h => h) (Or.inl ⟨by rfl, fun X _ => by go_simp⟩) hHeld ?_
          try simp only [Act.put, List.setIfInBounds_toArray, List.set_cons_zero, List.set_cons_succ]
          refine wpAnyH_done (by kernel_rfl) ?_ _
          have hB6 : Hid (Below w.heap.size w _) := below_call hB5.out hHeld
          clear hHeld hB5
          go_wp2_with fail
          go_ret
          exact ⟨rfl, hB6.out⟩
end Go.Proofs.Ytnamjnopicghhaa
