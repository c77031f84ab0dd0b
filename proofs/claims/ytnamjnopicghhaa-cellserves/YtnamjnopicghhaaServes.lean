/- CellServes: served in whatever parts all rows come to the same; told in whatever parts they are the same, without gaps. -/
import Derived.Test.YtnamjnopicghhaaRowsApp
import Derived.Deep.QuietTactic
import Derived.BigQuiet
namespace Go.Proofs.Ytnamjnopicghhaa
open Go.RowKit M
open O (Small Ints kv Kpk Pik)
open O.MO (Oq Pq rightP)
set_option linter.unusedVariables false
set_option linter.unusedSimpArgs false
attribute [local go_sem ↓] Go.wp_at_zero Go.wp_at_succ

/-- What stands in the round. -/
def Ws (j : Nat) (l s f : Int) (wait : List Inp) : Prop := 0 ≤ l ∧ l ≤ 99 ∧ 0 ≤ s ∧ s ≤ j ∧ 0 ≤ f ∧ f ≤ j ∧ wait.length ≤ j
theorem ws_off {n j : Nat} {room l s f l' s' f' E : Int} {wait wait' : List Inp} {x : Inp} (h : Ws j l s f wait) (hE : Off n room x l s f wait E l' s' f' wait') : Ws (j + 1) l' s' f' wait' := by
  obtain ⟨h1, h2, h3, h4, h5, h6, h7⟩ := h
  unfold Ws
  rcases hE with ⟨_, _, rfl, rfl, rfl, rfl⟩ | ⟨_, _, _, rfl, rfl, rfl, rfl⟩ | ⟨_, _, _, _, rfl, rfl, rfl, rfl⟩ | ⟨_, _, _, _, rfl, rfl, rfl, rfl⟩
  · exact ⟨by omega, by omega, by omega, by omega, by omega, by omega, by omega⟩
  · exact ⟨by omega, by omega, by omega, by omega, by omega, by omega, by omega⟩
  · exact ⟨by omega, by omega, by omega, by omega, by omega, by omega, by omega⟩
  · exact ⟨by omega, by omega, by omega, by omega, by omega, by omega, by simp; omega⟩
set_option maxHeartbeats 8000000 in
set_option maxRecDepth 100000 in
theorem cellServes_walk (k : KeepIn) (la : Option Addr) (ll lc : Nat) (ba : Option Addr) (bl bc : Nat) (da : Option Addr) (dl dc : Nat) (w : World) (hk : IsKeep w k) (hI : Ins4 w la ll lc) (hpa : Ints w ba bl bc) (hte : Ints w da dl dc) :
    Calls Try.prog 5 #[kin k, .slice la ll lc, .slice ba bl bc, .slice da dl dc] w fun e w' => e = .returned (.bool true) ∧ Below w.heap.size w w' := by
  obtain ⟨ao, lo, co, an, ln, cn, kn, ks, kg, kk, kf⟩ := k
  unfold kin
  obtain ⟨hk1, hk2⟩ := hk
  simp only at hk1 hk2
  have hI' : Hid (Ins4 w la ll lc) := hI
  have hpa' : Hid (Ints w ba bl bc) := hpa
  have hte' : Hid (Ints w da dl dc) := hte
  have hbl := hpa.1
  have hdl := hte.1
  clear hI hpa hte
  go_enter Try.func5, Try.ntmps5
  go_upto_region 1 with fail
  refine world_gen (fun W => Hid (Kpk W w.heap.size (.slice ao lo co) (.slice an ln cn) kn ks kg kk kf) ∧ Hid (Ints W ao lo co) ∧ Hid (Ints W an ln cn) ∧ Hid (St w W [])) ⟨O.kpk_new _ _ _ _ _ _ _ _, hk1.call (below_alloc _ _), hk2.call (below_alloc _ _), (st_start w).below (below_alloc _ _)⟩ ?_
  clear hk1 hk2
  rintro W ⟨hK, hk1, hk2, hB⟩
  generalize w.heap.size = g0 at hK ⊢
  have c0 := hK.out.c0
  have c1 := hK.out.c1
  have c2 := hK.out.c2
  have c3 := hK.out.c3
  have c4 := hK.out.c4
  have c5 := hK.out.c5
  have c6 := hK.out.c6
  go_wp2_with fail
  refine (kpipe_st ao lo co an ln cn kn ks kg kk kf _ hB.out hk1.out hk2.out).mono ?_
  rintro e W1 ⟨p, ua, uc, hSm, rfl, hS1, _⟩
  have hS' : Hid (Small p) := hSm
  have hS : Hid (St w W1 (opT (.slice ua p.os.length uc) p.os :: [])) := hS1
  clear hK hk1 hk2 c0 c1 c2 c3 c4 c5 c6 hB hS1 hSm
  go_upto_region 2 with fail
  refine world_gen (fun X => Hid (St w X (pkT W1.heap.size (.slice ua p.os.length uc) p :: opT (.slice ua p.os.length uc) p.os :: []))) (hS.out.newBlk _ _ rfl) ?_
  clear hS
  generalize W1.heap.size = gp
  rintro W hS
  have hPk : O.Pik W gp (.slice ua p.os.length uc) p.n p.s p.a p.k p.f := hS.out.blk
  refine wp_region_held_drew (S := fun X => O.Pik X gp (.slice ua p.os.length uc) p.n p.s p.a p.k p.f) (by kernel_rfl) hPk (fun hHeld => ?_)
  have hT : Hid (St w W.drew (pkT gp (.slice ua p.os.length uc) p :: opT (.slice ua p.os.length uc) p.os :: [])) := hS.out.below (Below.refl _ _).drew
  clear hS
  clear hPk
  generalize W.drew = V at hHeld hT ⊢
  have hS := hT
  clear hT
  refine take_at (i := 0) (v := O.pv (.slice ua p.os.length uc) p.n p.s p.a p.k p.f) rfl rfl (by kernel_rfl) (by kernel_rfl) (by kernel_rfl) (fun _ _ _ h => h) (Or.inl ⟨by rfl, fun X hX => by have k0 := hX.c0; have k1 := hX.c1; have k2 := hX.c2; have k3 := hX.c3; have k4 := hX.c4; have k5 := hX.c5; go_simp⟩) hHeld ?_
  try simp only [Act.put, List.setIfInBounds_toArray, List.set_cons_zero, List.set_cons_succ]
  refine take_at (i := 2) (v := O.pv (.slice ua p.os.length uc) p.n p.s p.a p.k p.f) rfl rfl (by kernel_rfl) (by kernel_rfl) (by kernel_rfl) (fun _ _ _ h => h) (Or.inl ⟨by rfl, fun X hX => by have k0 := hX.c0; have k1 := hX.c1; have k2 := hX.c2; have k3 := hX.c3; have k4 := hX.c4; have k5 := hX.c5; go_simp⟩) hHeld ?_
  try simp only [Act.put, List.setIfInBounds_toArray, List.set_cons_zero, List.set_cons_succ]
  refine wpAnyH_ready (rs := [1]) (by kernel_rfl) (by simp) ?_
  refine AllReadyH.cons rfl (fun K hK => ?_) AllReadyH.nil
  rw [if_pos (by rfl)]
  go_wp2_with fail
  refine (cnew_is (p := p) (.slice ua p.os.length uc) (0 : Nat) 99 99 _ hS.out (hS.out.opAt (by simp)) (small_new hS'.out).1 (small_new hS'.out).2.1 ⟨by decide, by decide⟩ (.inl ⟨by decide, rfl⟩)).mono ?_
  rintro e V1 ⟨c1, rfl, hN⟩
  have hS1 : Hid (St w V1 (cel c1 p (0 : Nat) 99 0 0 [] [] :: pkT gp (.slice ua p.os.length uc) p :: opT (.slice ua p.os.length uc) p.os :: [])) := hN
  have hh : O.Pik V1 gp (.slice ua p.os.length uc) p.n p.s p.a p.k p.f := hN.blkAt (by simp)
  clear hN hS hHeld
  go_wp2_with fail
  refine hK.out _ _ (hh) (fun hHeld => ?_)
  clear hK K
  try simp only [Act.put, List.setIfInBounds_toArray, List.set_cons_zero, List.set_cons_succ]
  clear hh
  refine wpAnyH_ready (rs := [3]) (by kernel_rfl) (by simp) ?_
  refine AllReadyH.cons rfl (fun K hK => ?_) AllReadyH.nil
  rw [if_pos (by rfl)]
  go_wp2_with fail
  refine (cnew_is (p := p) (.slice ua p.os.length uc) (0 : Nat) 99 99 _ hS1.out (hS1.out.opAt (by simp)) (small_new hS'.out).1 (small_new hS'.out).2.1 ⟨by decide, by decide⟩ (.inl ⟨by decide, rfl⟩)).mono ?_
  rintro e V2 ⟨c2, rfl, hN⟩
  have hS2 : Hid (St w V2 (cel c1 p (0 : Nat) 99 0 0 [] [] :: cel c2 p (0 : Nat) 99 0 0 [] [] :: [])) := ((hN.re [1, 0] 2).rm 3).rm 2
  have hh : O.Pik V2 gp (.slice ua p.os.length uc) p.n p.s p.a p.k p.f := hN.blkAt (by simp)
  clear hN hS1 hHeld
  go_wp2_with fail
  refine hK.out _ _ (hh) (fun hHeld => ?_)
  clear hK K
  try simp only [Act.put, List.setIfInBounds_toArray, List.set_cons_zero, List.set_cons_succ]
  clear hh
  refine take_at (i := 4) (v := .pointer (some ⟨c1, 0, none⟩)) rfl rfl (by kernel_rfl) (by kernel_rfl) (by kernel_rfl) (fun _ _ _ h => h) (Or.inl ⟨by rfl, fun X _ => by go_simp⟩) hHeld ?_
  try simp only [Act.put, List.setIfInBounds_toArray, List.set_cons_zero, List.set_cons_succ]
  refine take_at (i := 5) (v := .pointer (some ⟨c2, 0, none⟩)) rfl rfl (by kernel_rfl) (by kernel_rfl) (by kernel_rfl) (fun _ _ _ h => h) (Or.inl ⟨by rfl, fun X _ => by go_simp⟩) hHeld ?_
  try simp only [Act.put, List.setIfInBounds_toArray, List.set_cons_zero, List.set_cons_succ]
  refine wpAnyH_done (by kernel_rfl) ?_ _
  clear hHeld
  go_wp2_with fail
  refine (inputs_st la ll lc _ hS2.out (hI'.out.below hS2.out.b (Nat.le_refl _) hS2.out.size)).mono ?_
  rintro e W3 ⟨is, ia, ic, rfl, hl25, hG, hN⟩
  have hS : Hid (St w W3 (cel c1 p (0 : Nat) 99 0 0 [] [] :: cel c2 p (0 : Nat) 99 0 0 [] [] :: inl (.slice ia is.length ic) is :: [])) := hN.re [1, 2, 0] 3
  clear hN hS2 hI' hG
  obtain ⟨m, hm⟩ : ∃ m, Hid (is.length = m) := ⟨_, rfl⟩
  rw [hm.out] at hl25 hS ⊢
  go_wp2_with fail
  go_loopw [40] (fun i wr => ∃ (j : Nat) (l s f : Int) (wait : List Inp), j ≤ m ∧ i = .int .i64 j ∧ Hid (Ws j l s f wait) ∧ Hid (St w wr (cel c1 p (0 : Nat) l s f wait [] :: cel c2 p (0 : Nat) l s f wait [] :: inl (.slice ia m ic) is :: []))) (fun i _ => m - (intOf i).toNat)
  case atStart => exact ⟨0, 99, 0, 0, [], Nat.zero_le _, rfl, ⟨by decide, by decide, by decide, by decide, by decide, by decide, by simp⟩, hS⟩
  case round =>
    obtain ⟨j, l, s, f, wait, hj, rfl, hW, hS5⟩ := hrel
    clear hS
    by_cases hlt : j < m
    · obtain ⟨g, off, rfl, hin⟩ := hS5.out.inAt (v := ia) (n := m) (c := ic) (is := is) (by simp) j (by rw [hm.out]; exact hlt)
      obtain ⟨x, hx⟩ : ∃ x, Hid (iAt is j = x) := ⟨_, rfl⟩
      rw [hx.out] at hin
      obtain ⟨d0, d1, d2, d3, d4⟩ := hin
      have hS8 := hS5
      clear hS5
      go_upto_region 8 with fail
      clear d0 d1 d2 d3 d4
      refine world_gen (fun X => Hid (St w X (inkT wr.heap.size x :: cel c1 p (0 : Nat) l s f wait [] :: cel c2 p (0 : Nat) l s f wait [] :: inl (.slice (some ⟨g, off, none⟩) m ic) is :: []))) (hS8.out.newBlk _ _ rfl) ?_
      clear hS8
      generalize wr.heap.size = g1
      rintro wc hS8
      obtain ⟨E, l2, s2, f2, wait2, hE⟩ := off_ex 0 99 x l s f wait
      have hE' : Hid (Off 0 99 x l s f wait E l2 s2 f2 wait2) := hE
      have hW' : Hid (Ws (j + 1) l2 s2 f2 wait2) := ws_off hW.out hE
      clear hE
      have hP1 : Ink wc g1 x := hS8.out.blk
      refine wp_region_held_drew (S := fun X => Ink X g1 x) (by kernel_rfl) hP1 (fun hHeld => ?_)
      have hT : Hid (St w wc.drew (inkT g1 x :: cel c1 p (0 : Nat) l s f wait [] :: cel c2 p (0 : Nat) l s f wait [] :: inl (.slice (some ⟨g, off, none⟩) m ic) is :: [])) := hS8.out.below (Below.refl _ _).drew
      clear hS8
      clear hP1
      generalize wc.drew = V at hHeld hT ⊢
      have hS8 := hT
      clear hT
      refine take_at (i := 0) (v := .pointer (some ⟨c1, 0, none⟩)) rfl rfl (by kernel_rfl) (by kernel_rfl) (by kernel_rfl) (fun _ _ _ h => h) (Or.inl ⟨by rfl, fun X _ => by go_simp⟩) hHeld ?_
      try simp only [Act.put, List.setIfInBounds_toArray, List.set_cons_zero, List.set_cons_succ]
      refine take_at (i := 1) (v := inv x) rfl rfl (by kernel_rfl) (by kernel_rfl) (by kernel_rfl) (fun _ _ _ h => h) (Or.inl ⟨by rfl, fun X hX => by obtain ⟨k0, k1, k2, k3, k4⟩ := hX.c; simp only [Nat.zero_add] at k0 k1 k2 k3 k4; go_simp⟩) hHeld ?_
      try simp only [Act.put, List.setIfInBounds_toArray, List.set_cons_zero, List.set_cons_succ]
      refine take_at (i := 3) (v := .pointer (some ⟨c2, 0, none⟩)) rfl rfl (by kernel_rfl) (by kernel_rfl) (by kernel_rfl) (fun _ _ _ h => h) (Or.inl ⟨by rfl, fun X _ => by go_simp⟩) hHeld ?_
      try simp only [Act.put, List.setIfInBounds_toArray, List.set_cons_zero, List.set_cons_succ]
      refine take_at (i := 4) (v := inv x) rfl rfl (by kernel_rfl) (by kernel_rfl) (by kernel_rfl) (fun _ _ _ h => h) (Or.inl ⟨by rfl, fun X hX => by obtain ⟨k0, k1, k2, k3, k4⟩ := hX.c; simp only [Nat.zero_add] at k0 k1 k2 k3 k4; go_simp⟩) hHeld ?_
      try simp only [Act.put, List.setIfInBounds_toArray, List.set_cons_zero, List.set_cons_succ]
      refine wpAnyH_ready (rs := [2]) (by kernel_rfl) (by simp) ?_
      refine AllReadyH.cons rfl (fun K hK => ?_) AllReadyH.nil
      rw [if_pos (by rfl)]
      go_wp2_with fail
      refine (offer_is 99 x _ (hS8.out.sw) (by decide) ⟨by have := hW.out.1; omega, by have := hW.out.2.1; omega⟩ ⟨hW.out.2.2.1, by have := hW.out.2.2.2.1; omega⟩ ⟨hW.out.2.2.2.2.1, by have := hW.out.2.2.2.2.2.1; omega⟩ (by have := hW.out.2.2.2.2.2.2; omega) E l2 s2 f2 wait2 hE'.out).mono ?_
      rintro e V1 ⟨rfl, hN⟩
      have hS2 : Hid (St w V1 (cel c2 p (0 : Nat) l s f wait [] :: cel c1 p (0 : Nat) l2 s2 f2 wait2 [] :: inkT g1 x :: inl (.slice (some ⟨g, off, none⟩) m ic) is :: [])) := hN.re [2, 0, 1] 3
      have hh : Ink V1 g1 x := hS2.out.blkAt (b := g1) (by simp)
      clear hN hS8 hHeld
      go_wp2_with fail
      refine hK.out _ _ (hh) (fun hHeld => ?_)
      clear hK K
      try simp only [Act.put, List.setIfInBounds_toArray, List.set_cons_zero, List.set_cons_succ]
      clear hh
      refine wpAnyH_ready (rs := [5]) (by kernel_rfl) (by simp) ?_
      refine AllReadyH.cons rfl (fun K hK => ?_) AllReadyH.nil
      rw [if_pos (by rfl)]
      go_wp2_with fail
      refine (offer_is 99 x _ (hS2.out) (by decide) ⟨by have := hW.out.1; omega, by have := hW.out.2.1; omega⟩ ⟨hW.out.2.2.1, by have := hW.out.2.2.2.1; omega⟩ ⟨hW.out.2.2.2.2.1, by have := hW.out.2.2.2.2.2.1; omega⟩ (by have := hW.out.2.2.2.2.2.2; omega) E l2 s2 f2 wait2 hE'.out).mono ?_
      rintro e V2 ⟨rfl, hN⟩
      have hS3 : Hid (St w V2 (cel c2 p (0 : Nat) l2 s2 f2 wait2 [] :: cel c1 p (0 : Nat) l2 s2 f2 wait2 [] :: inkT g1 x :: inl (.slice (some ⟨g, off, none⟩) m ic) is :: [])) := hN
      have hh : Ink V2 g1 x := hS3.out.blkAt (b := g1) (by simp)
      clear hN hS2 hHeld
      go_wp2_with fail
      refine hK.out _ _ (hh) (fun hHeld => ?_)
      clear hK K
      try simp only [Act.put, List.setIfInBounds_toArray, List.set_cons_zero, List.set_cons_succ]
      clear hh
      refine take_at (i := 6) (v := .bool false) rfl rfl (by kernel_rfl) (by kernel_rfl) (by kernel_rfl) (fun _ _ _ h => h) (Or.inl ⟨by rfl, fun X _ => by go_simp⟩) hHeld ?_
      try simp only [Act.put, List.setIfInBounds_toArray, List.set_cons_zero, List.set_cons_succ]
      refine wpAnyH_done (by kernel_rfl) ?_ _
      clear hHeld
      have hS9 : Hid (St w _ (cel c1 p (0 : Nat) l2 s2 f2 wait2 [] :: cel c2 p (0 : Nat) l2 s2 f2 wait2 [] :: inl (.slice (some ⟨g, off, none⟩) m ic) is :: [])) := (hS3.out.rm 2).re [1, 0] 2
      clear hS3
      go_wp2_with fail
      go_roundw
      case rel => exact ⟨j + 1, l2, s2, f2, wait2, by omega, by go_num, hW', hS9⟩
      case measure => simp [intOf]; omega
    · have hwl : wait.length ≤ 25 := by have := hW.out.2.2.2.2.2.2; omega
      clear hW
      go_wp2_with fail
      refine (serve_is 99 _ hS5.out wait.length (.inr (.inr ⟨by omega, rfl⟩)) (by simp; omega)).mono ?_
      rintro e V1 ⟨u1, rfl, hN⟩
      rw [List.nil_append, List.take_of_length_le (Nat.le_refl _), List.drop_of_length_le (Nat.le_refl _)] at hN
      have hst : stR p r0 [] = r0 := rfl
      rw [hst] at hN
      obtain ⟨R, hR⟩ : ∃ R, Hid (rowsR p r0 wait = R) := ⟨_, rfl⟩
      have hR200 : R.length ≤ 200 := by have := (rows_len p wait).1; rw [hR.out] at this; omega
      rw [hR.out] at hN
      obtain ⟨Lw, hLw⟩ : ∃ Lw, Hid (wait.length = Lw) := ⟨_, rfl⟩
      rw [hLw.out] at hwl
      have hS6 : Hid (St w V1 (cel c2 p (0 : Nat) l s f wait [] :: rwl (.slice none 0 0) (rowsR p r0 (wait.take 0)) :: cel c1 p (0 : Nat) l s f [] wait :: rwl u1 R :: [])) := by
        have h : St w V1 (cel c2 p (0 : Nat) l s f wait [] :: rwl (.slice none 0 0) (rowsR p r0 (wait.take 0)) :: cel c1 p (0 : Nat) l s f [] wait :: rwl u1 R :: []) :=
          ((hN.rm 3).newr (R := []) (Below.refl _ _) (World.ownsRow_nil _ _ _ _) (Nat.le_refl _)).re [3, 0, 2, 1] 4
        exact h
      clear hN hS5
      go_wp2_with fail
      go_loopw [15, 16] (fun sv i wr => ∃ (j t : Nat), t ≤ Lw ∧ j ≤ t ∧ i = .int .i64 j ∧ Hid (St w wr (cel c2 p (0 : Nat) l s f (wait.drop t) (wait.take t) :: rwl sv (rowsR p r0 (wait.take t)) :: cel c1 p (0 : Nat) l s f [] wait :: rwl u1 R :: []))) (fun _ i _ => Lw - (intOf i).toNat)
      case atStart =>
        refine ⟨0, 0, Nat.zero_le _, Nat.le_refl _, rfl, ?_⟩
        exact hS6
      case round =>
        obtain ⟨j, t, ht, hjt, rfl, hS7⟩ := hrel
        clear hS6
        have hj60 : decide ((j : Int) < 60) = true := decide_eq_true (by omega)
        obtain ⟨v, b, vr, vt, hO⟩ := hS7.out.opn
        have d3 := hO.ck.c3
        obtain ⟨qv, _⟩ := hO.sw.qv
        clear hO
        have hdl2 : (wait.drop t).length = Lw - t := by rw [List.length_drop, hLw.out]
        go_upto_region 14 with fail
        go_wp2_with fail
        refine (qwaiting_is v (wait.drop t) _ qv).mono ?_
        rintro e V2 ⟨rfl, hb2⟩
        rw [hdl2]
        have hS8 : Hid (St w V2 (cel c2 p (0 : Nat) l s f (wait.drop t) (wait.take t) :: rwl u15 (rowsR p r0 (wait.take t)) :: cel c1 p (0 : Nat) l s f [] wait :: rwl u1 R :: [])) := hS7.out.below hb2
        clear hS7 d3 qv hb2
        obtain ⟨Dw, hDw⟩ : ∃ Dw, Hid (Lw - t = Dw) := ⟨_, rfl⟩
        rw [hDw.out]
        by_cases hlt : 0 < Dw
        · go_upto_if 69 with fail
          go_cut [17] (fun x wx => ∃ nn : Int, x = .int .i64 nn ∧ 1 ≤ nn ∧ nn ≤ 5 ∧ wx = V2)
          case first =>
            by_cases hjb : j < bl
            · obtain ⟨gb, ob, y, rfl, hy⟩ := ints_at hpa'.out hS8.out.b j hjb
              go_wp2_with fail
              refine (O.within_any y 1 5 _ (by decide) (by decide) (by decide)).mono ?_
              rintro e W' ⟨⟨nn, hn1, hn5, rfl⟩, he⟩; obtain rfl := he.symm; clear he
              go_wp2_with fail
              go_meet
              exact ⟨nn, rfl, hn1, hn5, rfl⟩
            · go_wp2_with fail
              go_meet
              exact ⟨1, rfl, by decide, by decide, rfl⟩
          obtain ⟨nn, rfl, hn1, hn5, he⟩ := hcut
          obtain rfl := he.symm
          clear he
          obtain ⟨kk, hkk⟩ := fst_ex nn (wait.drop t).length
          have hkk' : Hid (Fst nn (wait.drop t).length kk) := hkk
          have hkd : 1 ≤ kk ∧ kk ≤ Dw := by
            have h1 := hdl2
            have h2 := hDw.out
            unfold Fst at hkk
            omega
          clear hkk
          have hnext : Hid (((wait.drop t).drop kk = wait.drop (t + kk)) ∧ (wait.take t ++ (wait.drop t).take kk = wait.take (t + kk)) ∧ rowsR p r0 (wait.take t) ++ rowsR p (stR p r0 (wait.take t)) ((wait.drop t).take kk) = rowsR p r0 (wait.take (t + kk))) := by
            have h2 : wait.take t ++ (wait.drop t).take kk = wait.take (t + kk) := by rw [List.take_add]
            refine ⟨by rw [List.drop_drop], h2, ?_⟩
            rw [← rowsR_append, h2]
          go_wp2_with fail
          refine (serve_is nn _ hS8.out kk hkk'.out (by have := hLw.out; rw [List.length_drop, List.length_take]; omega)).mono ?_
          rintro e V3 ⟨u2, rfl, hN⟩
          rw [hnext.out.1, hnext.out.2.1] at hN
          have hb1 : (rowsR p r0 (wait.take t)).length ≤ 200 := by have h1 := (rows_len p (wait.take t)).1; have := hLw.out; rw [List.length_take] at h1; omega
          have hb2 : (rowsR p r0 (wait.take (t + kk))).length ≤ 200 := by have h1 := (rows_len p (wait.take (t + kk))).1; have := hLw.out; rw [List.length_take] at h1; omega
          have h12 : Hid (rowsR p r0 (wait.take t) ++ rowsR p (stR p r0 (wait.take t)) ((wait.drop t).take kk) = rowsR p r0 (wait.take (t + kk))) := hnext.out.2.2
          obtain ⟨R1, hR1⟩ : ∃ x, Hid (rowsR p r0 (wait.take t) = x) := ⟨_, rfl⟩
          obtain ⟨R2, hR2⟩ : ∃ x, Hid (rowsR p (stR p r0 (wait.take t)) ((wait.drop t).take kk) = x) := ⟨_, rfl⟩
          obtain ⟨R3, hR3⟩ : ∃ x, Hid (rowsR p r0 (wait.take (t + kk)) = x) := ⟨_, rfl⟩
          rw [hR2.out] at hN
          rw [hR1.out] at hS8 hb1
          rw [hR3.out] at hb2
          rw [hR1.out, hR2.out, hR3.out] at h12
          rw [hR1.out] at hN
          have hS9 : Hid (St w V3 (rwl u15 R1 :: rwl u2 R2 :: cel c2 p (0 : Nat) l s f (wait.drop (t + kk)) (wait.take (t + kk)) :: cel c1 p (0 : Nat) l s f [] wait :: rwl u1 R :: [])) := hN.re [2, 0, 1] 3
          obtain ⟨N3, hN3⟩ : ∃ x, Hid (R3.length = x) := ⟨_, rfl⟩
          have hb3 : R1.length + R2.length ≤ 200 := by rw [← List.length_append, h12.out]; exact hb2
          clear hN hS8 hkk' hnext
          obtain ⟨va, vc, rfl⟩ := own_len' (hS9.out.rwAt (v := u2) (R := R2) (by simp))
          obtain ⟨xa, xl, xc, rfl⟩ := own_slice hS9.out.rw
          obtain ⟨N2, hN2⟩ : ∃ x, Hid (R2.length = x) := ⟨_, rfl⟩
          rw [hN2.out] at hS9
          rw [hN2.out]
          go_wp2_with (at_builtin; refine wpList_append_rows (by rfl) _ _ rfl (.slice xa xl xc) R1 rfl hS9.out (.slice va N2 vc) R2 rfl (hS9.out.rwAt (by simp)) (by omega) R3 N3 h12.out hN3.out ?_; intro a1 x1 V4 hN)
          have hS10 : Hid (St w V4 (cel c2 p (0 : Nat) l s f (wait.drop (t + kk)) (wait.take (t + kk)) :: rwl (.slice a1 N3 x1) R3 :: cel c1 p (0 : Nat) l s f [] wait :: rwl u1 R :: [])) := (hN.rm 1).re [1, 0] 2
          rw [← hR3.out] at hS10
          clear hN hS9
          go_wp2_with fail
          go_roundw
          case rel => exact ⟨j + 1, t + kk, by have := hDw.out; omega, by omega, by go_num, hS10⟩
          case measure => have := hDw.out; simp [intOf]; omega
        · have htL : t = Lw := by have := hDw.out; omega
          have hfull : wait.take t = wait := List.take_of_length_le (by have := hLw.out; omega)
          have hnone : wait.drop t = [] := List.drop_of_length_le (by have := hLw.out; omega)
          rw [hfull, hnone, hR.out] at hS8
          have hS9 : Hid (St w V2 (cel c1 p (0 : Nat) l s f [] wait :: rwl (.slice none 0 0) (R.take 0) :: rwl u1 R :: rwl u15 R :: cel c2 p (0 : Nat) l s f [] wait :: [])) := by
            have h : St w V2 (cel c1 p (0 : Nat) l s f [] wait :: rwl (.slice none 0 0) (R.take 0) :: rwl u1 R :: rwl u15 R :: cel c2 p (0 : Nat) l s f [] wait :: []) :=
              (hS8.out.newr (R := []) (Below.refl _ _) (World.ownsRow_nil _ _ _ _) (Nat.le_refl _)).re [3, 0, 4, 2, 1] 5
            exact h
          obtain ⟨N, hN⟩ : ∃ x, Hid (R.length = x) := ⟨_, rfl⟩
          rw [hN.out] at hR200
          have hRN : Hid ((rowsR p r0 wait).length = N) := by
            have h : (rowsR p r0 wait).length = N := by rw [hR.out, hN.out]
            exact h
          clear hfull hnone htL hS8 hDw hdl2
          go_wp2_with fail
          clear hlt
          go_loopw [18, 19] (fun tv i wr => ∃ (j t : Nat), t ≤ N ∧ j ≤ t ∧ i = .int .i64 j ∧ Hid (St w wr (cel c1 p (0 : Nat) l s f [] wait :: rwl tv (R.take t) :: rwl u1 R :: rwl u15 R :: cel c2 p (0 : Nat) l s f [] wait :: []))) (fun _ i _ => N - (intOf i).toNat)
          case atStart => exact ⟨0, 0, Nat.zero_le _, Nat.le_refl _, rfl, hS9⟩
          case round =>
            obtain ⟨j, t, ht, hjt, rfl, hS10⟩ := hrel
            clear hS9
            have htl : (R.take t).length = t := by rw [List.length_take, hN.out]; omega
            obtain ⟨ta, tc, rfl⟩ := own_len' (hS10.out.re [1, 0] 2).rw
            rw [htl] at hS10
            rw [htl]
            clear htl
            by_cases hlt : t < N
            · have hj2 : (j : Int) < 200 := by omega
              go_wp2_with fail
              refine (count_is _ hS10.out).mono ?_
              rintro e X3 ⟨rfl, he⟩; obtain rfl := he.symm; clear he
              rw [hRN.out]
              go_upto_if 94 with fail
              go_cut [20] (fun x wx => ∃ nn : Int, x = .int .i64 nn ∧ 1 ≤ nn ∧ nn ≤ 40 ∧ wx = wr)
              case first =>
                by_cases hjb : j < dl
                · obtain ⟨gb, ob, y, rfl, hy⟩ := ints_at hte'.out hS10.out.b j hjb
                  go_wp2_with fail
                  refine (O.within_any y 1 40 _ (by decide) (by decide) (by decide)).mono ?_
                  rintro e W' ⟨⟨nn, hn1, hn5, rfl⟩, he⟩; obtain rfl := he.symm; clear he
                  go_wp2_with fail
                  go_meet
                  exact ⟨nn, rfl, hn1, hn5, rfl⟩
                · go_wp2_with fail
                  go_meet
                  exact ⟨1, rfl, by decide, by decide, rfl⟩
              obtain ⟨nn, rfl, hn1, hn40, he⟩ := hcut
              obtain rfl := he.symm
              clear he
              obtain ⟨mm, hmm⟩ := rwm_ex nn (N - t)
              have hmm' : Hid (Rwm nn (N - t) mm) := hmm
              have hm1 : 1 ≤ mm ∧ mm ≤ 32 ∧ t + mm ≤ N := by unfold Rwm at hmm; omega
              clear hmm
              go_wp2_with fail
              refine (crows_is nn t _ hS10.out (by have := hLw.out; omega) (N - t) mm (by rw [hRN.out]; omega) hmm'.out).mono ?_
              rintro e V3 ⟨u2, rfl, hN2⟩
              rw [hR.out] at hN2
              have h12 : Hid (R.take t ++ (R.drop t).take mm = R.take (t + mm)) := by
                have h : R.take t ++ (R.drop t).take mm = R.take (t + mm) := by rw [List.take_add]
                exact h
              obtain ⟨R1, hR1⟩ : ∃ x, Hid (R.take t = x) := ⟨_, rfl⟩
              obtain ⟨R2, hR2⟩ : ∃ x, Hid ((R.drop t).take mm = x) := ⟨_, rfl⟩
              obtain ⟨R3, hR3⟩ : ∃ x, Hid (R.take (t + mm) = x) := ⟨_, rfl⟩
              have hl1 : R1.length = t := by rw [← hR1.out, List.length_take, hN.out]; omega
              have hl2 : R2.length = mm := by rw [← hR2.out, List.length_take, List.length_drop, hN.out]; omega
              have hl3 : R3.length = t + mm := by rw [← hR3.out, List.length_take, hN.out]; omega
              rw [hR1.out, hR2.out, hR3.out] at h12
              rw [hR2.out] at hN2
              rw [hR1.out] at hN2
              have hS11 : Hid (St w V3 (rwl (.slice ta t tc) R1 :: rwl u2 R2 :: cel c1 p (0 : Nat) l s f [] wait :: rwl u1 R :: rwl u15 R :: cel c2 p (0 : Nat) l s f [] wait :: [])) := hN2.re [2, 0, 1] 3
              clear hN2 hS10 hmm'
              obtain ⟨va, vc, rfl⟩ := own_len' (hS11.out.rwAt (v := u2) (R := R2) (by simp))
              rw [hl2] at hS11
              rw [hl2]
              obtain ⟨N3, hN3⟩ : ∃ x, Hid (t + mm = x) := ⟨_, rfl⟩
              rw [hN3.out] at hl3
              have hm0 : ((mm : Int) == 0) = false := by simp; omega
              have hm32 : ¬ (32 : Int) < (mm : Int) := by omega
              go_wp2_with (at_builtin; refine wpList_append_rows (by rfl) _ _ rfl (.slice ta t tc) R1 rfl hS11.out (.slice va mm vc) R2 rfl (hS11.out.rwAt (by simp)) (by omega) R3 N3 h12.out hl3 ?_; intro a1 x1 V4 hN4)
              have hS12 : Hid (St w V4 (cel c1 p (0 : Nat) l s f [] wait :: rwl (.slice a1 N3 x1) R3 :: rwl u1 R :: rwl u15 R :: cel c2 p (0 : Nat) l s f [] wait :: [])) := (hN4.rm 1).re [1, 0] 2
              rw [← hR3.out] at hS12
              clear hN4 hS11
              go_wp2_with fail
              go_roundw
              case rel => exact ⟨j + 1, t + mm, by omega, by omega, by go_num, hS12⟩
              case measure => simp [intOf]; omega
            · obtain rfl : t = N := by omega
              have hfull : R.take t = R := List.take_of_length_le (by rw [hN.out]; omega)
              rw [hfull] at hS10
              have hS11 : Hid (St w wr (cel c1 p (0 : Nat) l s f [] wait :: rwl (.slice ta t tc) R :: rwl u1 R :: rwl u15 R :: cel c2 p (0 : Nat) l s f [] wait :: [])) := hS10.out
              clear hfull hS10 ht hlt
              rcases (show (j : Int) < 200 ∨ 200 ≤ (j : Int) by omega) with hj2 | hj2
              case' inl =>
                go_wp2_with fail
                refine (count_is _ hS11.out).mono ?_
                rintro e X3 ⟨rfl, he⟩; obtain rfl := he.symm; clear he
                rw [hRN.out]
                go_upto_region 31 with fail
              case' inr =>
                go_upto_region 31 with fail
              all_goals
                clear hj2
                go_wp2_with fail
                refine (count_is _ hS11.out).mono ?_
                rintro e X3 ⟨rfl, he⟩; obtain rfl := he.symm; clear he
                rw [hRN.out]
                go_wp2_with fail
                refine (crows_is 5 t _ hS11.out (by have := hLw.out; omega) 0 0 (by rw [hRN.out]; omega) (.inr (.inr (.inr ⟨by decide, by decide, by decide, rfl⟩)))).mono ?_
                rintro e V3 ⟨u2, rfl, hN2⟩
                rw [List.take_zero] at hN2
                obtain ⟨va, vc, rfl⟩ := own_len' hN2.rw
                have hS12 : Hid (St w V3 (cel c1 p (0 : Nat) l s f [] wait :: rwl (.slice ta t tc) R :: rwl u1 R :: rwl u15 R :: cel c2 p (0 : Nat) l s f [] wait :: [])) := hN2.drop
                have h1 := rdr_own (hS12.out.rwAt (v := u1) (R := R) (by simp))
                have h2 := rdr_own (hS12.out.rwAt (v := u15) (R := R) (by simp))
                clear hN2 hS11
                go_wp2_with fail
                refine (same_r u1 u15 R _ h1 h2).mono ?_
                rintro e V5 ⟨rfl, hb5⟩
                have hS13 : Hid (St w V5 (cel c1 p (0 : Nat) l s f [] wait :: rwl (.slice ta t tc) R :: rwl u1 R :: rwl u15 R :: cel c2 p (0 : Nat) l s f [] wait :: [])) := hS12.out.below hb5
                clear h1 h2 hb5 hS12
                have h1 := rdr_own (hS13.out.rwAt (v := u1) (R := R) (by simp))
                have h2 := rdr_own (hS13.out.rwAt (v := .slice ta t tc) (R := R) (by simp))
                go_wp2_with fail
                refine (same_r (.slice ta t tc) u1 R _ h2 h1).mono ?_
                rintro e V6 ⟨rfl, hb6⟩
                have hS14 : Hid (St w V6 (cel c1 p (0 : Nat) l s f [] wait :: cel c2 p (0 : Nat) l s f [] wait :: [])) := (((hS13.out.below hb6).rm 1).rm 1).rm 1
                clear h1 h2 hb6 hS13
                go_wp2_with fail
                refine (takenl_is _ hS14.out (by have := hLw.out; omega)).mono ?_
                rintro e V7 ⟨t1, rfl, hN3, _⟩
                have hS15 : Hid (St w V7 (cel c2 p (0 : Nat) l s f [] wait :: inl t1 wait :: [])) := (hN3.re [2, 0, 1] 3).rm 2
                clear hN3 hS14
                go_wp2_with fail
                refine (takenl_is _ hS15.out (by have := hLw.out; omega)).mono ?_
                rintro e V8 ⟨t2, rfl, hN3, _⟩
                obtain ⟨q1, hl1⟩ := hN3.qvAt (v := t1) (is := wait) (by simp)
                obtain ⟨q2, hl2⟩ := hN3.qvAt (v := t2) (is := wait) (by simp)
                obtain ⟨b1, hr1, _, _⟩ := q1.rdi hl1 0
                obtain ⟨b2, hr2, _, _⟩ := q2.rdi hl2 0
                have hB : Hid (Below w.heap.size w V8) := hN3.b
                clear hS15 hN3 q1 q2
                go_wp2_with fail
                refine (same_i t1 t2 b1 b2 wait _ hr1 hr2).mono ?_
                rintro e V9 ⟨rfl, hb8⟩
                have hB8 : Hid (Below w.heap.size w V9) := below_call hB.out hb8
                clear hr1 hr2 hB hb8
                go_wp2_with fail
                refine (runs_is _).mono ?_
                rintro e V10 ⟨rfl, hb9⟩
                have hB9 : Hid (Below w.heap.size w V10) := below_call hB8.out hb9
                clear hB8 hb9
                go_wp2_with fail
                go_ret
                exact ⟨rfl, hB9.out⟩
end Go.Proofs.Ytnamjnopicghhaa
