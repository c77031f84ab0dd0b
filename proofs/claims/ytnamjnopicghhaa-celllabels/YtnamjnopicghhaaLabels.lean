/- CellLabels: whatever label an offered event bears, it is the tenant's own that counts. -/
import Derived.Test.YtnamjnopicghhaaLawAll
import Derived.Deep.QuietTactic
import Derived.BigQuiet
namespace Go.Proofs.Ytnamjnopicghhaa
open Go.RowKit M
open O (Small Ints kv Kpk Pik)
open O.MO (Oq Pq rightP)
set_option linter.unusedVariables false
set_option linter.unusedSimpArgs false
attribute [local go_sem ↓] Go.wp_at_zero Go.wp_at_succ

/-- What stands in the round. -/
def Wt (n j : Nat) (l s f : Int) (wait : List Inp) : Prop := 0 ≤ l ∧ l ≤ 99 ∧ 0 ≤ s ∧ s ≤ j ∧ 0 ≤ f ∧ f ≤ j ∧ wait.length ≤ j ∧ ∀ x ∈ wait, x.mrk = true ∨ x.e.l = 2 ^ n
theorem wt_off {n j : Nat} {room l s f l' s' f' E : Int} {wait wait' : List Inp} {x : Inp} (h : Wt n j l s f wait) (hE : Off n room x l s f wait E l' s' f' wait') : Wt n (j + 1) l' s' f' wait' := by
  obtain ⟨h1, h2, h3, h4, h5, h6, h7, h8⟩ := h
  unfold Wt
  rcases hE with ⟨_, _, rfl, rfl, rfl, rfl⟩ | ⟨_, _, _, rfl, rfl, rfl, rfl⟩ | ⟨_, _, _, _, rfl, rfl, rfl, rfl⟩ | ⟨_, _, _, _, rfl, rfl, rfl, rfl⟩
  · exact ⟨by omega, by omega, by omega, by omega, by omega, by omega, by omega, h8⟩
  · exact ⟨by omega, by omega, by omega, by omega, by omega, by omega, by omega, h8⟩
  · exact ⟨by omega, by omega, by omega, by omega, by omega, by omega, by omega, h8⟩
  · refine ⟨by omega, by omega, by omega, by omega, by omega, by omega, by simp; omega, fun y hy => ?_⟩
    rcases List.mem_append.1 hy with hy | hy
    · exact h8 y hy
    · obtain rfl := List.mem_singleton.1 hy
      unfold ownI
      split
      · exact .inl rfl
      · exact .inr rfl
theorem off_lab {n : Nat} {room l s f l' s' f' E : Int} {wait wait' : List Inp} {x : Inp} (h : Off n room x l s f wait E l' s' f' wait') (lb : Nat) : Off n room ⟨x.mrk, ⟨x.e.t, x.e.k, x.e.v, lb⟩⟩ l s f wait E l' s' f' wait' := h
set_option maxHeartbeats 8000000 in
set_option maxRecDepth 100000 in
theorem cellLabels_walk (k : KeepIn) (la : Option Addr) (ll lc : Nat) (id : Int) (ba : Option Addr) (bl bc : Nat) (w : World) (hk : IsKeep w k) (hI : Ins4 w la ll lc) (hid : (Lit.int .i64 id).wf = true) (hb : IsU64s w ba bl bc) :
    Calls Try.prog 7 #[kin k, .slice la ll lc, .int .i64 id, .slice ba bl bc] w fun e w' => e = .returned (.bool true) ∧ Below w.heap.size w w' := by
  obtain ⟨ao, lo, co, an, ln, cn, kn, ks, kg, kk, kf⟩ := k
  unfold kin
  obtain ⟨hk1, hk2⟩ := hk
  simp only at hk1 hk2
  have hI' : Hid (Ins4 w la ll lc) := hI
  have hb' : Hid (IsU64s w ba bl bc) := hb
  have hbl := hb.1
  clear hI hb hid
  go_enter Try.func7, Try.ntmps7
  go_upto_region 1 with fail
  refine world_gen (fun W => Hid (Kpk W w.heap.size (.slice ao lo co) (.slice an ln cn) kn ks kg kk kf) ∧ Hid (Ints W ao lo co) ∧ Hid (Ints W an ln cn) ∧ Hid (St w W [])) ⟨O.kpk_new _ _ _ _ _ _ _ _, hk1.call (below_alloc _ _), hk2.call (below_alloc _ _), (st_start w).below (below_alloc _ _)⟩ ?_
  clear hk1 hk2
  rintro W ⟨hK, hk1, hk2, hB⟩
  generalize w.heap.size = g0 at hK ⊢
  have c0 := hK.out.c0
  have c1 := hK.out.c1
  have c2 := hK.out.c2
  have c3 := hK.out.c3
  have c4 := hK.out.c4
  have c5 := hK.out.c5
  have c6 := hK.out.c6
  go_wp2_with fail
  refine (kpipe_st ao lo co an ln cn kn ks kg kk kf _ hB.out hk1.out hk2.out).mono ?_
  rintro e W1 ⟨p, ua, uc, hSm, rfl, hS1, _⟩
  have hS' : Hid (Small p) := hSm
  have hS : Hid (St w W1 (opT (.slice ua p.os.length uc) p.os :: [])) := hS1
  clear hK hk1 hk2 c0 c1 c2 c3 c4 c5 c6 hB hS1 hSm
  go_upto_region 2 with fail
  refine world_gen (fun X => Hid (St w X (pkT W1.heap.size (.slice ua p.os.length uc) p :: opT (.slice ua p.os.length uc) p.os :: []))) (hS.out.newBlk _ _ rfl) ?_
  clear hS
  generalize W1.heap.size = gp
  rintro W hS
  go_wp2_with fail
  refine (O.within_any id 0 7 _ (by decide) (by decide) (by decide)).mono ?_
  rintro e W' ⟨⟨i, hi0, hi7, rfl⟩, he⟩; obtain rfl := he.symm; clear he
  obtain ⟨n, rfl⟩ := Int.eq_ofNat_of_zero_le hi0
  have hn : n < 8 := by omega
  go_upto_region 3 with fail
  have hPk : O.Pik W gp (.slice ua p.os.length uc) p.n p.s p.a p.k p.f := hS.out.blk
  refine wp_region_held_drew (S := fun X => O.Pik X gp (.slice ua p.os.length uc) p.n p.s p.a p.k p.f) (by kernel_rfl) hPk (fun hHeld => ?_)
  have hT : Hid (St w W.drew (pkT gp (.slice ua p.os.length uc) p :: opT (.slice ua p.os.length uc) p.os :: [])) := hS.out.below (Below.refl _ _).drew
  clear hS
  clear hPk
  generalize W.drew = V at hHeld hT ⊢
  have hS := hT
  clear hT
  refine take_at (i := 0) (v := .int .i64 (n : Nat)) rfl rfl (by kernel_rfl) (by kernel_rfl) (by kernel_rfl) (fun _ _ _ h => h) (Or.inl ⟨by rfl, fun X _ => by go_simp⟩) hHeld ?_
  try simp only [Act.put, List.setIfInBounds_toArray, List.set_cons_zero, List.set_cons_succ]
  refine take_at (i := 1) (v := O.pv (.slice ua p.os.length uc) p.n p.s p.a p.k p.f) rfl rfl (by kernel_rfl) (by kernel_rfl) (by kernel_rfl) (fun _ _ _ h => h) (Or.inl ⟨by rfl, fun X hX => by have k0 := hX.c0; have k1 := hX.c1; have k2 := hX.c2; have k3 := hX.c3; have k4 := hX.c4; have k5 := hX.c5; go_simp⟩) hHeld ?_
  try simp only [Act.put, List.setIfInBounds_toArray, List.set_cons_zero, List.set_cons_succ]
  refine take_at (i := 3) (v := .int .i64 (n : Nat)) rfl rfl (by kernel_rfl) (by kernel_rfl) (by kernel_rfl) (fun _ _ _ h => h) (Or.inl ⟨by rfl, fun X _ => by go_simp⟩) hHeld ?_
  try simp only [Act.put, List.setIfInBounds_toArray, List.set_cons_zero, List.set_cons_succ]
  refine take_at (i := 4) (v := O.pv (.slice ua p.os.length uc) p.n p.s p.a p.k p.f) rfl rfl (by kernel_rfl) (by kernel_rfl) (by kernel_rfl) (fun _ _ _ h => h) (Or.inl ⟨by rfl, fun X hX => by have k0 := hX.c0; have k1 := hX.c1; have k2 := hX.c2; have k3 := hX.c3; have k4 := hX.c4; have k5 := hX.c5; go_simp⟩) hHeld ?_
  try simp only [Act.put, List.setIfInBounds_toArray, List.set_cons_zero, List.set_cons_succ]
  refine wpAnyH_ready (rs := [2]) (by kernel_rfl) (by simp) ?_
  refine AllReadyH.cons rfl (fun K hK => ?_) AllReadyH.nil
  rw [if_pos (by rfl)]
  go_wp2_with fail
  refine (cnew_is (p := p) (.slice ua p.os.length uc) (n : Nat) 99 99 _ hS.out (hS.out.opAt (by simp)) (small_new hS'.out).1 (small_new hS'.out).2.1 ⟨by omega, by omega⟩ (.inl ⟨by decide, rfl⟩)).mono ?_
  rintro e V1 ⟨c1, rfl, hN⟩
  have hS1 : Hid (St w V1 (cel c1 p (n : Nat) 99 0 0 [] [] :: pkT gp (.slice ua p.os.length uc) p :: opT (.slice ua p.os.length uc) p.os :: [])) := hN
  have hh : O.Pik V1 gp (.slice ua p.os.length uc) p.n p.s p.a p.k p.f := hN.blkAt (by simp)
  clear hN hS hHeld
  go_wp2_with fail
  refine hK.out _ _ (hh) (fun hHeld => ?_)
  clear hK K
  try simp only [Act.put, List.setIfInBounds_toArray, List.set_cons_zero, List.set_cons_succ]
  clear hh
  refine wpAnyH_ready (rs := [5]) (by kernel_rfl) (by simp) ?_
  refine AllReadyH.cons rfl (fun K hK => ?_) AllReadyH.nil
  rw [if_pos (by rfl)]
  go_wp2_with fail
  refine (cnew_is (p := p) (.slice ua p.os.length uc) (n : Nat) 99 99 _ hS1.out (hS1.out.opAt (by simp)) (small_new hS'.out).1 (small_new hS'.out).2.1 ⟨by omega, by omega⟩ (.inl ⟨by decide, rfl⟩)).mono ?_
  rintro e V2 ⟨c2, rfl, hN⟩
  have hS2 : Hid (St w V2 (cel c1 p (n : Nat) 99 0 0 [] [] :: cel c2 p (n : Nat) 99 0 0 [] [] :: pkT gp (.slice ua p.os.length uc) p :: opT (.slice ua p.os.length uc) p.os :: [])) := hN.re [1, 0] 2
  have hh : O.Pik V2 gp (.slice ua p.os.length uc) p.n p.s p.a p.k p.f := hN.blkAt (by simp)
  clear hN hS1 hHeld
  go_wp2_with fail
  refine hK.out _ _ (hh) (fun hHeld => ?_)
  clear hK K
  try simp only [Act.put, List.setIfInBounds_toArray, List.set_cons_zero, List.set_cons_succ]
  clear hh
  refine take_at (i := 6) (v := .pointer (some ⟨c1, 0, none⟩)) rfl rfl (by kernel_rfl) (by kernel_rfl) (by kernel_rfl) (fun _ _ _ h => h) (Or.inl ⟨by rfl, fun X _ => by go_simp⟩) hHeld ?_
  try simp only [Act.put, List.setIfInBounds_toArray, List.set_cons_zero, List.set_cons_succ]
  refine take_at (i := 7) (v := .pointer (some ⟨c2, 0, none⟩)) rfl rfl (by kernel_rfl) (by kernel_rfl) (by kernel_rfl) (fun _ _ _ h => h) (Or.inl ⟨by rfl, fun X _ => by go_simp⟩) hHeld ?_
  try simp only [Act.put, List.setIfInBounds_toArray, List.set_cons_zero, List.set_cons_succ]
  refine wpAnyH_done (by kernel_rfl) ?_ _
  clear hHeld
  go_wp2_with fail
  refine (inputs_st la ll lc _ hS2.out (hI'.out.below hS2.out.b (Nat.le_refl _) hS2.out.size)).mono ?_
  rintro e W3 ⟨is, ia, ic, rfl, hl25, hG, hN⟩
  have hS : Hid (St w W3 (cel c1 p (n : Nat) 99 0 0 [] [] :: cel c2 p (n : Nat) 99 0 0 [] [] :: inl (.slice ia is.length ic) is :: pkT gp (.slice ua p.os.length uc) p :: opT (.slice ua p.os.length uc) p.os :: [])) := hN.re [1, 2, 0] 3
  clear hN hS2 hI' hG
  obtain ⟨m, hm⟩ : ∃ m, Hid (is.length = m) := ⟨_, rfl⟩
  rw [hm.out] at hl25 hS ⊢
  go_wp2_with fail
  go_loopw [39] (fun i wr => ∃ (j : Nat) (l s f : Int) (wait : List Inp), j ≤ m ∧ i = .int .i64 j ∧ Hid (Wt n j l s f wait) ∧ Hid (St w wr (cel c1 p (n : Nat) l s f wait [] :: cel c2 p (n : Nat) l s f wait [] :: inl (.slice ia m ic) is :: pkT gp (.slice ua p.os.length uc) p :: opT (.slice ua p.os.length uc) p.os :: []))) (fun i _ => m - (intOf i).toNat)
  case atStart => exact ⟨0, 99, 0, 0, [], Nat.zero_le _, rfl, ⟨by decide, by decide, by decide, by decide, by decide, by decide, by simp, fun x hx => by cases hx⟩, hS⟩
  case round =>
    obtain ⟨j, l, s, f, wait, hj, rfl, hW, hS5⟩ := hrel
    clear hS
    by_cases hlt : j < m
    · obtain ⟨g, off, rfl, hin⟩ := hS5.out.inAt (v := ia) (n := m) (c := ic) (is := is) (by simp) j (by rw [hm.out]; exact hlt)
      obtain ⟨x, hx⟩ : ∃ x, Hid (iAt is j = x) := ⟨_, rfl⟩
      rw [hx.out] at hin
      obtain ⟨d0, d1, d2, d3, d4⟩ := hin
      have hS4 := hS5
      clear hS5
      go_upto_region 9 with fail
      clear d0 d1 d2 d3 d4
      refine world_gen (fun X => Hid (St w X (inkT wr.heap.size x :: cel c1 p (n : Nat) l s f wait [] :: cel c2 p (n : Nat) l s f wait [] :: inl (.slice (some ⟨g, off, none⟩) m ic) is :: pkT gp (.slice ua p.os.length uc) p :: opT (.slice ua p.os.length uc) p.os :: []))) (hS4.out.newBlk _ _ rfl) ?_
      clear hS4
      generalize wr.heap.size = g1
      rintro V4 hS
      obtain ⟨d0, d1, d2, d3, d4⟩ := (show Ink V4 g1 x from hS.out.blk).c
      simp only [Nat.zero_add] at d0 d1 d2 d3 d4
      go_upto_region 10 with fail
      clear d0 d1 d2 d3 d4
      refine world_gen (fun X => Hid (St w X (inkT V4.heap.size x :: inkT g1 x :: cel c1 p (n : Nat) l s f wait [] :: cel c2 p (n : Nat) l s f wait [] :: inl (.slice (some ⟨g, off, none⟩) m ic) is :: pkT gp (.slice ua p.os.length uc) p :: opT (.slice ua p.os.length uc) p.os :: []))) (hS.out.newBlk _ _ rfl) ?_
      clear hS
      generalize V4.heap.size = g2
      rintro V5 hS
      have hK : Ink V5 g2 x := hS.out.blk
      have d4 := hK.c.2.2.2.2
      have f4 := hK.thaw 4
      simp only [Nat.zero_add] at d4
      have hS6 : Hid (St w (V5.setCell ⟨g2, 4, none⟩ (.int .u64 0)) (inkT g2 ⟨x.mrk, ⟨x.e.t, x.e.k, x.e.v, 0⟩⟩ :: inkT g1 x :: cel c1 p (n : Nat) l s f wait [] :: cel c2 p (n : Nat) l s f wait [] :: inl (.slice (some ⟨g, off, none⟩) m ic) is :: pkT gp (.slice ua p.os.length uc) p :: opT (.slice ua p.os.length uc) p.os :: [])) := hS.out.setB 4 _ (hK.setl 0)
      clear hK hS
      go_upto_region 11 with fail
      clear d4 f4
      generalize V5.setCell ⟨g2, 4, none⟩ (.int .u64 0) = V6 at *
      go_upto_if 50 with fail
      go_cut [39] (fun i wx => i = .int .i64 j ∧ ∃ lb : Nat, lb < 18446744073709551616 ∧ Hid (St w wx (inkT g2 ⟨x.mrk, ⟨x.e.t, x.e.k, x.e.v, lb⟩⟩ :: inkT g1 x :: cel c1 p (n : Nat) l s f wait [] :: cel c2 p (n : Nat) l s f wait [] :: inl (.slice (some ⟨g, off, none⟩) m ic) is :: pkT gp (.slice ua p.os.length uc) p :: opT (.slice ua p.os.length uc) p.os :: [])))
      case first =>
        by_cases hjb : j < bl
        · obtain ⟨gb, ob, y, rfl, hgl, hy, hyl⟩ := hb'.out.2.2.2 j hjb
          have d0 := (hS6.out.b.cell (p := ⟨gb, ob + j, none⟩) hgl).trans hy
          have hK : Ink V6 g2 ⟨x.mrk, ⟨x.e.t, x.e.k, x.e.v, 0⟩⟩ := hS6.out.blk
          have d4 := hK.c.2.2.2.2
          have f4 := hK.thaw 4
          simp only [Nat.zero_add] at d4
          have hS7 : Hid (St w (V6.setCell ⟨g2, 4, none⟩ (.int .u64 (y : Int))) (inkT g2 ⟨x.mrk, ⟨x.e.t, x.e.k, x.e.v, y⟩⟩ :: inkT g1 x :: cel c1 p (n : Nat) l s f wait [] :: cel c2 p (n : Nat) l s f wait [] :: inl (.slice (some ⟨g, off, none⟩) m ic) is :: pkT gp (.slice ua p.os.length uc) p :: opT (.slice ua p.os.length uc) p.os :: [])) := hS6.out.setB 4 _ (hK.setl y)
          clear hK hS6 hy
          go_wp2_with fail
          go_meet
          exact ⟨rfl, y, hyl, hS7⟩
        · go_wp2_with fail
          go_meet
          exact ⟨rfl, 0, by decide, hS6⟩
      obtain ⟨rfl, lb, hlb, hS8⟩ := hcut
      clear hS6
      obtain ⟨E, l2, s2, f2, wait2, hE⟩ := off_ex n 99 x l s f wait
      have hE' : Hid (Off n 99 x l s f wait E l2 s2 f2 wait2) := hE
      have hW' : Hid (Wt n (j + 1) l2 s2 f2 wait2) := wt_off hW.out hE
      clear hE
      go_upto_region 13 with fail
      have hP1 : Ink wc g1 x ∧ Ink wc g2 ⟨x.mrk, ⟨x.e.t, x.e.k, x.e.v, lb⟩⟩ := ⟨hS8.out.blkAt (b := g1) (by simp), hS8.out.blk⟩
      refine wp_region_held_drew (S := fun X => Ink X g1 x ∧ Ink X g2 ⟨x.mrk, ⟨x.e.t, x.e.k, x.e.v, lb⟩⟩) (by kernel_rfl) hP1 (fun hHeld => ?_)
      have hT : Hid (St w wc.drew (inkT g2 ⟨x.mrk, ⟨x.e.t, x.e.k, x.e.v, lb⟩⟩ :: inkT g1 x :: cel c1 p (n : Nat) l s f wait [] :: cel c2 p (n : Nat) l s f wait [] :: inl (.slice (some ⟨g, off, none⟩) m ic) is :: pkT gp (.slice ua p.os.length uc) p :: opT (.slice ua p.os.length uc) p.os :: [])) := hS8.out.below (Below.refl _ _).drew
      clear hS8
      clear hP1
      generalize wc.drew = V at hHeld hT ⊢
      have hS8 := hT
      clear hT
      refine take_at (i := 0) (v := .pointer (some ⟨c1, 0, none⟩)) rfl rfl (by kernel_rfl) (by kernel_rfl) (by kernel_rfl) (fun _ _ _ h => h) (Or.inl ⟨by rfl, fun X _ => by go_simp⟩) hHeld ?_
      try simp only [Act.put, List.setIfInBounds_toArray, List.set_cons_zero, List.set_cons_succ]
      refine take_at (i := 1) (v := inv x) rfl rfl (by kernel_rfl) (by kernel_rfl) (by kernel_rfl) (fun _ _ _ h => h) (Or.inl ⟨by rfl, fun X hX => by obtain ⟨k0, k1, k2, k3, k4⟩ := hX.1.c; simp only [Nat.zero_add] at k0 k1 k2 k3 k4; go_simp⟩) hHeld ?_
      try simp only [Act.put, List.setIfInBounds_toArray, List.set_cons_zero, List.set_cons_succ]
      refine take_at (i := 3) (v := .pointer (some ⟨c2, 0, none⟩)) rfl rfl (by kernel_rfl) (by kernel_rfl) (by kernel_rfl) (fun _ _ _ h => h) (Or.inl ⟨by rfl, fun X _ => by go_simp⟩) hHeld ?_
      try simp only [Act.put, List.setIfInBounds_toArray, List.set_cons_zero, List.set_cons_succ]
      refine take_at (i := 4) (v := inv ⟨x.mrk, ⟨x.e.t, x.e.k, x.e.v, lb⟩⟩) rfl rfl (by kernel_rfl) (by kernel_rfl) (by kernel_rfl) (fun _ _ _ h => h) (Or.inl ⟨by rfl, fun X hX => by obtain ⟨k0, k1, k2, k3, k4⟩ := hX.2.c; simp only [Nat.zero_add] at k0 k1 k2 k3 k4; go_simp⟩) hHeld ?_
      try simp only [Act.put, List.setIfInBounds_toArray, List.set_cons_zero, List.set_cons_succ]
      refine wpAnyH_ready (rs := [2]) (by kernel_rfl) (by simp) ?_
      refine AllReadyH.cons rfl (fun K hK => ?_) AllReadyH.nil
      rw [if_pos (by rfl)]
      go_wp2_with fail
      refine (offer_is 99 x _ (hS8.out.re [2, 0, 1] 3) hn ⟨by have := hW.out.1; omega, by have := hW.out.2.1; omega⟩ ⟨hW.out.2.2.1, by have := hW.out.2.2.2.1; omega⟩ ⟨hW.out.2.2.2.2.1, by have := hW.out.2.2.2.2.2.1; omega⟩ (by have := hW.out.2.2.2.2.2.2.1; omega) E l2 s2 f2 wait2 (hE'.out)).mono ?_
      rintro e V1 ⟨rfl, hN⟩
      have hS2 : Hid (St w V1 (cel c2 p (n : Nat) l s f wait [] :: cel c1 p (n : Nat) l2 s2 f2 wait2 [] :: inkT g2 ⟨x.mrk, ⟨x.e.t, x.e.k, x.e.v, lb⟩⟩ :: inkT g1 x :: inl (.slice (some ⟨g, off, none⟩) m ic) is :: pkT gp (.slice ua p.os.length uc) p :: opT (.slice ua p.os.length uc) p.os :: [])) := hN.re [3, 0, 1, 2] 4
      have hh : Ink V1 g1 x ∧ Ink V1 g2 ⟨x.mrk, ⟨x.e.t, x.e.k, x.e.v, lb⟩⟩ := ⟨hS2.out.blkAt (b := g1) (by simp), hS2.out.blkAt (b := g2) (by simp)⟩
      clear hN hS8 hHeld
      go_wp2_with fail
      refine hK.out _ _ (hh) (fun hHeld => ?_)
      clear hK K
      try simp only [Act.put, List.setIfInBounds_toArray, List.set_cons_zero, List.set_cons_succ]
      clear hh
      refine wpAnyH_ready (rs := [5]) (by kernel_rfl) (by simp) ?_
      refine AllReadyH.cons rfl (fun K hK => ?_) AllReadyH.nil
      rw [if_pos (by rfl)]
      go_wp2_with fail
      refine (offer_is 99 ⟨x.mrk, ⟨x.e.t, x.e.k, x.e.v, lb⟩⟩ _ (hS2.out) hn ⟨by have := hW.out.1; omega, by have := hW.out.2.1; omega⟩ ⟨hW.out.2.2.1, by have := hW.out.2.2.2.1; omega⟩ ⟨hW.out.2.2.2.2.1, by have := hW.out.2.2.2.2.2.1; omega⟩ (by have := hW.out.2.2.2.2.2.2.1; omega) E l2 s2 f2 wait2 (off_lab hE'.out lb)).mono ?_
      rintro e V2 ⟨rfl, hN⟩
      have hS3 : Hid (St w V2 (cel c2 p (n : Nat) l2 s2 f2 wait2 [] :: cel c1 p (n : Nat) l2 s2 f2 wait2 [] :: inkT g2 ⟨x.mrk, ⟨x.e.t, x.e.k, x.e.v, lb⟩⟩ :: inkT g1 x :: inl (.slice (some ⟨g, off, none⟩) m ic) is :: pkT gp (.slice ua p.os.length uc) p :: opT (.slice ua p.os.length uc) p.os :: [])) := hN
      have hh : Ink V2 g1 x ∧ Ink V2 g2 ⟨x.mrk, ⟨x.e.t, x.e.k, x.e.v, lb⟩⟩ := ⟨hS3.out.blkAt (b := g1) (by simp), hS3.out.blkAt (b := g2) (by simp)⟩
      clear hN hS2 hHeld
      go_wp2_with fail
      refine hK.out _ _ (hh) (fun hHeld => ?_)
      clear hK K
      try simp only [Act.put, List.setIfInBounds_toArray, List.set_cons_zero, List.set_cons_succ]
      clear hh
      refine take_at (i := 6) (v := .bool false) rfl rfl (by kernel_rfl) (by kernel_rfl) (by kernel_rfl) (fun _ _ _ h => h) (Or.inl ⟨by rfl, fun X _ => by go_simp⟩) hHeld ?_
      try simp only [Act.put, List.setIfInBounds_toArray, List.set_cons_zero, List.set_cons_succ]
      refine wpAnyH_done (by kernel_rfl) ?_ _
      clear hHeld
      have hS9 : Hid (St w _ (cel c1 p (n : Nat) l2 s2 f2 wait2 [] :: cel c2 p (n : Nat) l2 s2 f2 wait2 [] :: inl (.slice (some ⟨g, off, none⟩) m ic) is :: pkT gp (.slice ua p.os.length uc) p :: opT (.slice ua p.os.length uc) p.os :: [])) := ((hS3.out.rm 2).rm 2).re [1, 0] 2
      clear hS3
      go_wp2_with fail
      go_roundw
      case rel => exact ⟨j + 1, l2, s2, f2, wait2, by omega, by go_num, hW', hS9⟩
      case measure => simp [intOf]; omega
    · have hW2 : Hid (Wt n m l s f wait) := by
        have h : Wt n m l s f wait := by obtain rfl : j = m := by omega
                                         exact hW.out
        exact h
      obtain ⟨kk2, hkk⟩ := fst_ex 99 wait.length
      have hkk' : Hid (Fst 99 wait.length kk2) := hkk
      have hwl : wait.length ≤ 25 := by have := hW2.out.2.2.2.2.2.2.1; omega
      clear hkk hb'
      go_wp2_with fail
      refine (serve_is 99 _ hS5.out kk2 hkk'.out (by simp; omega)).mono ?_
      rintro e V1 ⟨u1, rfl, hN⟩
      have hS6 : Hid (St w V1 (cel c2 p (n : Nat) l s f wait [] :: rwl u1 (rowsR p (stR p r0 []) (wait.take kk2)) :: cel c1 p (n : Nat) l s f (wait.drop kk2) (wait.take kk2) :: inl (.slice ia m ic) is :: pkT gp (.slice ua p.os.length uc) p :: opT (.slice ua p.os.length uc) p.os :: [])) := hN.re [2, 0, 1] 3
      clear hN hS5
      go_wp2_with fail
      refine (serve_is 99 _ hS6.out kk2 hkk'.out (by simp; omega)).mono ?_
      rintro e V2 ⟨u2, rfl, hN⟩
      rw [List.nil_append] at hN
      obtain ⟨R, hR⟩ : ∃ R, Hid (rowsR p (stR p r0 []) (wait.take kk2) = R) := ⟨_, rfl⟩
      obtain ⟨tk, htk⟩ : ∃ tk, Hid (wait.take kk2 = tk) := ⟨_, rfl⟩
      obtain ⟨rs, hrs⟩ : ∃ rs, Hid (wait.drop kk2 = rs) := ⟨_, rfl⟩
      rw [hR.out, htk.out, hrs.out] at hN
      have hS7 : Hid (St w V2 (rwl u1 R :: rwl u2 R :: cel c1 p (n : Nat) l s f rs tk :: cel c2 p (n : Nat) l s f rs tk :: [])) := ((((hN.re [2, 0, 3, 1] 4).rm 6).rm 5).rm 4)
      have hlabs : Hid (LabE (2 ^ n) R) := by
        have h : LabE (2 ^ n) R := by
          rw [← hR.out]
          exact (labE_all _ _ (labE_nil _) (fun x hx => hW2.out.2.2.2.2.2.2.2 x (List.mem_of_mem_take hx))).2
        exact h
      have htl : tk.length ≤ 25 := by rw [← htk.out]; simp; omega
      clear hN hS6 hW hW2 hkk' hR htk hrs hwl
      obtain ⟨ra, rc, rfl⟩ := own_len' hS7.out.rw
      obtain ⟨M, hM⟩ : ∃ M, Hid (R.length = M) := ⟨_, rfl⟩
      rw [hM.out] at hS7
      rw [hM.out]
      have hRl : M ≤ 9223372036854775807 := by
        have h := rdr_own (hS7.out.rw (W0 := w) |> fun h => by rw [← hM.out] at h; exact h)
        rw [← hM.out]; exact h.1
      go_wp2_with fail
      go_loopw [71] (fun i wr => ∃ (j : Nat), j ≤ M ∧ i = .int .i64 j ∧ Hid (St w wr (rwl (.slice ra M rc) R :: rwl u2 R :: cel c1 p (n : Nat) l s f rs tk :: cel c2 p (n : Nat) l s f rs tk :: []))) (fun i _ => M - (intOf i).toNat)
      case atStart => exact ⟨0, Nat.zero_le _, rfl, hS7⟩
      case round =>
        obtain ⟨j, hj, rfl, hS8⟩ := hrel
        clear hS7
        by_cases hlt : j < M
        · obtain ⟨g, off, rfl, hin⟩ := hS8.out.rowAt (v := ra) (n := M) (c := rc) (R := R) (by simp) j (by rw [hM.out]; exact hlt)
          obtain ⟨x, hx⟩ : ∃ x, Hid (pAt R j = x) := ⟨_, rfl⟩
          have hxl : Hid (x.l = 2 ^ n) := by
            have h : x.l = 2 ^ n := by rw [← hx.out]; exact hlabs.out _ (pAt_mem R j (by rw [hM.out]; exact hlt))
            exact h
          rw [hx.out] at hin
          obtain ⟨d0, d1, d2, d3, d4⟩ := hin
          go_upto_region 20 with fail
          clear d0 d1 d2 d3 d4
          refine world_gen (fun X => Hid (Rok X wr.heap.size x) ∧ Hid (St w X (rwl (.slice (some ⟨g, off, none⟩) M rc) R :: rwl u2 R :: cel c1 p (n : Nat) l s f rs tk :: cel c2 p (n : Nat) l s f rs tk :: []))) ⟨rok_new _ _, hS8.out.below (below_alloc _ _)⟩ ?_
          clear hS8
          generalize wr.heap.size = g1
          rintro V4 ⟨hK, hS⟩
          refine wp_region_held_drew (S := fun X => Rok X g1 x) (by kernel_rfl) hK.out (fun hHeld => ?_)
          have hT : Hid (St w V4.drew (rwl (.slice (some ⟨g, off, none⟩) M rc) R :: rwl u2 R :: cel c1 p (n : Nat) l s f rs tk :: cel c2 p (n : Nat) l s f rs tk :: [])) := hS.out.below (Below.refl _ _).drew
          clear hS
          clear hK
          generalize V4.drew = V at hHeld hT ⊢
          have hS := hT
          clear hT
          refine take_at (i := 0) (v := .pointer (some ⟨g1, 4, none⟩)) rfl rfl (by kernel_rfl) (by kernel_rfl) (by kernel_rfl) (fun _ _ _ h => h) (Or.inl ⟨by rfl, fun X _ => by go_simp⟩) hHeld ?_
          try simp only [Act.put, List.setIfInBounds_toArray, List.set_cons_zero, List.set_cons_succ]
          refine take_at (i := 1) (v := .int .u64 ((2 ^ n : Nat) : Int)) rfl rfl (by kernel_rfl) (by kernel_rfl) (by kernel_rfl) (fun _ _ _ h => h) (Or.inl ⟨by rfl, fun X hX => by have k := hX.c.2.2.2.2; rw [hxl.out] at k; simp only [Nat.zero_add] at k; go_simp⟩) hHeld ?_
          try simp only [Act.put, List.setIfInBounds_toArray, List.set_cons_zero, List.set_cons_succ]
          refine take_at (i := 2) (v := .int .i64 (n : Nat)) rfl rfl (by kernel_rfl) (by kernel_rfl) (by kernel_rfl) (fun _ _ _ h => h) (Or.inl ⟨by rfl, fun X _ => by go_simp⟩) hHeld ?_
          try simp only [Act.put, List.setIfInBounds_toArray, List.set_cons_zero, List.set_cons_succ]
          refine take_at (i := 3) (v := .int .u64 ((2 ^ n : Nat) : Int)) rfl rfl (by kernel_rfl) (by kernel_rfl) (by kernel_rfl) (fun _ _ _ h => h) (Or.inl ⟨by rfl, fun X _ => by have hw := wrap_two n hn; go_simp; try exact hw⟩) hHeld ?_
          try simp only [Act.put, List.setIfInBounds_toArray, List.set_cons_zero, List.set_cons_succ]
          refine take_at (i := 4) (v := .bool false) rfl rfl (by kernel_rfl) (by kernel_rfl) (by kernel_rfl) (fun _ _ _ h => h) (Or.inl ⟨by rfl, fun X _ => by go_simp⟩) hHeld ?_
          try simp only [Act.put, List.setIfInBounds_toArray, List.set_cons_zero, List.set_cons_succ]
          refine wpAnyH_done (by kernel_rfl) ?_ _
          clear hHeld
          go_wp2_with fail
          go_roundw
          case rel => exact ⟨j + 1, by omega, by go_num, hS⟩
          case measure => simp [intOf]; omega
        · have h1 := rdr_own (hS8.out.rwAt (v := .slice ra M rc) (R := R) (by simp))
          have h2 := rdr_own (hS8.out.rwAt (v := u2) (R := R) (by simp))
          clear hlabs hS'
          go_wp2_with fail
          refine (same_r (.slice ra M rc) u2 R _ h1 h2).mono ?_
          rintro e V5 ⟨rfl, hb5⟩
          have hS9 : Hid (St w V5 (cel c1 p (n : Nat) l s f rs tk :: cel c2 p (n : Nat) l s f rs tk :: [])) := (hS8.out.below hb5).drop.drop
          clear h1 h2 hb5 hS8
          go_wp2_with fail
          refine (takenl_is _ hS9.out (by omega)).mono ?_
          rintro e V6 ⟨t1, rfl, hN, _⟩
          have hS10 : Hid (St w V6 (cel c2 p (n : Nat) l s f rs tk :: inl t1 tk :: [])) := (hN.re [2, 0, 1] 3).rm 2
          clear hN hS9
          go_wp2_with fail
          refine (takenl_is _ hS10.out (by omega)).mono ?_
          rintro e V7 ⟨t2, rfl, hN, _⟩
          obtain ⟨q1, hl1⟩ := hN.qvAt (v := t1) (is := tk) (by simp)
          obtain ⟨q2, hl2⟩ := hN.qvAt (v := t2) (is := tk) (by simp)
          obtain ⟨b1, hr1, _, _⟩ := q1.rdi hl1 0
          obtain ⟨b2, hr2, _, _⟩ := q2.rdi hl2 0
          have hB : Hid (Below w.heap.size w V7) := hN.b
          clear hS10 hN q1 q2
          go_wp2_with fail
          refine (same_i t1 t2 b1 b2 tk _ hr1 hr2).mono ?_
          rintro e V8 ⟨rfl, hb8⟩
          have hB8 : Hid (Below w.heap.size w V8) := below_call hB.out hb8
          clear hr1 hr2 hB hb8
          go_wp2_with fail
          refine (runs_is _).mono ?_
          rintro e V9 ⟨rfl, hb9⟩
          have hB9 : Hid (Below w.heap.size w V9) := below_call hB8.out hb9
          clear hB8 hb9
          go_wp2_with fail
          go_ret
          exact ⟨rfl, hB9.out⟩
end Go.Proofs.Ytnamjnopicghhaa
