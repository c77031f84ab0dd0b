/- CellPlays: any calls, with the document's own rows. -/
import Derived.Test.YtnamjnopicghhaaPlaysAll
import Derived.Deep.QuietTactic
import Derived.Deep.CutRange
import Derived.Deep.Light
import Derived.BigQuiet
namespace Go.Proofs.Ytnamjnopicghhaa
open Go.RowKit M
open O (Small Ints kv Kpk Pik)
open O.MO (Oq Pq rightP)
set_option linter.unusedVariables false
set_option linter.unusedSimpArgs false
attribute [local go_sem ↓] Go.wp_at_zero Go.wp_at_succ

/-- What stands in the round. -/
def Ip (mo : Int) (j : Nat) (l s f : Int) (wait taken : List Inp) : Prop := 0 ≤ l ∧ l ≤ 30 ∧ s + l = mo ∧ 0 ≤ s ∧ mo ≤ 30 ∧ 0 ≤ f ∧ f ≤ j ∧ wait.length + taken.length ≤ j
theorem ip_off {mo : Int} {n j : Nat} {room l s f l' s' f' E : Int} {wait wait' taken : List Inp} {x : Inp} (h : Ip mo j l s f wait taken) (hE : Off n room x l s f wait E l' s' f' wait') : Ip mo (j + 1) l' s' f' wait' taken := by
  obtain ⟨h1, h2, h3, h4, h5, h6, h7, h8⟩ := h
  unfold Ip
  rcases hE with ⟨_, _, rfl, rfl, rfl, rfl⟩ | ⟨_, _, _, rfl, rfl, rfl, rfl⟩ | ⟨_, _, _, _, rfl, rfl, rfl, rfl⟩ | ⟨_, _, _, _, rfl, rfl, rfl, rfl⟩
  · exact ⟨by omega, by omega, by omega, by omega, by omega, by omega, by omega, by omega⟩
  · exact ⟨by omega, by omega, by omega, by omega, by omega, by omega, by omega, by omega⟩
  · exact ⟨by omega, by omega, by omega, by omega, by omega, by omega, by omega, by omega⟩
  · exact ⟨by omega, by omega, by omega, by omega, by omega, by omega, by omega, by simp; omega⟩
theorem ip_mono {mo : Int} {j : Nat} {l s f : Int} {wait taken : List Inp} (h : Ip mo j l s f wait taken) : Ip mo (j + 1) l s f wait taken := by
  obtain ⟨h1, h2, h3, h4, h5, h6, h7, h8⟩ := h
  exact ⟨h1, h2, h3, h4, h5, h6, by omega, by omega⟩
set_option maxHeartbeats 8000000 in
set_option maxRecDepth 100000 in
theorem cellPlays_walk (k : KeepIn) (id most : Int) (la : Option Addr) (ll lc : Nat) (w : World) (hk : IsKeep w k) (hid : (Lit.int .i64 id).wf = true) (hmost : (Lit.int .i64 most).wf = true) (hA : IsAsks w la ll lc) :
    Calls Try.prog 4 #[kin k, .int .i64 id, .int .i64 most, .slice la ll lc] w fun e w' => e = .returned (.bool true) ∧ Below w.heap.size w w' := by
  obtain ⟨ao, lo, co, an, ln, cn, kn, ks, kg, kk, kf⟩ := k
  unfold kin
  obtain ⟨hk1, hk2⟩ := hk
  simp only at hk1 hk2
  have hA' : Hid (IsAsks w la ll lc) := hA
  have hll := hA.1
  clear hA hid hmost
  go_enter Try.func4, Try.ntmps4
  go_upto_region 1 with fail
  refine world_gen (fun W => Hid (Kpk W w.heap.size (.slice ao lo co) (.slice an ln cn) kn ks kg kk kf) ∧ Hid (Ints W ao lo co) ∧ Hid (Ints W an ln cn) ∧ Hid (St w W [])) ⟨O.kpk_new _ _ _ _ _ _ _ _, hk1.call (below_alloc _ _), hk2.call (below_alloc _ _), (st_start w).below (below_alloc _ _)⟩ ?_
  clear hk1 hk2
  rintro W ⟨hK, hk1, hk2, hB⟩
  generalize w.heap.size = g0 at hK ⊢
  have c0 := hK.out.c0
  have c1 := hK.out.c1
  have c2 := hK.out.c2
  have c3 := hK.out.c3
  have c4 := hK.out.c4
  have c5 := hK.out.c5
  have c6 := hK.out.c6
  go_wp2_with fail
  refine (kpipe_st ao lo co an ln cn kn ks kg kk kf _ hB.out hk1.out hk2.out).mono ?_
  rintro e W1 ⟨p, ua, uc, hSm, rfl, hS1, _⟩
  have hS' : Hid (Small p) := hSm
  have hS : Hid (St w W1 (opT (.slice ua p.os.length uc) p.os :: [])) := hS1
  clear hK hk1 hk2 c0 c1 c2 c3 c4 c5 c6 hB hS1 hSm
  go_upto_region 2 with fail
  refine world_gen (fun X => Hid (St w X (pkT W1.heap.size (.slice ua p.os.length uc) p :: opT (.slice ua p.os.length uc) p.os :: []))) (hS.out.newBlk _ _ rfl) ?_
  clear hS
  generalize W1.heap.size = gp
  rintro W hS
  go_wp2_with fail
  refine (O.within_any id 0 7 _ (by decide) (by decide) (by decide)).mono ?_
  rintro e W' ⟨⟨i, hi0, hi7, rfl⟩, he⟩; obtain rfl := he.symm; clear he
  obtain ⟨n, rfl⟩ := Int.eq_ofNat_of_zero_le hi0
  have hn : n < 8 := by go_light; omega
  go_wp2_with fail
  refine (O.within_any most 0 30 _ (by decide) (by decide) (by decide)).mono ?_
  rintro e W' ⟨⟨mo, hm0, hm30, rfl⟩, he⟩; obtain rfl := he.symm; clear he
  have hk : O.Pik W gp (.slice ua p.os.length uc) p.n p.s p.a p.k p.f := hS.out.blk
  have c0 := hk.c0
  have c1 := hk.c1
  have c2 := hk.c2
  have c3 := hk.c3
  have c4 := hk.c4
  have c5 := hk.c5
  clear hk
  go_wp2_with fail
  refine (cnew_is (p := p) (.slice ua p.os.length uc) (n : Nat) mo mo _ hS.out (hS.out.opAt (by simp)) (small_new hS'.out).1 (small_new hS'.out).2.1 ⟨by go_light; omega, by go_light; omega⟩ (.inl ⟨hm0, rfl⟩)).mono ?_
  rintro e V1 ⟨c, rfl, hN⟩
  have hS1 : Hid (St w V1 (cel c p (n : Nat) mo 0 0 [] [] :: pkT gp (.slice ua p.os.length uc) p :: opT (.slice ua p.os.length uc) p.os :: [])) := hN
  clear hN hS c0 c1 c2 c3 c4 c5
  have hk : O.Pik V1 gp (.slice ua p.os.length uc) p.n p.s p.a p.k p.f := hS1.out.blkAt (by simp)
  have c0 := hk.c0
  have c1 := hk.c1
  have c2 := hk.c2
  have c3 := hk.c3
  have c4 := hk.c4
  have c5 := hk.c5
  clear hk
  go_wp2_with fail
  refine (cnew_id (.slice ua p.os.length uc) p.n p.s p.a p.k p.f (-1) mo _ (.inl (by decide))).mono ?_
  rintro e V2 ⟨rfl, hb⟩
  have hS2 : Hid (St w V2 (cel c p (n : Nat) mo 0 0 [] [] :: pkT gp (.slice ua p.os.length uc) p :: opT (.slice ua p.os.length uc) p.os :: [])) := hS1.out.below hb
  clear hS1 hb c0 c1 c2 c3 c4 c5
  have hk : O.Pik V2 gp (.slice ua p.os.length uc) p.n p.s p.a p.k p.f := hS2.out.blkAt (by simp)
  have c0 := hk.c0
  have c1 := hk.c1
  have c2 := hk.c2
  have c3 := hk.c3
  have c4 := hk.c4
  have c5 := hk.c5
  clear hk
  go_wp2_with fail
  refine (cnew_id (.slice ua p.os.length uc) p.n p.s p.a p.k p.f 8 mo _ (.inr (by decide))).mono ?_
  rintro e V3 ⟨rfl, hb⟩
  have hS3 : Hid (St w V3 (cel c p (n : Nat) mo 0 0 [] [] :: pkT gp (.slice ua p.os.length uc) p :: opT (.slice ua p.os.length uc) p.os :: [])) := hS2.out.below hb
  clear hS2 hb c0 c1 c2 c3 c4 c5
  go_wp2_with fail
  refine (cnew_no (.slice none 0 0) [] 0 0 0 0 0 (n : Nat) mo _ (opsIn_nil _) (by decide) ⟨by go_light; omega, by go_light; omega⟩).mono ?_
  rintro e V4 ⟨rfl, hb⟩
  have hS4 : Hid (St w V4 (cel c p (n : Nat) mo 0 0 [] [] :: inl (.slice none 0 0) [] :: inl (.slice none 0 0) [] :: pkT gp (.slice ua p.os.length uc) p :: opT (.slice ua p.os.length uc) p.os :: [])) := by
    have h : St w V4 (cel c p (n : Nat) mo 0 0 [] [] :: inl (.slice none 0 0) [] :: inl (.slice none 0 0) [] :: pkT gp (.slice ua p.os.length uc) p :: opT (.slice ua p.os.length uc) p.os :: []) :=
      (((hS3.out.below hb).newl (Below.refl _ _) (qv_nil _) Labl.nil (fun k hk => by cases hk)).newl (Below.refl _ _) (qv_nil _) Labl.nil (fun k hk => by cases hk)).re [2, 0, 1] 3
    exact h
  clear hS3 hb
  have hrb : Hid (rightB p.n p.s = true) := (small_new hS'.out).2.2.2
  have hnb : Hid (-1099511627776 ≤ p.n ∧ p.n ≤ 1099511627776) := by
    have h : -1099511627776 ≤ p.n ∧ p.n ≤ 1099511627776 := by
      obtain ⟨h1, h2, h3, h4, h5, h6, _⟩ := hS'.out
      omega
    exact h
  have hos : Hid (p.os.length ≤ 1000) := (small_new hS'.out).2.1
  clear hS'
  go_wp2_with fail
  go_loopw [12, 13, 14, 15, 16, 17] (fun cv wv tv lv fv i wr => ∃ (c j : Nat) (l s f : Int) (wait taken : List Inp), cv = .pointer (some ⟨c, 0, none⟩) ∧ lv = .int .i64 l ∧ fv = .int .i64 f ∧ i = .int .i64 j ∧ j ≤ 40 ∧ Hid (Ip mo j l s f wait taken) ∧ Hid (St w wr (cel c p (n : Nat) l s f wait taken :: inl wv wait :: inl tv taken :: pkT gp (.slice ua p.os.length uc) p :: opT (.slice ua p.os.length uc) p.os :: []))) (fun _ _ _ _ _ i _ => 40 - (intOf i).toNat)
  case atStart => exact ⟨c, 0, mo, 0, 0, [], [], rfl, rfl, rfl, rfl, by decide, ⟨hm0, hm30, by go_light; omega, by decide, hm30, by decide, by decide, by simp⟩, hS4⟩
  case round =>
    clear hS4
    obtain ⟨c, j, l, s, f, wait, taken, rfl, rfl, rfl, rfl, hj40, hI, hS5⟩ := hrel
    by_cases hlt : j < ll
    · by_cases h40 : j < 40
      · obtain ⟨g, off, q, rfl, hq, hxl, hwn, hwm⟩ := hA'.out.at hS5.out.b j hlt
        obtain ⟨kd, qn, qm, x⟩ := q
        simp only at hxl hwn hwm
        obtain ⟨d0, d1, d2, d3, d4, d5, d6, d7⟩ := hq
        simp only at d0 d1 d2 d3 d4 d5 d6 d7
        have hxl' : Hid (x.e.l < 18446744073709551616) := hxl
        have hqn : Hid (-9223372036854775808 ≤ qn ∧ qn ≤ 9223372036854775807) := bounds_i64 hwn
        have hqm : Hid (-9223372036854775808 ≤ qm ∧ qm ≤ 9223372036854775807) := bounds_i64 hwm
        clear hxl hwn hwm
        go_upto_region 12 with fail
        clear d0 d1 d2 d3 d4 d5 d6 d7
        refine world_gen (fun X => Hid (St w X (askT wr.heap.size ⟨kd, qn, qm, x⟩ :: cel c p (n : Nat) l s f wait taken :: inl u13 wait :: inl u14 taken :: pkT gp (.slice ua p.os.length uc) p :: opT (.slice ua p.os.length uc) p.os :: []))) (hS5.out.newBlk _ _ rfl) ?_
        clear hS5
        generalize wr.heap.size = g18
        rintro V5 hS6
        obtain ⟨d0, d1, d2, d3, d4, d5, d6, d7⟩ := (show Akk V5 g18 ⟨kd, qn, qm, x⟩ from hS6.out.blk).c
        simp only [Nat.zero_add] at d0 d1 d2 d3 d4 d5 d6 d7
        go_upto_region 13 with fail
        clear d0 d1 d2 d3 d4 d5 d6 d7
        refine world_gen (fun X => Hid (St w X (inkT V5.heap.size x :: askT g18 ⟨kd, qn, qm, x⟩ :: cel c p (n : Nat) l s f wait taken :: inl u13 wait :: inl u14 taken :: pkT gp (.slice ua p.os.length uc) p :: opT (.slice ua p.os.length uc) p.os :: []))) (hS6.out.newBlk _ _ rfl) ?_
        clear hS6
        generalize V5.heap.size = g19
        rintro V6 hS7
        obtain ⟨d0, d1, d2, d3, d4, d5, d6, d7⟩ := (show Akk V6 g18 ⟨kd, qn, qm, x⟩ from hS7.out.blkAt (by simp)).c
        simp only [Nat.zero_add] at d0 d1 d2 d3 d4 d5 d6 d7
        go_upto_block 2 with fail
        clear d0 d1 d2 d3 d4 d5 d6 d7
        go_cut [12, 13, 14, 15, 16] from 64 to 290 (fun cv wv tv lv fv wx => ∃ (c' : Nat) (l' s' f' : Int) (wait' taken' : List Inp), cv = .pointer (some ⟨c', 0, none⟩) ∧ lv = .int .i64 l' ∧ fv = .int .i64 f' ∧ Hid (Ip mo (j + 1) l' s' f' wait' taken') ∧ Hid (St w wx (cel c' p (n : Nat) l' s' f' wait' taken' :: inl wv wait' :: inl tv taken' :: pkT gp (.slice ua p.os.length uc) p :: opT (.slice ua p.os.length uc) p.os :: [])))
        case first =>
          by_cases h1 : kd = 1
          · subst h1
            as_aux_lemma =>
              obtain ⟨hl0, hl30, hsum, hs0, hs30, hf0, hfj, hwt⟩ := hI.out
              obtain ⟨sa, sc, rfl, hwc1, hwc2, hwc3⟩ := (hS7.out.qvAt (v := u13) (is := wait) (List.Mem.tail _ (List.Mem.tail _ (List.Mem.tail _ (List.Mem.head _))))).1.len
              obtain ⟨d0, d1, d2, d3, d4, d5, d6, d7⟩ := (hS7.out.akAt (b := g18) (q := ⟨1, qn, qm, x⟩) (List.Mem.tail _ (List.Mem.head _))).c
              simp only [Nat.zero_add] at d0 d1 d2 d3 d4 d5 d6 d7
              obtain ⟨k0, k1, k2, k3, k4⟩ := (hS7.out.ikAt (b := g19) (i := x) (List.Mem.head _)).c
              simp only [Nat.zero_add] at k0 k1 k2 k3 k4
              go_wp2_with fail
              refine (O.within_any qn 0 6 _ (by decide) (by decide) (by decide)).mono ?_
              rintro e W' ⟨⟨room, hr0, hr6, rfl⟩, he⟩; obtain rfl := he.symm; clear he
              go_upto_region 17 with fail
              clear d0 d1 d2 d3 d4 d5 d6 d7
              clear k0 k1 k2 k3 k4
              refine world_gen (fun X => Hid (St w X (evT V6.heap.size x.e :: inkT g19 x :: askT g18 ⟨1, qn, qm, x⟩ :: cel c p (n : Nat) l s f wait taken :: inl (.slice sa wait.length sc) wait :: inl u14 taken :: pkT gp (.slice ua p.os.length uc) p :: opT (.slice ua p.os.length uc) p.os :: []))) (hS7.out.newBlk _ _ rfl) ?_
              clear hS7
              generalize V6.heap.size = g21
              rintro V7 hS8
              have hK7 : Evk V7 g21 x.e := hS8.out.blk
              obtain ⟨e0, e1, e2, e3⟩ := hK7.c
              have f3 := hK7.free' 3
              have hE8 : Evk (V7.setCell ⟨g21, 3, none⟩ (.int .u64 (IntKind.u64.wrap (2 ^ n)))) g21 ⟨x.e.t, x.e.k, x.e.v, 2 ^ n⟩ := by
                have h := hK7.setl (2 ^ n)
                rw [← wrap_two n hn] at h
                exact h
              have hS9 : Hid (St w (V7.setCell ⟨g21, 3, none⟩ (.int .u64 (IntKind.u64.wrap (2 ^ n)))) (evT g21 ⟨x.e.t, x.e.k, x.e.v, 2 ^ n⟩ :: inkT g19 x :: askT g18 ⟨1, qn, qm, x⟩ :: cel c p (n : Nat) l s f wait taken :: inl (.slice sa wait.length sc) wait :: inl u14 taken :: pkT gp (.slice ua p.os.length uc) p :: opT (.slice ua p.os.length uc) p.os :: [])) := hS8.out.setB 3 _ hE8
              clear hK7 hE8 hS8
              go_upto_region 18 with fail
              clear e0 e1 e2 e3 f3
              generalize V7.setCell ⟨g21, 3, none⟩ (.int .u64 (IntKind.u64.wrap (2 ^ n))) = V8 at *
              obtain ⟨ok, hok⟩ : ∃ b, Hid (okO x = b) := ⟨_, rfl⟩
              obtain ⟨z, hz⟩ : ∃ z, Hid (ownI n x = z) := ⟨_, rfl⟩
              obtain ⟨bm, hbm⟩ : ∃ b, Hid (x.mrk = b) := ⟨_, rfl⟩
              obtain ⟨E, l2, s2, f2, wait2, hE⟩ := off_ex n room x l s f wait
              have hE' : Hid (Off n room x l s f wait E l2 s2 f2 wait2) := hE
              clear hE
              go_cut [22] from 92 to 109 (fun y wx => y = .bool (decide ((0 ≤ x.e.t ∧ x.e.t ≤ 1099511627776) ∧ (0 ≤ x.e.k ∧ x.e.k ≤ 255))) ∧ wx = V8)
              case first =>
                obtain ⟨e0, e1, e2, e3⟩ := (show Evk V8 g21 ⟨x.e.t, x.e.k, x.e.v, 2 ^ n⟩ from hS9.out.blk).c
                simp only at e0 e1 e2 e3
                rcases (Int.lt_or_le (x.e.t) (0)).symm with a0 | a0
                · rcases (Int.lt_or_le (1099511627776) (x.e.t)).symm with a1 | a1
                  · rcases (Int.lt_or_le (x.e.k) (0)).symm with a2 | a2
                    · rcases (Int.lt_or_le (255) (x.e.k)).symm with a3 | a3
                      · go_wp2_with fail
                        refine Met.intro ?_
                        go_step
                        refine And.left (b := True) ?_
                        go_big_round
                        refine ⟨?_, trivial⟩
                        have hd : decide ((0 ≤ x.e.t ∧ x.e.t ≤ 1099511627776) ∧ (0 ≤ x.e.k ∧ x.e.k ≤ 255)) = true := decide_eq_true (by go_light; omega)
                        refine ⟨?_, rfl⟩
                        rewrite [hd]
                        first | with_reducible rfl | exact congrArg Value.bool (decide_eq_true (by go_light; omega))
                      · go_wp2_with fail
                        refine Met.intro ?_
                        go_step
                        refine And.left (b := True) ?_
                        go_big_round
                        refine ⟨?_, trivial⟩
                        have hd : decide ((0 ≤ x.e.t ∧ x.e.t ≤ 1099511627776) ∧ (0 ≤ x.e.k ∧ x.e.k ≤ 255)) = false := decide_eq_false (by go_light; omega)
                        refine ⟨?_, rfl⟩
                        rewrite [hd]
                        first | with_reducible rfl | exact congrArg Value.bool (decide_eq_false (by go_light; omega))
                    · go_wp2_with fail
                      refine Met.intro ?_
                      go_step
                      refine And.left (b := True) ?_
                      go_big_round
                      refine ⟨?_, trivial⟩
                      have hd : decide ((0 ≤ x.e.t ∧ x.e.t ≤ 1099511627776) ∧ (0 ≤ x.e.k ∧ x.e.k ≤ 255)) = false := decide_eq_false (by go_light; omega)
                      refine ⟨?_, rfl⟩
                      rewrite [hd]
                      first | with_reducible rfl | exact congrArg Value.bool (decide_eq_false (by go_light; omega))
                  · go_wp2_with fail
                    refine Met.intro ?_
                    go_step
                    refine And.left (b := True) ?_
                    go_big_round
                    refine ⟨?_, trivial⟩
                    have hd : decide ((0 ≤ x.e.t ∧ x.e.t ≤ 1099511627776) ∧ (0 ≤ x.e.k ∧ x.e.k ≤ 255)) = false := decide_eq_false (by go_light; omega)
                    refine ⟨?_, rfl⟩
                    rewrite [hd]
                    first | with_reducible rfl | exact congrArg Value.bool (decide_eq_false (by go_light; omega))
                · go_wp2_with fail
                  refine Met.intro ?_
                  go_step
                  refine And.left (b := True) ?_
                  go_big_round
                  refine ⟨?_, trivial⟩
                  have hd : decide ((0 ≤ x.e.t ∧ x.e.t ≤ 1099511627776) ∧ (0 ≤ x.e.k ∧ x.e.k ≤ 255)) = false := decide_eq_false (by go_light; omega)
                  refine ⟨?_, rfl⟩
                  rewrite [hd]
                  first | with_reducible rfl | exact congrArg Value.bool (decide_eq_false (by go_light; omega))
              obtain ⟨rfl, he⟩ := hcut
              obtain rfl := he.symm
              clear he
              obtain ⟨k0, k1, k2, k3, k4⟩ := (hS9.out.ikAt (b := g19) (i := x) (List.Mem.tail _ (List.Mem.head _))).c
              simp only [Nat.zero_add] at k0 k1 k2 k3 k4
              rw [hbm.out] at k0
              go_upto_if 111 with fail
              clear k0 k1 k2 k3 k4
              go_cut [22] from 110 to 119 (fun y wx => y = .bool ok ∧ Hid (St w wx (evT g21 z.e :: inkT g19 x :: askT g18 ⟨1, qn, qm, x⟩ :: cel c p (n : Nat) l s f wait taken :: inl (.slice sa wait.length sc) wait :: inl u14 taken :: pkT gp (.slice ua p.os.length uc) p :: opT (.slice ua p.os.length uc) p.os :: [])))
              case first =>
                cases bm with
                | false =>
                  have h : z = ⟨false, ⟨x.e.t, x.e.k, x.e.v, 2 ^ n⟩⟩ := by
                    rw [← hz.out]; unfold ownI; rw [if_neg (by rw [hbm.out]; decide)]
                  have ho : decide ((0 ≤ x.e.t ∧ x.e.t ≤ 1099511627776) ∧ (0 ≤ x.e.k ∧ x.e.k ≤ 255)) = ok := by
                    rw [← hok.out]; unfold okO; rw [if_neg (by rw [hbm.out]; decide)]
                  rw [ho]
                  go_wp2_with fail
                  refine Met.intro ?_
                  go_step
                  refine And.left (b := True) ?_
                  go_big_round
                  refine ⟨?_, trivial⟩
                  refine ⟨rfl, ?_⟩
                  rw [h]; exact hS9
                | true =>
                  have h : z = ⟨true, ⟨x.e.t, 0, 0, 0⟩⟩ := by
                    rw [← hz.out]; unfold ownI; rw [if_pos (by rw [hbm.out])]
                  have ho : decide (1 ≤ x.e.t ∧ x.e.t ≤ 1099512676352) = ok := by
                    rw [← hok.out]; unfold okO; rw [if_pos (by rw [hbm.out])]
                  obtain ⟨e0, e1, e2, e3⟩ := (show Evk V8 g21 ⟨x.e.t, x.e.k, x.e.v, 2 ^ n⟩ from hS9.out.blk).c
                  simp only at e0 e1 e2 e3
                  rcases (Int.lt_or_le (x.e.t) (1)).symm with a0 | a0
                  · rcases (Int.lt_or_le (1099512676352) (x.e.t)).symm with a1 | a1
                    · go_wp2_with (refine wpList_store_E rfl _ _ rfl g21 ⟨x.e.t, x.e.k, x.e.v, 2 ^ n⟩ ⟨x.e.t, 0, 0, 0⟩ rfl rfl hS9.out ?_; intro V9 hN)
                      try simp only [Act.put, List.setIfInBounds_toArray, List.set_cons_zero, List.set_cons_succ]
                      refine Met.intro ?_
                      go_step
                      refine And.left (b := True) ?_
                      go_big_round
                      refine ⟨?_, trivial⟩
                      have hd : true = ok := by rw [← ho]; exact (decide_eq_true (by go_light; omega)).symm
                      refine ⟨?_, by rw [h]; exact hN⟩
                      rewrite [← hd]
                      first | with_reducible rfl | exact congrArg Value.bool (decide_eq_true (by go_light; omega))
                    · go_wp2_with (refine wpList_store_E rfl _ _ rfl g21 ⟨x.e.t, x.e.k, x.e.v, 2 ^ n⟩ ⟨x.e.t, 0, 0, 0⟩ rfl rfl hS9.out ?_; intro V9 hN)
                      try simp only [Act.put, List.setIfInBounds_toArray, List.set_cons_zero, List.set_cons_succ]
                      refine Met.intro ?_
                      go_step
                      refine And.left (b := True) ?_
                      go_big_round
                      refine ⟨?_, trivial⟩
                      have hd : false = ok := by rw [← ho]; exact (decide_eq_false (by go_light; omega)).symm
                      refine ⟨?_, by rw [h]; exact hN⟩
                      rewrite [← hd]
                      first | with_reducible rfl | exact congrArg Value.bool (decide_eq_false (by go_light; omega))
                  · go_wp2_with (refine wpList_store_E rfl _ _ rfl g21 ⟨x.e.t, x.e.k, x.e.v, 2 ^ n⟩ ⟨x.e.t, 0, 0, 0⟩ rfl rfl hS9.out ?_; intro V9 hN)
                    try simp only [Act.put, List.setIfInBounds_toArray, List.set_cons_zero, List.set_cons_succ]
                    refine Met.intro ?_
                    go_step
                    refine And.left (b := True) ?_
                    go_big_round
                    refine ⟨?_, trivial⟩
                    have hd : false = ok := by rw [← ho]; exact (decide_eq_false (by go_light; omega)).symm
                    refine ⟨?_, by rw [h]; exact hN⟩
                    rewrite [← hd]
                    first | with_reducible rfl | exact congrArg Value.bool (decide_eq_false (by go_light; omega))
              obtain ⟨rfl, hS10⟩ := hcut
              clear hS9
              go_upto_block 3 with fail
              go_cut [23] from 120 to 139 (fun y wx => y = .int .i64 E ∧ wx = wc)
              case first =>
                rcases hE'.out with ⟨o1, e1, _⟩ | ⟨o1, o2, e1, _⟩ | ⟨o1, o2, o3, e1, _⟩ | ⟨o1, o2, o3, e1, _⟩
                · obtain rfl : ok = false := hok.out.symm.trans o1
                  go_wp2_with fail
                  refine Met.intro ?_
                  go_step
                  refine And.left (b := True) ?_
                  go_big_round
                  refine ⟨?_, trivial⟩
                  exact ⟨by rw [e1], rfl⟩
                · obtain rfl : ok = true := hok.out.symm.trans o1
                  subst o2
                  go_wp2_with fail
                  refine Met.intro ?_
                  go_step
                  refine And.left (b := True) ?_
                  go_big_round
                  refine ⟨?_, trivial⟩
                  exact ⟨by rw [e1], rfl⟩
                · obtain rfl : ok = true := hok.out.symm.trans o1
                  have o4 : (l == 0) = false := by simpa using o2
                  have o5 : room ≤ ((wait.length : Nat) : Int) := by go_light; omega
                  go_wp2_with fail
                  refine Met.intro ?_
                  go_step
                  refine And.left (b := True) ?_
                  go_big_round
                  refine ⟨?_, trivial⟩
                  exact ⟨by rw [e1], rfl⟩
                · obtain rfl : ok = true := hok.out.symm.trans o1
                  have o4 : (l == 0) = false := by simpa using o2
                  have o5 : ((wait.length : Nat) : Int) < room := by go_light; omega
                  go_wp2_with fail
                  refine Met.intro ?_
                  go_step
                  refine And.left (b := True) ?_
                  go_big_round
                  refine ⟨?_, trivial⟩
                  exact ⟨by rw [e1], rfl⟩
              obtain ⟨rfl, he⟩ := hcut
              obtain rfl := he.symm
              clear he
              obtain ⟨k0, k1, k2, k3, k4⟩ := (hS10.out.ikAt (b := g19) (i := x) (List.Mem.tail _ (List.Mem.head _))).c
              simp only [Nat.zero_add] at k0 k1 k2 k3 k4
              go_wp2_with fail
              refine (offer_is room x _ (hS10.out.re [3, 0, 1, 2] 4) hn ⟨hl0, by go_light; omega⟩ ⟨hs0, by go_light; omega⟩ ⟨hf0, by go_light; omega⟩ (by go_light; omega) E l2 s2 f2 wait2 hE'.out).mono ?_
              rintro e V9 ⟨rfl, hN⟩
              have hS11 : Hid (St w V9 (cel c p (n : Nat) l2 s2 f2 wait2 taken :: evT g21 z.e :: inkT g19 x :: askT g18 ⟨1, qn, qm, x⟩ :: inl (.slice sa wait.length sc) wait :: inl u14 taken :: pkT gp (.slice ua p.os.length uc) p :: opT (.slice ua p.os.length uc) p.os :: [])) := hN
              have hI2 : Hid (Ip mo (j + 1) l2 s2 f2 wait2 taken) := ip_off hI.out hE'.out
              have hEc : (0 = E ∧ l - 1 = l2 ∧ s + 1 = s2 ∧ f = f2 ∧ wait ++ [z] = wait2) ∨ ((1 = E ∨ 4 = E ∨ 3 = E) ∧ l = l2 ∧ s = s2 ∧ f + 1 = f2 ∧ wait = wait2) := by
                have hzz := hz.out
                rcases hE'.out with ⟨_, e1, e2, e3, e4, e5⟩ | ⟨_, _, e1, e2, e3, e4, e5⟩ | ⟨_, _, _, e1, e2, e3, e4, e5⟩ | ⟨_, _, _, e1, e2, e3, e4, e5⟩
                · exact .inr ⟨.inl e1.symm, e2.symm, e3.symm, e4.symm, e5.symm⟩
                · exact .inr ⟨.inr (.inl e1.symm), e2.symm, e3.symm, e4.symm, e5.symm⟩
                · exact .inr ⟨.inr (.inr e1.symm), e2.symm, e3.symm, e4.symm, e5.symm⟩
                · exact .inl ⟨e1.symm, e2.symm, e3.symm, e4.symm, by rw [e5, hzz]⟩
              clear hN hS10 hE' hI hok
              clear k0 k1 k2 k3 k4
              rcases hEc with ⟨rfl, rfl, rfl, rfl, rfl⟩ | ⟨hE1, rfl, rfl, rfl, rfl⟩
              case' inr =>
                rcases hE1 with rfl | rfl | rfl
                all_goals
                  go_wp2_with fail
                  refine Met.intro ?_
                  go_step
                  refine And.left (b := True) ?_
                  go_big_round
                  refine ⟨?_, trivial⟩
                  exact ⟨c, l, s, (f + 1), wait, taken, rfl, rfl, rfl, hI2, (hS11.out.re [1, 2, 3, 0, 4, 5, 6, 7] 8).drop.drop.drop⟩
              have hlz : Hid (Labl [z]) := by
                have h : z.e.l < 18446744073709551616 := by
                  have hzz : ownI n x = z := hz.out
                  rw [← hzz]; exact ownI_lt n hn x
                exact Labl.one h
              have hzm : Hid (x.mrk = z.mrk) := by
                have h : x.mrk = z.mrk := by
                  have hzz : ownI n x = z := hz.out
                  rw [← hzz]; unfold ownI
                  cases hx : x.mrk <;> simp
                exact h
              go_upto_region 32 with fail
              have hP : Ink V9 g19 x ∧ Evk V9 g21 z.e := ⟨hS11.out.ikAt (b := g19) (i := x) (List.Mem.tail _ (List.Mem.tail _ (List.Mem.head _))), hS11.out.evAt (b := g21) (e := z.e) (List.Mem.tail _ (List.Mem.head _))⟩
              refine wp_region_held_drew (S := fun X => Ink X g19 x ∧ Evk X g21 z.e) (by kernel_rfl) hP (fun hHeld => ?_)
              have hT : Hid (St w V9.drew (cel c p (n : Nat) (l - 1) (s + 1) f (wait ++ [z]) taken :: evT g21 z.e :: inkT g19 x :: askT g18 ⟨1, qn, qm, x⟩ :: inl (.slice sa wait.length sc) wait :: inl u14 taken :: pkT gp (.slice ua p.os.length uc) p :: opT (.slice ua p.os.length uc) p.os :: [])) := hS11.out.below (Below.refl _ _).drew
              clear hS11
              clear hP
              generalize V9.drew = V at hHeld hT ⊢
              have hS11 := hT
              clear hT
              refine take_at (i := 1) (v := .slice sa wait.length sc) rfl rfl (by kernel_rfl) (by kernel_rfl) (by kernel_rfl) (fun _ _ _ h => h) (Or.inl ⟨by rfl, fun X _ => mv_op _ _ rfl rfl⟩) hHeld ?_
              try simp only [Act.put, List.setIfInBounds_toArray, List.set_cons_zero, List.set_cons_succ]
              refine take_at (i := 3) (v := .pointer (some ⟨g19, 0, none⟩)) rfl rfl (by kernel_rfl) (by kernel_rfl) (by kernel_rfl) (fun _ _ _ h => h) (Or.inl ⟨by rfl, fun X _ => fa31_op _ g19 rfl rfl⟩) hHeld ?_
              try simp only [Act.put, List.setIfInBounds_toArray, List.set_cons_zero, List.set_cons_succ]
              refine take_at (i := 4) (v := .bool z.mrk) rfl rfl (by kernel_rfl) (by kernel_rfl) (by kernel_rfl) (fun _ _ _ h => h) (Or.inl ⟨by rfl, fun X hX => ld4_op _ g19 z.mrk rfl rfl (by rw [hX.1.c.1, hzm.out])⟩) hHeld ?_
              try simp only [Act.put, List.setIfInBounds_toArray, List.set_cons_zero, List.set_cons_succ]
              refine take_at (i := 5) (v := .agg #[.int .i64 z.e.t, .int .i64 z.e.k, .int .i64 z.e.v, .int .u64 z.e.l]) rfl rfl (by kernel_rfl) (by kernel_rfl) (by kernel_rfl) (fun _ _ _ h => h) (Or.inl ⟨by rfl, fun X hX => ld29_op _ g21 z.e rfl rfl hX.2⟩) hHeld ?_
              try simp only [Act.put, List.setIfInBounds_toArray, List.set_cons_zero, List.set_cons_succ]
              refine take_at (i := 6) (v := inv z) rfl rfl (by kernel_rfl) (by kernel_rfl) (by kernel_rfl) (fun _ _ _ h => h) (Or.inl ⟨by rfl, fun X _ => bd31_op _ _ z rfl rfl rfl⟩) hHeld ?_
              try simp only [Act.put, List.setIfInBounds_toArray, List.set_cons_zero, List.set_cons_succ]
              refine take_at (i := 9) (v := .int .i64 l) rfl rfl (by kernel_rfl) (by kernel_rfl) (by kernel_rfl) (fun _ _ _ h => h) (Or.inl ⟨by rfl, fun X _ => mv_op _ _ rfl rfl⟩) hHeld ?_
              try simp only [Act.put, List.setIfInBounds_toArray, List.set_cons_zero, List.set_cons_succ]
              refine take_at (i := 10) (v := .int .i64 (l - 1)) rfl rfl (by kernel_rfl) (by kernel_rfl) (by kernel_rfl) (fun _ _ _ h => h) (Or.inl ⟨by rfl, fun X _ => sub1_op _ l rfl rfl hl0 hl30⟩) hHeld ?_
              try simp only [Act.put, List.setIfInBounds_toArray, List.set_cons_zero, List.set_cons_succ]
              refine wpAnyH_ready (rs := [0, 7]) (by kernel_rfl) (by simp) ?_
              refine AllReadyH.cons rfl (fun K hK => ?_) (AllReadyH.cons rfl (fun K hK => ?_) AllReadyH.nil)
              · refine step_lit0 rfl rfl rfl hS11.out ?_
                intro gq1 Y1 hN
                have hQ1 : Hid (St w Y1 (inl (.slice (some ⟨gq1, 0, none⟩) 0 0) [] :: cel c p (n : Nat) (l - 1) (s + 1) f (wait ++ [z]) taken :: evT g21 z.e :: inkT g19 x :: askT g18 ⟨1, qn, qm, x⟩ :: inl (.slice sa wait.length sc) wait :: inl u14 taken :: pkT gp (.slice ua p.os.length uc) p :: opT (.slice ua p.os.length uc) p.os :: [])) := hN
                clear hN hS11 hHeld
                have hh : Ink Y1 g19 x ∧ Evk Y1 g21 z.e := ⟨hQ1.out.ikAt (b := g19) (i := x) (List.Mem.tail _ (List.Mem.tail _ (List.Mem.tail _ (List.Mem.head _)))), hQ1.out.evAt (b := g21) (e := z.e) (List.Mem.tail _ (List.Mem.tail _ (List.Mem.head _)))⟩
                refine hK.out _ _ hh (fun hHeld => ?_)
                clear hK K hh
                try simp only [Act.put, List.setIfInBounds_toArray, List.set_cons_zero, List.set_cons_succ]
                refine wpAnyH_ready (rs := [2, 7]) (by kernel_rfl) (by simp) ?_
                refine AllReadyH.cons rfl (fun K hK => ?_) (AllReadyH.cons rfl (fun K hK => ?_) AllReadyH.nil)
                · obtain ⟨qb2, hq2, _, _⟩ := (hQ1.out.qvAt (v := (.slice sa wait.length sc)) (is := wait) (List.Mem.tail _ (List.Mem.tail _ (List.Mem.tail _ (List.Mem.tail _ (List.Mem.tail _ (List.Mem.head _))))))).1.rdi (hQ1.out.qvAt (v := (.slice sa wait.length sc)) (is := wait) (List.Mem.tail _ (List.Mem.tail _ (List.Mem.tail _ (List.Mem.tail _ (List.Mem.tail _ (List.Mem.head _))))))).2 0
                  refine step_append_St rfl rfl (.tmp 142) (.tmp 143) rfl (.slice (some ⟨gq1, 0, none⟩) 0 0) [] rfl hQ1.out (.slice sa wait.length sc) qb2 wait rfl hq2 (by have := hwt; simp only [List.length_nil]; go_light; omega) ?_
                  intro v2 Y2 hN
                  rw [List.nil_append] at hN
                  have hQ2 : Hid (St w Y2 (inl v2 wait :: cel c p (n : Nat) (l - 1) (s + 1) f (wait ++ [z]) taken :: evT g21 z.e :: inkT g19 x :: askT g18 ⟨1, qn, qm, x⟩ :: inl (.slice sa wait.length sc) wait :: inl u14 taken :: pkT gp (.slice ua p.os.length uc) p :: opT (.slice ua p.os.length uc) p.os :: [])) := hN
                  clear hN hq2 hQ1 hHeld
                  have hh : Ink Y2 g19 x ∧ Evk Y2 g21 z.e := ⟨hQ2.out.ikAt (b := g19) (i := x) (List.Mem.tail _ (List.Mem.tail _ (List.Mem.tail _ (List.Mem.head _)))), hQ2.out.evAt (b := g21) (e := z.e) (List.Mem.tail _ (List.Mem.tail _ (List.Mem.head _)))⟩
                  refine hK.out _ _ hh (fun hHeld => ?_)
                  clear hK K hh
                  try simp only [Act.put, List.setIfInBounds_toArray, List.set_cons_zero, List.set_cons_succ]
                  refine wpAnyH_ready (rs := [7]) (by kernel_rfl) (by simp) ?_
                  refine AllReadyH.cons rfl (fun K hK => ?_) AllReadyH.nil
                  refine step_lit1 rfl rfl (.tmp 148) rfl z rfl hQ2.out hlz.out ?_
                  intro gq3 Y3 hN
                  have hQ3 : Hid (St w Y3 (inl (.slice (some ⟨gq3, 0, none⟩) 1 1) [z] :: inl v2 wait :: cel c p (n : Nat) (l - 1) (s + 1) f (wait ++ [z]) taken :: evT g21 z.e :: inkT g19 x :: askT g18 ⟨1, qn, qm, x⟩ :: inl (.slice sa wait.length sc) wait :: inl u14 taken :: pkT gp (.slice ua p.os.length uc) p :: opT (.slice ua p.os.length uc) p.os :: [])) := hN
                  clear hN hQ2 hHeld
                  have hh : Ink Y3 g19 x ∧ Evk Y3 g21 z.e := ⟨hQ3.out.ikAt (b := g19) (i := x) (List.Mem.tail _ (List.Mem.tail _ (List.Mem.tail _ (List.Mem.tail _ (List.Mem.head _))))), hQ3.out.evAt (b := g21) (e := z.e) (List.Mem.tail _ (List.Mem.tail _ (List.Mem.tail _ (List.Mem.head _))))⟩
                  refine hK.out _ _ hh (fun hHeld => ?_)
                  clear hK K hh
                  try simp only [Act.put, List.setIfInBounds_toArray, List.set_cons_zero, List.set_cons_succ]
                  refine wpAnyH_ready (rs := [8]) (by kernel_rfl) (by simp) ?_
                  refine AllReadyH.cons rfl (fun K hK => ?_) AllReadyH.nil
                  obtain ⟨qb4, hq4, _, _⟩ := (hQ3.out.qvAt (v := (.slice (some ⟨gq3, 0, none⟩) 1 1)) (is := [z]) (List.Mem.head _)).1.rdi (hQ3.out.qvAt (v := (.slice (some ⟨gq3, 0, none⟩) 1 1)) (is := [z]) (List.Mem.head _)).2 0
                  refine step_append_St rfl rfl (.tmp 144) (.tmp 149) rfl v2 wait rfl (hQ3.out.re [1, 0] 2) (.slice (some ⟨gq3, 0, none⟩) 1 1) qb4 [z] rfl hq4 (by have := hwt; simp only [List.length_cons, List.length_nil]; go_light; omega) ?_
                  intro v4 Y4 hN
                  have hQ4 : Hid (St w Y4 (inl v4 (wait ++ [z]) :: inl (.slice (some ⟨gq3, 0, none⟩) 1 1) [z] :: cel c p (n : Nat) (l - 1) (s + 1) f (wait ++ [z]) taken :: evT g21 z.e :: inkT g19 x :: askT g18 ⟨1, qn, qm, x⟩ :: inl (.slice sa wait.length sc) wait :: inl u14 taken :: pkT gp (.slice ua p.os.length uc) p :: opT (.slice ua p.os.length uc) p.os :: [])) := hN
                  clear hN hq4 hQ3 hHeld
                  have hh : Ink Y4 g19 x ∧ Evk Y4 g21 z.e := ⟨hQ4.out.ikAt (b := g19) (i := x) (List.Mem.tail _ (List.Mem.tail _ (List.Mem.tail _ (List.Mem.tail _ (List.Mem.head _))))), hQ4.out.evAt (b := g21) (e := z.e) (List.Mem.tail _ (List.Mem.tail _ (List.Mem.tail _ (List.Mem.head _))))⟩
                  refine hK.out _ _ hh (fun hHeld => ?_)
                  clear hK K hh
                  try simp only [Act.put, List.setIfInBounds_toArray, List.set_cons_zero, List.set_cons_succ]
                  refine take_at (i := 11) (v := v4) rfl rfl (by kernel_rfl) (by kernel_rfl) (by kernel_rfl) (fun _ _ _ h => h) (Or.inl ⟨by rfl, fun X _ => as_op _ _ rfl rfl⟩) hHeld ?_
                  try simp only [Act.put, List.setIfInBounds_toArray, List.set_cons_zero, List.set_cons_succ]
                  refine take_at (i := 12) (v := .int .i64 (l - 1)) rfl rfl (by kernel_rfl) (by kernel_rfl) (by kernel_rfl) (fun _ _ _ h => h) (Or.inl ⟨by rfl, fun X _ => as_op _ _ rfl rfl⟩) hHeld ?_
                  try simp only [Act.put, List.setIfInBounds_toArray, List.set_cons_zero, List.set_cons_succ]
                  refine wpAnyH_done (by kernel_rfl) ?_ _
                  clear hHeld
                  go_wp2_with fail
                  refine Met.intro ?_
                  go_step
                  refine And.left (b := True) ?_
                  go_big_round
                  refine ⟨?_, trivial⟩
                  exact ⟨c, (l - 1), (s + 1), f, (wait ++ [z]), taken, rfl, rfl, rfl, hI2, (hQ4.out.re [1, 3, 4, 5, 6, 2, 0, 7, 8, 9] 10).drop.drop.drop.drop.drop⟩
                · refine step_lit1 rfl rfl (.tmp 148) rfl z rfl hQ1.out hlz.out ?_
                  intro gq2 Y2 hN
                  have hQ2 : Hid (St w Y2 (inl (.slice (some ⟨gq2, 0, none⟩) 1 1) [z] :: inl (.slice (some ⟨gq1, 0, none⟩) 0 0) [] :: cel c p (n : Nat) (l - 1) (s + 1) f (wait ++ [z]) taken :: evT g21 z.e :: inkT g19 x :: askT g18 ⟨1, qn, qm, x⟩ :: inl (.slice sa wait.length sc) wait :: inl u14 taken :: pkT gp (.slice ua p.os.length uc) p :: opT (.slice ua p.os.length uc) p.os :: [])) := hN
                  clear hN hQ1 hHeld
                  have hh : Ink Y2 g19 x ∧ Evk Y2 g21 z.e := ⟨hQ2.out.ikAt (b := g19) (i := x) (List.Mem.tail _ (List.Mem.tail _ (List.Mem.tail _ (List.Mem.tail _ (List.Mem.head _))))), hQ2.out.evAt (b := g21) (e := z.e) (List.Mem.tail _ (List.Mem.tail _ (List.Mem.tail _ (List.Mem.head _))))⟩
                  refine hK.out _ _ hh (fun hHeld => ?_)
                  clear hK K hh
                  try simp only [Act.put, List.setIfInBounds_toArray, List.set_cons_zero, List.set_cons_succ]
                  refine wpAnyH_ready (rs := [2]) (by kernel_rfl) (by simp) ?_
                  refine AllReadyH.cons rfl (fun K hK => ?_) AllReadyH.nil
                  obtain ⟨qb3, hq3, _, _⟩ := (hQ2.out.qvAt (v := (.slice sa wait.length sc)) (is := wait) (List.Mem.tail _ (List.Mem.tail _ (List.Mem.tail _ (List.Mem.tail _ (List.Mem.tail _ (List.Mem.tail _ (List.Mem.head _)))))))).1.rdi (hQ2.out.qvAt (v := (.slice sa wait.length sc)) (is := wait) (List.Mem.tail _ (List.Mem.tail _ (List.Mem.tail _ (List.Mem.tail _ (List.Mem.tail _ (List.Mem.tail _ (List.Mem.head _)))))))).2 0
                  refine step_append_St rfl rfl (.tmp 142) (.tmp 143) rfl (.slice (some ⟨gq1, 0, none⟩) 0 0) [] rfl (hQ2.out.re [1, 0] 2) (.slice sa wait.length sc) qb3 wait rfl hq3 (by have := hwt; simp only [List.length_nil]; go_light; omega) ?_
                  intro v3 Y3 hN
                  rw [List.nil_append] at hN
                  have hQ3 : Hid (St w Y3 (inl v3 wait :: inl (.slice (some ⟨gq2, 0, none⟩) 1 1) [z] :: cel c p (n : Nat) (l - 1) (s + 1) f (wait ++ [z]) taken :: evT g21 z.e :: inkT g19 x :: askT g18 ⟨1, qn, qm, x⟩ :: inl (.slice sa wait.length sc) wait :: inl u14 taken :: pkT gp (.slice ua p.os.length uc) p :: opT (.slice ua p.os.length uc) p.os :: [])) := hN
                  clear hN hq3 hQ2 hHeld
                  have hh : Ink Y3 g19 x ∧ Evk Y3 g21 z.e := ⟨hQ3.out.ikAt (b := g19) (i := x) (List.Mem.tail _ (List.Mem.tail _ (List.Mem.tail _ (List.Mem.tail _ (List.Mem.head _))))), hQ3.out.evAt (b := g21) (e := z.e) (List.Mem.tail _ (List.Mem.tail _ (List.Mem.tail _ (List.Mem.head _))))⟩
                  refine hK.out _ _ hh (fun hHeld => ?_)
                  clear hK K hh
                  try simp only [Act.put, List.setIfInBounds_toArray, List.set_cons_zero, List.set_cons_succ]
                  refine wpAnyH_ready (rs := [8]) (by kernel_rfl) (by simp) ?_
                  refine AllReadyH.cons rfl (fun K hK => ?_) AllReadyH.nil
                  obtain ⟨qb4, hq4, _, _⟩ := (hQ3.out.qvAt (v := (.slice (some ⟨gq2, 0, none⟩) 1 1)) (is := [z]) (List.Mem.tail _ (List.Mem.head _))).1.rdi (hQ3.out.qvAt (v := (.slice (some ⟨gq2, 0, none⟩) 1 1)) (is := [z]) (List.Mem.tail _ (List.Mem.head _))).2 0
                  refine step_append_St rfl rfl (.tmp 144) (.tmp 149) rfl v3 wait rfl hQ3.out (.slice (some ⟨gq2, 0, none⟩) 1 1) qb4 [z] rfl hq4 (by have := hwt; simp only [List.length_cons, List.length_nil]; go_light; omega) ?_
                  intro v4 Y4 hN
                  have hQ4 : Hid (St w Y4 (inl v4 (wait ++ [z]) :: inl (.slice (some ⟨gq2, 0, none⟩) 1 1) [z] :: cel c p (n : Nat) (l - 1) (s + 1) f (wait ++ [z]) taken :: evT g21 z.e :: inkT g19 x :: askT g18 ⟨1, qn, qm, x⟩ :: inl (.slice sa wait.length sc) wait :: inl u14 taken :: pkT gp (.slice ua p.os.length uc) p :: opT (.slice ua p.os.length uc) p.os :: [])) := hN
                  clear hN hq4 hQ3 hHeld
                  have hh : Ink Y4 g19 x ∧ Evk Y4 g21 z.e := ⟨hQ4.out.ikAt (b := g19) (i := x) (List.Mem.tail _ (List.Mem.tail _ (List.Mem.tail _ (List.Mem.tail _ (List.Mem.head _))))), hQ4.out.evAt (b := g21) (e := z.e) (List.Mem.tail _ (List.Mem.tail _ (List.Mem.tail _ (List.Mem.head _))))⟩
                  refine hK.out _ _ hh (fun hHeld => ?_)
                  clear hK K hh
                  try simp only [Act.put, List.setIfInBounds_toArray, List.set_cons_zero, List.set_cons_succ]
                  refine take_at (i := 11) (v := v4) rfl rfl (by kernel_rfl) (by kernel_rfl) (by kernel_rfl) (fun _ _ _ h => h) (Or.inl ⟨by rfl, fun X _ => as_op _ _ rfl rfl⟩) hHeld ?_
                  try simp only [Act.put, List.setIfInBounds_toArray, List.set_cons_zero, List.set_cons_succ]
                  refine take_at (i := 12) (v := .int .i64 (l - 1)) rfl rfl (by kernel_rfl) (by kernel_rfl) (by kernel_rfl) (fun _ _ _ h => h) (Or.inl ⟨by rfl, fun X _ => as_op _ _ rfl rfl⟩) hHeld ?_
                  try simp only [Act.put, List.setIfInBounds_toArray, List.set_cons_zero, List.set_cons_succ]
                  refine wpAnyH_done (by kernel_rfl) ?_ _
                  clear hHeld
                  go_wp2_with fail
                  refine Met.intro ?_
                  go_step
                  refine And.left (b := True) ?_
                  go_big_round
                  refine ⟨?_, trivial⟩
                  exact ⟨c, (l - 1), (s + 1), f, (wait ++ [z]), taken, rfl, rfl, rfl, hI2, (hQ4.out.re [1, 3, 4, 5, 6, 2, 0, 7, 8, 9] 10).drop.drop.drop.drop.drop⟩
              · refine step_lit1 rfl rfl (.tmp 148) rfl z rfl hS11.out hlz.out ?_
                intro gq1 Y1 hN
                have hQ1 : Hid (St w Y1 (inl (.slice (some ⟨gq1, 0, none⟩) 1 1) [z] :: cel c p (n : Nat) (l - 1) (s + 1) f (wait ++ [z]) taken :: evT g21 z.e :: inkT g19 x :: askT g18 ⟨1, qn, qm, x⟩ :: inl (.slice sa wait.length sc) wait :: inl u14 taken :: pkT gp (.slice ua p.os.length uc) p :: opT (.slice ua p.os.length uc) p.os :: [])) := hN
                clear hN hS11 hHeld
                have hh : Ink Y1 g19 x ∧ Evk Y1 g21 z.e := ⟨hQ1.out.ikAt (b := g19) (i := x) (List.Mem.tail _ (List.Mem.tail _ (List.Mem.tail _ (List.Mem.head _)))), hQ1.out.evAt (b := g21) (e := z.e) (List.Mem.tail _ (List.Mem.tail _ (List.Mem.head _)))⟩
                refine hK.out _ _ hh (fun hHeld => ?_)
                clear hK K hh
                try simp only [Act.put, List.setIfInBounds_toArray, List.set_cons_zero, List.set_cons_succ]
                refine wpAnyH_ready (rs := [0]) (by kernel_rfl) (by simp) ?_
                refine AllReadyH.cons rfl (fun K hK => ?_) AllReadyH.nil
                refine step_lit0 rfl rfl rfl hQ1.out ?_
                intro gq2 Y2 hN
                have hQ2 : Hid (St w Y2 (inl (.slice (some ⟨gq2, 0, none⟩) 0 0) [] :: inl (.slice (some ⟨gq1, 0, none⟩) 1 1) [z] :: cel c p (n : Nat) (l - 1) (s + 1) f (wait ++ [z]) taken :: evT g21 z.e :: inkT g19 x :: askT g18 ⟨1, qn, qm, x⟩ :: inl (.slice sa wait.length sc) wait :: inl u14 taken :: pkT gp (.slice ua p.os.length uc) p :: opT (.slice ua p.os.length uc) p.os :: [])) := hN
                clear hN hQ1 hHeld
                have hh : Ink Y2 g19 x ∧ Evk Y2 g21 z.e := ⟨hQ2.out.ikAt (b := g19) (i := x) (List.Mem.tail _ (List.Mem.tail _ (List.Mem.tail _ (List.Mem.tail _ (List.Mem.head _))))), hQ2.out.evAt (b := g21) (e := z.e) (List.Mem.tail _ (List.Mem.tail _ (List.Mem.tail _ (List.Mem.head _))))⟩
                refine hK.out _ _ hh (fun hHeld => ?_)
                clear hK K hh
                try simp only [Act.put, List.setIfInBounds_toArray, List.set_cons_zero, List.set_cons_succ]
                refine wpAnyH_ready (rs := [2]) (by kernel_rfl) (by simp) ?_
                refine AllReadyH.cons rfl (fun K hK => ?_) AllReadyH.nil
                obtain ⟨qb3, hq3, _, _⟩ := (hQ2.out.qvAt (v := (.slice sa wait.length sc)) (is := wait) (List.Mem.tail _ (List.Mem.tail _ (List.Mem.tail _ (List.Mem.tail _ (List.Mem.tail _ (List.Mem.tail _ (List.Mem.head _)))))))).1.rdi (hQ2.out.qvAt (v := (.slice sa wait.length sc)) (is := wait) (List.Mem.tail _ (List.Mem.tail _ (List.Mem.tail _ (List.Mem.tail _ (List.Mem.tail _ (List.Mem.tail _ (List.Mem.head _)))))))).2 0
                refine step_append_St rfl rfl (.tmp 142) (.tmp 143) rfl (.slice (some ⟨gq2, 0, none⟩) 0 0) [] rfl hQ2.out (.slice sa wait.length sc) qb3 wait rfl hq3 (by have := hwt; simp only [List.length_nil]; go_light; omega) ?_
                intro v3 Y3 hN
                rw [List.nil_append] at hN
                have hQ3 : Hid (St w Y3 (inl v3 wait :: inl (.slice (some ⟨gq1, 0, none⟩) 1 1) [z] :: cel c p (n : Nat) (l - 1) (s + 1) f (wait ++ [z]) taken :: evT g21 z.e :: inkT g19 x :: askT g18 ⟨1, qn, qm, x⟩ :: inl (.slice sa wait.length sc) wait :: inl u14 taken :: pkT gp (.slice ua p.os.length uc) p :: opT (.slice ua p.os.length uc) p.os :: [])) := hN
                clear hN hq3 hQ2 hHeld
                have hh : Ink Y3 g19 x ∧ Evk Y3 g21 z.e := ⟨hQ3.out.ikAt (b := g19) (i := x) (List.Mem.tail _ (List.Mem.tail _ (List.Mem.tail _ (List.Mem.tail _ (List.Mem.head _))))), hQ3.out.evAt (b := g21) (e := z.e) (List.Mem.tail _ (List.Mem.tail _ (List.Mem.tail _ (List.Mem.head _))))⟩
                refine hK.out _ _ hh (fun hHeld => ?_)
                clear hK K hh
                try simp only [Act.put, List.setIfInBounds_toArray, List.set_cons_zero, List.set_cons_succ]
                refine wpAnyH_ready (rs := [8]) (by kernel_rfl) (by simp) ?_
                refine AllReadyH.cons rfl (fun K hK => ?_) AllReadyH.nil
                obtain ⟨qb4, hq4, _, _⟩ := (hQ3.out.qvAt (v := (.slice (some ⟨gq1, 0, none⟩) 1 1)) (is := [z]) (List.Mem.tail _ (List.Mem.head _))).1.rdi (hQ3.out.qvAt (v := (.slice (some ⟨gq1, 0, none⟩) 1 1)) (is := [z]) (List.Mem.tail _ (List.Mem.head _))).2 0
                refine step_append_St rfl rfl (.tmp 144) (.tmp 149) rfl v3 wait rfl hQ3.out (.slice (some ⟨gq1, 0, none⟩) 1 1) qb4 [z] rfl hq4 (by have := hwt; simp only [List.length_cons, List.length_nil]; go_light; omega) ?_
                intro v4 Y4 hN
                have hQ4 : Hid (St w Y4 (inl v4 (wait ++ [z]) :: inl (.slice (some ⟨gq1, 0, none⟩) 1 1) [z] :: cel c p (n : Nat) (l - 1) (s + 1) f (wait ++ [z]) taken :: evT g21 z.e :: inkT g19 x :: askT g18 ⟨1, qn, qm, x⟩ :: inl (.slice sa wait.length sc) wait :: inl u14 taken :: pkT gp (.slice ua p.os.length uc) p :: opT (.slice ua p.os.length uc) p.os :: [])) := hN
                clear hN hq4 hQ3 hHeld
                have hh : Ink Y4 g19 x ∧ Evk Y4 g21 z.e := ⟨hQ4.out.ikAt (b := g19) (i := x) (List.Mem.tail _ (List.Mem.tail _ (List.Mem.tail _ (List.Mem.tail _ (List.Mem.head _))))), hQ4.out.evAt (b := g21) (e := z.e) (List.Mem.tail _ (List.Mem.tail _ (List.Mem.tail _ (List.Mem.head _))))⟩
                refine hK.out _ _ hh (fun hHeld => ?_)
                clear hK K hh
                try simp only [Act.put, List.setIfInBounds_toArray, List.set_cons_zero, List.set_cons_succ]
                refine take_at (i := 11) (v := v4) rfl rfl (by kernel_rfl) (by kernel_rfl) (by kernel_rfl) (fun _ _ _ h => h) (Or.inl ⟨by rfl, fun X _ => as_op _ _ rfl rfl⟩) hHeld ?_
                try simp only [Act.put, List.setIfInBounds_toArray, List.set_cons_zero, List.set_cons_succ]
                refine take_at (i := 12) (v := .int .i64 (l - 1)) rfl rfl (by kernel_rfl) (by kernel_rfl) (by kernel_rfl) (fun _ _ _ h => h) (Or.inl ⟨by rfl, fun X _ => as_op _ _ rfl rfl⟩) hHeld ?_
                try simp only [Act.put, List.setIfInBounds_toArray, List.set_cons_zero, List.set_cons_succ]
                refine wpAnyH_done (by kernel_rfl) ?_ _
                clear hHeld
                go_wp2_with fail
                refine Met.intro ?_
                go_step
                refine And.left (b := True) ?_
                go_big_round
                refine ⟨?_, trivial⟩
                exact ⟨c, (l - 1), (s + 1), f, (wait ++ [z]), taken, rfl, rfl, rfl, hI2, (hQ4.out.re [1, 3, 4, 5, 6, 2, 0, 7, 8, 9] 10).drop.drop.drop.drop.drop⟩
          have hk1 : (kd == 1) = false := by simpa using h1
          by_cases h2 : kd = 2
          · subst h2
            as_aux_lemma =>
              obtain ⟨hl0, hl30, hsum, hs0, hs30, hf0, hfj, hwt⟩ := hI.out
              obtain ⟨sa, sc, rfl, hwc1, hwc2, hwc3⟩ := (hS7.out.qvAt (v := u13) (is := wait) (List.Mem.tail _ (List.Mem.tail _ (List.Mem.tail _ (List.Mem.head _))))).1.len
              obtain ⟨k0, k1, k2, k3, k4⟩ := (hS7.out.ikAt (b := g19) (i := x) (List.Mem.head _)).c
              simp only [Nat.zero_add] at k0 k1 k2 k3 k4
              go_upto_region 36 with fail
              clear k0 k1 k2 k3 k4
              refine world_gen (fun X => Hid (St w X (evT V6.heap.size x.e :: inkT g19 x :: askT g18 ⟨2, qn, qm, x⟩ :: cel c p (n : Nat) l s f wait taken :: inl (.slice sa wait.length sc) wait :: inl u14 taken :: pkT gp (.slice ua p.os.length uc) p :: opT (.slice ua p.os.length uc) p.os :: []))) (hS7.out.newBlk _ _ rfl) ?_
              clear hS7
              generalize V6.heap.size = g24
              rintro V7 hS8
              obtain ⟨e0, e1, e2, e3⟩ := (show Evk V7 g24 x.e from hS8.out.blk).c
              obtain ⟨ok, hok⟩ : ∃ b, Hid (rightE x.e = b) := ⟨_, rfl⟩
              obtain ⟨wait2, hw2⟩ : ∃ y : List Inp, Hid ((ok = true ∧ wait ++ [⟨false, x.e⟩] = y) ∨ (ok = false ∧ wait = y)) := by
                cases ok
                · exact ⟨_, .inr ⟨rfl, rfl⟩⟩
                · exact ⟨_, .inl ⟨rfl, rfl⟩⟩
              have hw3 : Hid ((rightE x.e = true ∧ wait2 = wait ++ [⟨false, x.e⟩]) ∨ (rightE x.e = false ∧ wait2 = wait)) := by
                rcases hw2.out with ⟨h1, h2⟩ | ⟨h1, h2⟩
                · exact .inl ⟨hok.out.trans h1, h2.symm⟩
                · exact .inr ⟨hok.out.trans h1, h2.symm⟩
              go_wp2_with fail
              refine (feed_is x.e _ (hS8.out.re [3, 0, 1, 2] 4) hxl'.out (by go_light; omega) wait2 hw3.out).mono ?_
              rintro e V8 ⟨rfl, hN⟩
              have hS9 : Hid (St w V8 (cel c p (n : Nat) l s f wait2 taken :: evT g24 x.e :: inkT g19 x :: askT g18 ⟨2, qn, qm, x⟩ :: inl (.slice sa wait.length sc) wait :: inl u14 taken :: pkT gp (.slice ua p.os.length uc) p :: opT (.slice ua p.os.length uc) p.os :: [])) := hN
              have hI2 : Hid (Ip mo (j + 1) l s f wait2 taken) := by
                obtain ⟨h1, h2, h3, h4, h5, h6, h7, h8⟩ := hI.out
                rcases hw2.out with ⟨_, rfl⟩ | ⟨_, rfl⟩
                · exact ⟨h1, h2, h3, h4, h5, h6, by go_light; omega, by simp; omega⟩
                · exact ⟨h1, h2, h3, h4, h5, h6, by go_light; omega, by go_light; omega⟩
              clear hN hS8 hI hw3 e0 e1 e2 e3
              go_upto_region 37 with fail
              go_cut [184] from 162 to 184 (fun y wx => y = .bool ok ∧ wx = V8)
              case first =>
                obtain ⟨e0, e1, e2, e3⟩ := (hS9.out.evAt (b := g24) (e := x.e) (List.Mem.tail _ (List.Mem.head _))).c
                have ho : decide ((0 ≤ x.e.t ∧ x.e.t ≤ 1099511627776) ∧ (0 ≤ x.e.k ∧ x.e.k ≤ 255) ∧ x.e.l ≠ 0) = ok := hok.out
                rcases (Int.lt_or_le (x.e.t) (0)).symm with a0 | a0
                · rcases (Int.lt_or_le (1099511627776) (x.e.t)).symm with a1 | a1
                  · rcases (Int.lt_or_le (x.e.k) (0)).symm with a2 | a2
                    · rcases (Int.lt_or_le (255) (x.e.k)).symm with a3 | a3
                      · by_cases a4 : x.e.l = 0
                        · have a5 : ((x.e.l : Int) != 0) = false := by simp [a4]
                          go_wp2_with fail
                          refine Met.intro ?_
                          go_step
                          refine And.left (b := True) ?_
                          go_big_round
                          refine ⟨?_, trivial⟩
                          have hd : false = ok := by rw [← ho]; exact (decide_eq_false (by go_light; omega)).symm
                          refine ⟨?_, rfl⟩
                          rewrite [← hd]
                          first | with_reducible rfl | exact congrArg Value.bool (decide_eq_false (by go_light; omega))
                        · have a5 : ((x.e.l : Int) != 0) = true := by simp [a4]
                          go_wp2_with fail
                          refine Met.intro ?_
                          go_step
                          refine And.left (b := True) ?_
                          go_big_round
                          refine ⟨?_, trivial⟩
                          have hd : true = ok := by rw [← ho]; exact (decide_eq_true (by go_light; omega)).symm
                          refine ⟨?_, rfl⟩
                          rewrite [← hd]
                          first | with_reducible rfl | exact congrArg Value.bool (decide_eq_true (by go_light; omega))
                      · go_wp2_with fail
                        refine Met.intro ?_
                        go_step
                        refine And.left (b := True) ?_
                        go_big_round
                        refine ⟨?_, trivial⟩
                        have hd : false = ok := by rw [← ho]; exact (decide_eq_false (by go_light; omega)).symm
                        refine ⟨?_, rfl⟩
                        rewrite [← hd]
                        first | with_reducible rfl | exact congrArg Value.bool (decide_eq_false (by go_light; omega))
                    · go_wp2_with fail
                      refine Met.intro ?_
                      go_step
                      refine And.left (b := True) ?_
                      go_big_round
                      refine ⟨?_, trivial⟩
                      have hd : false = ok := by rw [← ho]; exact (decide_eq_false (by go_light; omega)).symm
                      refine ⟨?_, rfl⟩
                      rewrite [← hd]
                      first | with_reducible rfl | exact congrArg Value.bool (decide_eq_false (by go_light; omega))
                  · go_wp2_with fail
                    refine Met.intro ?_
                    go_step
                    refine And.left (b := True) ?_
                    go_big_round
                    refine ⟨?_, trivial⟩
                    have hd : false = ok := by rw [← ho]; exact (decide_eq_false (by go_light; omega)).symm
                    refine ⟨?_, rfl⟩
                    rewrite [← hd]
                    first | with_reducible rfl | exact congrArg Value.bool (decide_eq_false (by go_light; omega))
                · go_wp2_with fail
                  refine Met.intro ?_
                  go_step
                  refine And.left (b := True) ?_
                  go_big_round
                  refine ⟨?_, trivial⟩
                  have hd : false = ok := by rw [← ho]; exact (decide_eq_false (by go_light; omega)).symm
                  refine ⟨?_, rfl⟩
                  rewrite [← hd]
                  first | with_reducible rfl | exact congrArg Value.bool (decide_eq_false (by go_light; omega))
              obtain ⟨rfl, he⟩ := hcut
              obtain rfl := he.symm
              clear he hok
              rcases hw2.out with ⟨rfl, rfl⟩ | ⟨rfl, rfl⟩
              case' inr =>
                go_wp2_with fail
                refine Met.intro ?_
                go_step
                refine And.left (b := True) ?_
                go_big_round
                refine ⟨?_, trivial⟩
                exact ⟨c, l, s, f, wait, taken, rfl, rfl, rfl, hI2, (hS9.out.re [1, 2, 3, 0, 4, 5, 6, 7] 8).drop.drop.drop⟩
              have hlz : Hid (Labl [⟨false, x.e⟩]) := Labl.one hxl'.out
              obtain ⟨z, hz⟩ : ∃ z : Inp, Hid ((⟨false, x.e⟩ : Inp) = z) := ⟨_, rfl⟩
              clear hw2
              rw [hz.out] at hS9 hI2 hlz
              go_upto_region 38 with fail
              have hP : Evk V8 g24 x.e := hS9.out.evAt (b := g24) (e := x.e) (List.Mem.tail _ (List.Mem.head _))
              refine wp_region_held_drew (S := fun X => Evk X g24 x.e) (by kernel_rfl) hP (fun hHeld => ?_)
              have hT : Hid (St w V8.drew (cel c p (n : Nat) l s f (wait ++ [z]) taken :: evT g24 x.e :: inkT g19 x :: askT g18 ⟨2, qn, qm, x⟩ :: inl (.slice sa wait.length sc) wait :: inl u14 taken :: pkT gp (.slice ua p.os.length uc) p :: opT (.slice ua p.os.length uc) p.os :: [])) := hS9.out.below (Below.refl _ _).drew
              clear hS9
              clear hP
              generalize V8.drew = V at hHeld hT ⊢
              have hS9 := hT
              clear hT
              refine take_at (i := 1) (v := .slice sa wait.length sc) rfl rfl (by kernel_rfl) (by kernel_rfl) (by kernel_rfl) (fun _ _ _ h => h) (Or.inl ⟨by rfl, fun X _ => mv_op _ _ rfl rfl⟩) hHeld ?_
              try simp only [Act.put, List.setIfInBounds_toArray, List.set_cons_zero, List.set_cons_succ]
              refine take_at (i := 3) (v := .agg #[.int .i64 x.e.t, .int .i64 x.e.k, .int .i64 x.e.v, .int .u64 x.e.l]) rfl rfl (by kernel_rfl) (by kernel_rfl) (by kernel_rfl) (fun _ _ _ h => h) (Or.inl ⟨by rfl, fun X hX => ld29_op _ g24 x.e rfl rfl hX⟩) hHeld ?_
              try simp only [Act.put, List.setIfInBounds_toArray, List.set_cons_zero, List.set_cons_succ]
              refine take_at (i := 4) (v := inv z) rfl rfl (by kernel_rfl) (by kernel_rfl) (by kernel_rfl) (fun _ _ _ h => h) (Or.inl ⟨by rfl, fun X _ => by rw [← hz.out]; exact bd31e_op _ x.e rfl rfl⟩) hHeld ?_
              try simp only [Act.put, List.setIfInBounds_toArray, List.set_cons_zero, List.set_cons_succ]
              refine wpAnyH_ready (rs := [0, 5]) (by kernel_rfl) (by simp) ?_
              refine AllReadyH.cons rfl (fun K hK => ?_) (AllReadyH.cons rfl (fun K hK => ?_) AllReadyH.nil)
              · refine step_lit0 rfl rfl rfl hS9.out ?_
                intro gq1 Y1 hN
                have hQ1 : Hid (St w Y1 (inl (.slice (some ⟨gq1, 0, none⟩) 0 0) [] :: cel c p (n : Nat) l s f (wait ++ [z]) taken :: evT g24 x.e :: inkT g19 x :: askT g18 ⟨2, qn, qm, x⟩ :: inl (.slice sa wait.length sc) wait :: inl u14 taken :: pkT gp (.slice ua p.os.length uc) p :: opT (.slice ua p.os.length uc) p.os :: [])) := hN
                clear hN hS9 hHeld
                have hh : Evk Y1 g24 x.e := hQ1.out.evAt (b := g24) (e := x.e) (List.Mem.tail _ (List.Mem.tail _ (List.Mem.head _)))
                refine hK.out _ _ hh (fun hHeld => ?_)
                clear hK K hh
                try simp only [Act.put, List.setIfInBounds_toArray, List.set_cons_zero, List.set_cons_succ]
                refine wpAnyH_ready (rs := [2, 5]) (by kernel_rfl) (by simp) ?_
                refine AllReadyH.cons rfl (fun K hK => ?_) (AllReadyH.cons rfl (fun K hK => ?_) AllReadyH.nil)
                · obtain ⟨qb2, hq2, _, _⟩ := (hQ1.out.qvAt (v := (.slice sa wait.length sc)) (is := wait) (List.Mem.tail _ (List.Mem.tail _ (List.Mem.tail _ (List.Mem.tail _ (List.Mem.tail _ (List.Mem.head _))))))).1.rdi (hQ1.out.qvAt (v := (.slice sa wait.length sc)) (is := wait) (List.Mem.tail _ (List.Mem.tail _ (List.Mem.tail _ (List.Mem.tail _ (List.Mem.tail _ (List.Mem.head _))))))).2 0
                  refine step_append_St rfl rfl (.tmp 185) (.tmp 186) rfl (.slice (some ⟨gq1, 0, none⟩) 0 0) [] rfl hQ1.out (.slice sa wait.length sc) qb2 wait rfl hq2 (by have := hwt; simp only [List.length_nil]; go_light; omega) ?_
                  intro v2 Y2 hN
                  rw [List.nil_append] at hN
                  have hQ2 : Hid (St w Y2 (inl v2 wait :: cel c p (n : Nat) l s f (wait ++ [z]) taken :: evT g24 x.e :: inkT g19 x :: askT g18 ⟨2, qn, qm, x⟩ :: inl (.slice sa wait.length sc) wait :: inl u14 taken :: pkT gp (.slice ua p.os.length uc) p :: opT (.slice ua p.os.length uc) p.os :: [])) := hN
                  clear hN hq2 hQ1 hHeld
                  have hh : Evk Y2 g24 x.e := hQ2.out.evAt (b := g24) (e := x.e) (List.Mem.tail _ (List.Mem.tail _ (List.Mem.head _)))
                  refine hK.out _ _ hh (fun hHeld => ?_)
                  clear hK K hh
                  try simp only [Act.put, List.setIfInBounds_toArray, List.set_cons_zero, List.set_cons_succ]
                  refine wpAnyH_ready (rs := [5]) (by kernel_rfl) (by simp) ?_
                  refine AllReadyH.cons rfl (fun K hK => ?_) AllReadyH.nil
                  refine step_lit1 rfl rfl (.tmp 189) rfl z rfl hQ2.out hlz.out ?_
                  intro gq3 Y3 hN
                  have hQ3 : Hid (St w Y3 (inl (.slice (some ⟨gq3, 0, none⟩) 1 1) [z] :: inl v2 wait :: cel c p (n : Nat) l s f (wait ++ [z]) taken :: evT g24 x.e :: inkT g19 x :: askT g18 ⟨2, qn, qm, x⟩ :: inl (.slice sa wait.length sc) wait :: inl u14 taken :: pkT gp (.slice ua p.os.length uc) p :: opT (.slice ua p.os.length uc) p.os :: [])) := hN
                  clear hN hQ2 hHeld
                  have hh : Evk Y3 g24 x.e := hQ3.out.evAt (b := g24) (e := x.e) (List.Mem.tail _ (List.Mem.tail _ (List.Mem.tail _ (List.Mem.head _))))
                  refine hK.out _ _ hh (fun hHeld => ?_)
                  clear hK K hh
                  try simp only [Act.put, List.setIfInBounds_toArray, List.set_cons_zero, List.set_cons_succ]
                  refine wpAnyH_ready (rs := [6]) (by kernel_rfl) (by simp) ?_
                  refine AllReadyH.cons rfl (fun K hK => ?_) AllReadyH.nil
                  obtain ⟨qb4, hq4, _, _⟩ := (hQ3.out.qvAt (v := (.slice (some ⟨gq3, 0, none⟩) 1 1)) (is := [z]) (List.Mem.head _)).1.rdi (hQ3.out.qvAt (v := (.slice (some ⟨gq3, 0, none⟩) 1 1)) (is := [z]) (List.Mem.head _)).2 0
                  refine step_append_St rfl rfl (.tmp 187) (.tmp 190) rfl v2 wait rfl (hQ3.out.re [1, 0] 2) (.slice (some ⟨gq3, 0, none⟩) 1 1) qb4 [z] rfl hq4 (by have := hwt; simp only [List.length_cons, List.length_nil]; go_light; omega) ?_
                  intro v4 Y4 hN
                  have hQ4 : Hid (St w Y4 (inl v4 (wait ++ [z]) :: inl (.slice (some ⟨gq3, 0, none⟩) 1 1) [z] :: cel c p (n : Nat) l s f (wait ++ [z]) taken :: evT g24 x.e :: inkT g19 x :: askT g18 ⟨2, qn, qm, x⟩ :: inl (.slice sa wait.length sc) wait :: inl u14 taken :: pkT gp (.slice ua p.os.length uc) p :: opT (.slice ua p.os.length uc) p.os :: [])) := hN
                  clear hN hq4 hQ3 hHeld
                  have hh : Evk Y4 g24 x.e := hQ4.out.evAt (b := g24) (e := x.e) (List.Mem.tail _ (List.Mem.tail _ (List.Mem.tail _ (List.Mem.head _))))
                  refine hK.out _ _ hh (fun hHeld => ?_)
                  clear hK K hh
                  try simp only [Act.put, List.setIfInBounds_toArray, List.set_cons_zero, List.set_cons_succ]
                  refine take_at (i := 7) (v := v4) rfl rfl (by kernel_rfl) (by kernel_rfl) (by kernel_rfl) (fun _ _ _ h => h) (Or.inl ⟨by rfl, fun X _ => as_op _ _ rfl rfl⟩) hHeld ?_
                  try simp only [Act.put, List.setIfInBounds_toArray, List.set_cons_zero, List.set_cons_succ]
                  refine wpAnyH_done (by kernel_rfl) ?_ _
                  clear hHeld
                  go_wp2_with fail
                  refine Met.intro ?_
                  go_step
                  refine And.left (b := True) ?_
                  go_big_round
                  refine ⟨?_, trivial⟩
                  exact ⟨c, l, s, f, (wait ++ [z]), taken, rfl, rfl, rfl, hI2, (hQ4.out.re [1, 3, 4, 5, 6, 2, 0, 7, 8, 9] 10).drop.drop.drop.drop.drop⟩
                · refine step_lit1 rfl rfl (.tmp 189) rfl z rfl hQ1.out hlz.out ?_
                  intro gq2 Y2 hN
                  have hQ2 : Hid (St w Y2 (inl (.slice (some ⟨gq2, 0, none⟩) 1 1) [z] :: inl (.slice (some ⟨gq1, 0, none⟩) 0 0) [] :: cel c p (n : Nat) l s f (wait ++ [z]) taken :: evT g24 x.e :: inkT g19 x :: askT g18 ⟨2, qn, qm, x⟩ :: inl (.slice sa wait.length sc) wait :: inl u14 taken :: pkT gp (.slice ua p.os.length uc) p :: opT (.slice ua p.os.length uc) p.os :: [])) := hN
                  clear hN hQ1 hHeld
                  have hh : Evk Y2 g24 x.e := hQ2.out.evAt (b := g24) (e := x.e) (List.Mem.tail _ (List.Mem.tail _ (List.Mem.tail _ (List.Mem.head _))))
                  refine hK.out _ _ hh (fun hHeld => ?_)
                  clear hK K hh
                  try simp only [Act.put, List.setIfInBounds_toArray, List.set_cons_zero, List.set_cons_succ]
                  refine wpAnyH_ready (rs := [2]) (by kernel_rfl) (by simp) ?_
                  refine AllReadyH.cons rfl (fun K hK => ?_) AllReadyH.nil
                  obtain ⟨qb3, hq3, _, _⟩ := (hQ2.out.qvAt (v := (.slice sa wait.length sc)) (is := wait) (List.Mem.tail _ (List.Mem.tail _ (List.Mem.tail _ (List.Mem.tail _ (List.Mem.tail _ (List.Mem.tail _ (List.Mem.head _)))))))).1.rdi (hQ2.out.qvAt (v := (.slice sa wait.length sc)) (is := wait) (List.Mem.tail _ (List.Mem.tail _ (List.Mem.tail _ (List.Mem.tail _ (List.Mem.tail _ (List.Mem.tail _ (List.Mem.head _)))))))).2 0
                  refine step_append_St rfl rfl (.tmp 185) (.tmp 186) rfl (.slice (some ⟨gq1, 0, none⟩) 0 0) [] rfl (hQ2.out.re [1, 0] 2) (.slice sa wait.length sc) qb3 wait rfl hq3 (by have := hwt; simp only [List.length_nil]; go_light; omega) ?_
                  intro v3 Y3 hN
                  rw [List.nil_append] at hN
                  have hQ3 : Hid (St w Y3 (inl v3 wait :: inl (.slice (some ⟨gq2, 0, none⟩) 1 1) [z] :: cel c p (n : Nat) l s f (wait ++ [z]) taken :: evT g24 x.e :: inkT g19 x :: askT g18 ⟨2, qn, qm, x⟩ :: inl (.slice sa wait.length sc) wait :: inl u14 taken :: pkT gp (.slice ua p.os.length uc) p :: opT (.slice ua p.os.length uc) p.os :: [])) := hN
                  clear hN hq3 hQ2 hHeld
                  have hh : Evk Y3 g24 x.e := hQ3.out.evAt (b := g24) (e := x.e) (List.Mem.tail _ (List.Mem.tail _ (List.Mem.tail _ (List.Mem.head _))))
                  refine hK.out _ _ hh (fun hHeld => ?_)
                  clear hK K hh
                  try simp only [Act.put, List.setIfInBounds_toArray, List.set_cons_zero, List.set_cons_succ]
                  refine wpAnyH_ready (rs := [6]) (by kernel_rfl) (by simp) ?_
                  refine AllReadyH.cons rfl (fun K hK => ?_) AllReadyH.nil
                  obtain ⟨qb4, hq4, _, _⟩ := (hQ3.out.qvAt (v := (.slice (some ⟨gq2, 0, none⟩) 1 1)) (is := [z]) (List.Mem.tail _ (List.Mem.head _))).1.rdi (hQ3.out.qvAt (v := (.slice (some ⟨gq2, 0, none⟩) 1 1)) (is := [z]) (List.Mem.tail _ (List.Mem.head _))).2 0
                  refine step_append_St rfl rfl (.tmp 187) (.tmp 190) rfl v3 wait rfl hQ3.out (.slice (some ⟨gq2, 0, none⟩) 1 1) qb4 [z] rfl hq4 (by have := hwt; simp only [List.length_cons, List.length_nil]; go_light; omega) ?_
                  intro v4 Y4 hN
                  have hQ4 : Hid (St w Y4 (inl v4 (wait ++ [z]) :: inl (.slice (some ⟨gq2, 0, none⟩) 1 1) [z] :: cel c p (n : Nat) l s f (wait ++ [z]) taken :: evT g24 x.e :: inkT g19 x :: askT g18 ⟨2, qn, qm, x⟩ :: inl (.slice sa wait.length sc) wait :: inl u14 taken :: pkT gp (.slice ua p.os.length uc) p :: opT (.slice ua p.os.length uc) p.os :: [])) := hN
                  clear hN hq4 hQ3 hHeld
                  have hh : Evk Y4 g24 x.e := hQ4.out.evAt (b := g24) (e := x.e) (List.Mem.tail _ (List.Mem.tail _ (List.Mem.tail _ (List.Mem.head _))))
                  refine hK.out _ _ hh (fun hHeld => ?_)
                  clear hK K hh
                  try simp only [Act.put, List.setIfInBounds_toArray, List.set_cons_zero, List.set_cons_succ]
                  refine take_at (i := 7) (v := v4) rfl rfl (by kernel_rfl) (by kernel_rfl) (by kernel_rfl) (fun _ _ _ h => h) (Or.inl ⟨by rfl, fun X _ => as_op _ _ rfl rfl⟩) hHeld ?_
                  try simp only [Act.put, List.setIfInBounds_toArray, List.set_cons_zero, List.set_cons_succ]
                  refine wpAnyH_done (by kernel_rfl) ?_ _
                  clear hHeld
                  go_wp2_with fail
                  refine Met.intro ?_
                  go_step
                  refine And.left (b := True) ?_
                  go_big_round
                  refine ⟨?_, trivial⟩
                  exact ⟨c, l, s, f, (wait ++ [z]), taken, rfl, rfl, rfl, hI2, (hQ4.out.re [1, 3, 4, 5, 6, 2, 0, 7, 8, 9] 10).drop.drop.drop.drop.drop⟩
              · refine step_lit1 rfl rfl (.tmp 189) rfl z rfl hS9.out hlz.out ?_
                intro gq1 Y1 hN
                have hQ1 : Hid (St w Y1 (inl (.slice (some ⟨gq1, 0, none⟩) 1 1) [z] :: cel c p (n : Nat) l s f (wait ++ [z]) taken :: evT g24 x.e :: inkT g19 x :: askT g18 ⟨2, qn, qm, x⟩ :: inl (.slice sa wait.length sc) wait :: inl u14 taken :: pkT gp (.slice ua p.os.length uc) p :: opT (.slice ua p.os.length uc) p.os :: [])) := hN
                clear hN hS9 hHeld
                have hh : Evk Y1 g24 x.e := hQ1.out.evAt (b := g24) (e := x.e) (List.Mem.tail _ (List.Mem.tail _ (List.Mem.head _)))
                refine hK.out _ _ hh (fun hHeld => ?_)
                clear hK K hh
                try simp only [Act.put, List.setIfInBounds_toArray, List.set_cons_zero, List.set_cons_succ]
                refine wpAnyH_ready (rs := [0]) (by kernel_rfl) (by simp) ?_
                refine AllReadyH.cons rfl (fun K hK => ?_) AllReadyH.nil
                refine step_lit0 rfl rfl rfl hQ1.out ?_
                intro gq2 Y2 hN
                have hQ2 : Hid (St w Y2 (inl (.slice (some ⟨gq2, 0, none⟩) 0 0) [] :: inl (.slice (some ⟨gq1, 0, none⟩) 1 1) [z] :: cel c p (n : Nat) l s f (wait ++ [z]) taken :: evT g24 x.e :: inkT g19 x :: askT g18 ⟨2, qn, qm, x⟩ :: inl (.slice sa wait.length sc) wait :: inl u14 taken :: pkT gp (.slice ua p.os.length uc) p :: opT (.slice ua p.os.length uc) p.os :: [])) := hN
                clear hN hQ1 hHeld
                have hh : Evk Y2 g24 x.e := hQ2.out.evAt (b := g24) (e := x.e) (List.Mem.tail _ (List.Mem.tail _ (List.Mem.tail _ (List.Mem.head _))))
                refine hK.out _ _ hh (fun hHeld => ?_)
                clear hK K hh
                try simp only [Act.put, List.setIfInBounds_toArray, List.set_cons_zero, List.set_cons_succ]
                refine wpAnyH_ready (rs := [2]) (by kernel_rfl) (by simp) ?_
                refine AllReadyH.cons rfl (fun K hK => ?_) AllReadyH.nil
                obtain ⟨qb3, hq3, _, _⟩ := (hQ2.out.qvAt (v := (.slice sa wait.length sc)) (is := wait) (List.Mem.tail _ (List.Mem.tail _ (List.Mem.tail _ (List.Mem.tail _ (List.Mem.tail _ (List.Mem.tail _ (List.Mem.head _)))))))).1.rdi (hQ2.out.qvAt (v := (.slice sa wait.length sc)) (is := wait) (List.Mem.tail _ (List.Mem.tail _ (List.Mem.tail _ (List.Mem.tail _ (List.Mem.tail _ (List.Mem.tail _ (List.Mem.head _)))))))).2 0
                refine step_append_St rfl rfl (.tmp 185) (.tmp 186) rfl (.slice (some ⟨gq2, 0, none⟩) 0 0) [] rfl hQ2.out (.slice sa wait.length sc) qb3 wait rfl hq3 (by have := hwt; simp only [List.length_nil]; go_light; omega) ?_
                intro v3 Y3 hN
                rw [List.nil_append] at hN
                have hQ3 : Hid (St w Y3 (inl v3 wait :: inl (.slice (some ⟨gq1, 0, none⟩) 1 1) [z] :: cel c p (n : Nat) l s f (wait ++ [z]) taken :: evT g24 x.e :: inkT g19 x :: askT g18 ⟨2, qn, qm, x⟩ :: inl (.slice sa wait.length sc) wait :: inl u14 taken :: pkT gp (.slice ua p.os.length uc) p :: opT (.slice ua p.os.length uc) p.os :: [])) := hN
                clear hN hq3 hQ2 hHeld
                have hh : Evk Y3 g24 x.e := hQ3.out.evAt (b := g24) (e := x.e) (List.Mem.tail _ (List.Mem.tail _ (List.Mem.tail _ (List.Mem.head _))))
                refine hK.out _ _ hh (fun hHeld => ?_)
                clear hK K hh
                try simp only [Act.put, List.setIfInBounds_toArray, List.set_cons_zero, List.set_cons_succ]
                refine wpAnyH_ready (rs := [6]) (by kernel_rfl) (by simp) ?_
                refine AllReadyH.cons rfl (fun K hK => ?_) AllReadyH.nil
                obtain ⟨qb4, hq4, _, _⟩ := (hQ3.out.qvAt (v := (.slice (some ⟨gq1, 0, none⟩) 1 1)) (is := [z]) (List.Mem.tail _ (List.Mem.head _))).1.rdi (hQ3.out.qvAt (v := (.slice (some ⟨gq1, 0, none⟩) 1 1)) (is := [z]) (List.Mem.tail _ (List.Mem.head _))).2 0
                refine step_append_St rfl rfl (.tmp 187) (.tmp 190) rfl v3 wait rfl hQ3.out (.slice (some ⟨gq1, 0, none⟩) 1 1) qb4 [z] rfl hq4 (by have := hwt; simp only [List.length_cons, List.length_nil]; go_light; omega) ?_
                intro v4 Y4 hN
                have hQ4 : Hid (St w Y4 (inl v4 (wait ++ [z]) :: inl (.slice (some ⟨gq1, 0, none⟩) 1 1) [z] :: cel c p (n : Nat) l s f (wait ++ [z]) taken :: evT g24 x.e :: inkT g19 x :: askT g18 ⟨2, qn, qm, x⟩ :: inl (.slice sa wait.length sc) wait :: inl u14 taken :: pkT gp (.slice ua p.os.length uc) p :: opT (.slice ua p.os.length uc) p.os :: [])) := hN
                clear hN hq4 hQ3 hHeld
                have hh : Evk Y4 g24 x.e := hQ4.out.evAt (b := g24) (e := x.e) (List.Mem.tail _ (List.Mem.tail _ (List.Mem.tail _ (List.Mem.head _))))
                refine hK.out _ _ hh (fun hHeld => ?_)
                clear hK K hh
                try simp only [Act.put, List.setIfInBounds_toArray, List.set_cons_zero, List.set_cons_succ]
                refine take_at (i := 7) (v := v4) rfl rfl (by kernel_rfl) (by kernel_rfl) (by kernel_rfl) (fun _ _ _ h => h) (Or.inl ⟨by rfl, fun X _ => as_op _ _ rfl rfl⟩) hHeld ?_
                try simp only [Act.put, List.setIfInBounds_toArray, List.set_cons_zero, List.set_cons_succ]
                refine wpAnyH_done (by kernel_rfl) ?_ _
                clear hHeld
                go_wp2_with fail
                refine Met.intro ?_
                go_step
                refine And.left (b := True) ?_
                go_big_round
                refine ⟨?_, trivial⟩
                exact ⟨c, l, s, f, (wait ++ [z]), taken, rfl, rfl, rfl, hI2, (hQ4.out.re [1, 3, 4, 5, 6, 2, 0, 7, 8, 9] 10).drop.drop.drop.drop.drop⟩
          have hk2 : (kd == 2) = false := by simpa using h2
          by_cases h3 : kd = 3
          · subst h3
            as_aux_lemma =>
              obtain ⟨hl0, hl30, hsum, hs0, hs30, hf0, hfj, hwt⟩ := hI.out
              obtain ⟨sa, sc, rfl, hwc1, hwc2, hwc3⟩ := (hS7.out.qvAt (v := u13) (is := wait) (List.Mem.tail _ (List.Mem.tail _ (List.Mem.tail _ (List.Mem.head _))))).1.len
              obtain ⟨kk, hkk⟩ := fst_ex qn wait.length
              have hkk' : Hid (Fst qn wait.length kk) := hkk
              have hkl := hkk.le
              go_upto_region 40 with fail
              go_cut [25] from 194 to 199 (fun y wx => y = .int .i64 ((kk : Nat) : Int) ∧ wx = V6)
              case first =>
                obtain ⟨d0, d1, d2, d3, d4, d5, d6, d7⟩ := (hS7.out.akAt (b := g18) (q := ⟨3, qn, qm, x⟩) (List.Mem.tail _ (List.Mem.head _))).c
                simp only [Nat.zero_add] at d0 d1 d2 d3 d4 d5 d6 d7
                rcases hkk with ⟨h4, h5⟩ | ⟨h4, h5, h6⟩ | ⟨h4, h5⟩
                · go_wp2_with fail
                  refine Met.intro ?_
                  go_step
                  refine And.left (b := True) ?_
                  go_big_round
                  refine ⟨?_, trivial⟩
                  exact ⟨by first | rfl | (rw [h5]; rfl) | simp [h5], rfl⟩
                · have h7 : (kk : Int) ≤ ((wait.length : Nat) : Int) := by go_light; omega
                  go_wp2_with fail
                  refine Met.intro ?_
                  go_step
                  refine And.left (b := True) ?_
                  go_big_round
                  refine ⟨?_, trivial⟩
                  exact ⟨by first | rfl | rw [h6], rfl⟩
                · go_wp2_with fail
                  refine Met.intro ?_
                  go_step
                  refine And.left (b := True) ?_
                  go_big_round
                  refine ⟨?_, trivial⟩
                  exact ⟨by first | rfl | (rw [h5]; rfl) | simp [h5], rfl⟩
              obtain ⟨rfl, he⟩ := hcut
              obtain rfl := he.symm
              clear he hkk
              have hk : O.Pik V6 gp (.slice ua p.os.length uc) p.n p.s p.a p.k p.f := hS7.out.pkAt (b := gp) (v := .slice ua p.os.length uc) (p := p) (List.Mem.tail _ (List.Mem.tail _ (List.Mem.tail _ (List.Mem.tail _ (List.Mem.tail _ (List.Mem.head _))))))
              have c0 := hk.c0
              have c1 := hk.c1
              have c2 := hk.c2
              have c3 := hk.c3
              have c4 := hk.c4
              have c5 := hk.c5
              clear hk
              go_wp2_with fail
              refine (whole_st p (.slice ua p.os.length uc) u14 taken _ hS7.out (List.Mem.tail _ (List.Mem.tail _ (List.Mem.tail _ (List.Mem.tail _ (List.Mem.tail _ (List.Mem.tail _ (List.Mem.head _))))))) (List.Mem.tail _ (List.Mem.tail _ (List.Mem.tail _ (List.Mem.tail _ (List.Mem.head _))))) hrb.out hnb.out (by go_light; omega)).mono ?_
              rintro e V7 ⟨ha, hc, rfl, hN⟩
              obtain ⟨R1, hR1⟩ : ∃ y, Hid (rowsR p r0 taken = y) := ⟨_, rfl⟩
              obtain ⟨N1, hN1⟩ : ∃ y, Hid (R1.length = y) := ⟨_, rfl⟩
              rw [hR1.out, hN1.out] at hN
              rw [hR1.out, hN1.out]
              have hS8 : Hid (St w V7 (rwl (.slice ha N1 hc) R1 :: inkT g19 x :: askT g18 ⟨3, qn, qm, x⟩ :: cel c p (n : Nat) l s f wait taken :: inl (.slice sa wait.length sc) wait :: inl u14 taken :: pkT gp (.slice ua p.os.length uc) p :: opT (.slice ua p.os.length uc) p.os :: [])) := hN
              clear hN hS7
              clear c0 c1 c2 c3 c4 c5
              go_upto_region 42 with fail
              refine wp_region_held_drew (S := fun X => True) (by kernel_rfl) trivial (fun hHeld => ?_)
              have hT : Hid (St w V7.drew (rwl (.slice ha N1 hc) R1 :: inkT g19 x :: askT g18 ⟨3, qn, qm, x⟩ :: cel c p (n : Nat) l s f wait taken :: inl (.slice sa wait.length sc) wait :: inl u14 taken :: pkT gp (.slice ua p.os.length uc) p :: opT (.slice ua p.os.length uc) p.os :: [])) := hS8.out.below (Below.refl _ _).drew
              clear hS8
              generalize V7.drew = V at hHeld hT ⊢
              have hS8 := hT
              clear hT
              refine take_at (i := 1) (v := u14) rfl rfl (by kernel_rfl) (by kernel_rfl) (by kernel_rfl) (fun _ _ _ h => h) (Or.inl ⟨by rfl, fun X _ => mv_op _ _ rfl rfl⟩) hHeld ?_
              try simp only [Act.put, List.setIfInBounds_toArray, List.set_cons_zero, List.set_cons_succ]
              refine take_at (i := 3) (v := .slice sa wait.length sc) rfl rfl (by kernel_rfl) (by kernel_rfl) (by kernel_rfl) (fun _ _ _ h => h) (Or.inl ⟨by rfl, fun X _ => mv_op _ _ rfl rfl⟩) hHeld ?_
              try simp only [Act.put, List.setIfInBounds_toArray, List.set_cons_zero, List.set_cons_succ]
              refine take_at (i := 4) (v := .int .i64 ((kk : Nat) : Int)) rfl rfl (by kernel_rfl) (by kernel_rfl) (by kernel_rfl) (fun _ _ _ h => h) (Or.inl ⟨by rfl, fun X _ => mv_op _ _ rfl rfl⟩) hHeld ?_
              try simp only [Act.put, List.setIfInBounds_toArray, List.set_cons_zero, List.set_cons_succ]
              refine take_at (i := 5) (v := .slice sa kk sc) rfl rfl (by kernel_rfl) (by kernel_rfl) (by kernel_rfl) (fun _ _ _ h => h) (Or.inl ⟨by rfl, fun X _ => slice_hd44 _ _ sa wait.length sc kk rfl rfl rfl (by go_light; omega) hwc2 hwc3⟩) hHeld ?_
              try simp only [Act.put, List.setIfInBounds_toArray, List.set_cons_zero, List.set_cons_succ]
              refine take_at (i := 7) (v := .slice sa wait.length sc) rfl rfl (by kernel_rfl) (by kernel_rfl) (by kernel_rfl) (fun _ _ _ h => h) (Or.inl ⟨by rfl, fun X _ => mv_op _ _ rfl rfl⟩) hHeld ?_
              try simp only [Act.put, List.setIfInBounds_toArray, List.set_cons_zero, List.set_cons_succ]
              refine take_at (i := 8) (v := .int .i64 ((kk : Nat) : Int)) rfl rfl (by kernel_rfl) (by kernel_rfl) (by kernel_rfl) (fun _ _ _ h => h) (Or.inl ⟨by rfl, fun X _ => mv_op _ _ rfl rfl⟩) hHeld ?_
              try simp only [Act.put, List.setIfInBounds_toArray, List.set_cons_zero, List.set_cons_succ]
              refine take_at (i := 9) (v := .slice (tlA sa sc kk) (wait.length - kk) (sc - kk)) rfl rfl (by kernel_rfl) (by kernel_rfl) (by kernel_rfl) (fun _ _ _ h => h) (Or.inl ⟨by rfl, fun X _ => slice_tl44 _ _ sa wait.length sc kk rfl rfl rfl hkl hwc1 hwc2 hwc3⟩) hHeld ?_
              try simp only [Act.put, List.setIfInBounds_toArray, List.set_cons_zero, List.set_cons_succ]
              refine wpAnyH_ready (rs := [0]) (by kernel_rfl) (by simp) ?_
              refine AllReadyH.cons rfl (fun K hK => ?_) AllReadyH.nil
              refine step_lit0 rfl rfl rfl hS8.out ?_
              intro gq1 Y1 hN
              have hQ1 : Hid (St w Y1 (inl (.slice (some ⟨gq1, 0, none⟩) 0 0) [] :: rwl (.slice ha N1 hc) R1 :: inkT g19 x :: askT g18 ⟨3, qn, qm, x⟩ :: cel c p (n : Nat) l s f wait taken :: inl (.slice sa wait.length sc) wait :: inl u14 taken :: pkT gp (.slice ua p.os.length uc) p :: opT (.slice ua p.os.length uc) p.os :: [])) := hN
              clear hN hS8 hHeld
              have hh : True := trivial
              refine hK.out _ _ hh (fun hHeld => ?_)
              clear hK K hh
              try simp only [Act.put, List.setIfInBounds_toArray, List.set_cons_zero, List.set_cons_succ]
              refine wpAnyH_ready (rs := [2]) (by kernel_rfl) (by simp) ?_
              refine AllReadyH.cons rfl (fun K hK => ?_) AllReadyH.nil
              obtain ⟨qb2, hq2, _, _⟩ := (hQ1.out.qvAt (v := u14) (is := taken) (List.Mem.tail _ (List.Mem.tail _ (List.Mem.tail _ (List.Mem.tail _ (List.Mem.tail _ (List.Mem.tail _ (List.Mem.head _)))))))).1.rdi (hQ1.out.qvAt (v := u14) (is := taken) (List.Mem.tail _ (List.Mem.tail _ (List.Mem.tail _ (List.Mem.tail _ (List.Mem.tail _ (List.Mem.tail _ (List.Mem.head _)))))))).2 0
              refine step_append_St rfl rfl (.tmp 203) (.tmp 204) rfl (.slice (some ⟨gq1, 0, none⟩) 0 0) [] rfl hQ1.out u14 qb2 taken rfl hq2 (by have := hwt; simp only [List.length_nil]; go_light; omega) ?_
              intro v2 Y2 hN
              rw [List.nil_append] at hN
              have hQ2 : Hid (St w Y2 (inl v2 taken :: rwl (.slice ha N1 hc) R1 :: inkT g19 x :: askT g18 ⟨3, qn, qm, x⟩ :: cel c p (n : Nat) l s f wait taken :: inl (.slice sa wait.length sc) wait :: inl u14 taken :: pkT gp (.slice ua p.os.length uc) p :: opT (.slice ua p.os.length uc) p.os :: [])) := hN
              clear hN hq2 hQ1 hHeld
              have hh : True := trivial
              refine hK.out _ _ hh (fun hHeld => ?_)
              clear hK K hh
              try simp only [Act.put, List.setIfInBounds_toArray, List.set_cons_zero, List.set_cons_succ]
              refine wpAnyH_ready (rs := [6]) (by kernel_rfl) (by simp) ?_
              refine AllReadyH.cons rfl (fun K hK => ?_) AllReadyH.nil
              have hwl := hQ2.out.qvAt (v := (.slice sa wait.length sc)) (is := wait) (List.Mem.tail _ (List.Mem.tail _ (List.Mem.tail _ (List.Mem.tail _ (List.Mem.tail _ (List.Mem.head _))))))
              obtain ⟨qb9, hq9, _, _⟩ := (hwl.1.take kk hkl).rdi (fun i hi => hwl.2 i (List.mem_of_mem_take hi)) 0
              clear hwl
              refine step_append_St rfl rfl (.tmp 205) (.tmp 208) rfl v2 taken rfl hQ2.out (.slice sa kk sc) qb9 (wait.take kk) rfl hq9 (by rw [List.length_take]; go_light; omega) ?_
              intro v9 Y9 hN
              have hQ9 : Hid (St w Y9 (inl v9 (taken ++ wait.take kk) :: rwl (.slice ha N1 hc) R1 :: inkT g19 x :: askT g18 ⟨3, qn, qm, x⟩ :: cel c p (n : Nat) l s f wait taken :: inl (.slice sa wait.length sc) wait :: inl u14 taken :: pkT gp (.slice ua p.os.length uc) p :: opT (.slice ua p.os.length uc) p.os :: [])) := hN
              clear hN hq9 hQ2 hHeld
              have hh : True := trivial
              refine hK.out _ _ hh (fun hHeld => ?_)
              clear hK K hh
              try simp only [Act.put, List.setIfInBounds_toArray, List.set_cons_zero, List.set_cons_succ]
              refine take_at (i := 10) (v := v9) rfl rfl (by kernel_rfl) (by kernel_rfl) (by kernel_rfl) (fun _ _ _ h => h) (Or.inl ⟨by rfl, fun X _ => as_op _ _ rfl rfl⟩) hHeld ?_
              try simp only [Act.put, List.setIfInBounds_toArray, List.set_cons_zero, List.set_cons_succ]
              refine take_at (i := 11) (v := .slice (tlA sa sc kk) (wait.length - kk) (sc - kk)) rfl rfl (by kernel_rfl) (by kernel_rfl) (by kernel_rfl) (fun _ _ _ h => h) (Or.inl ⟨by rfl, fun X _ => as_op _ _ rfl rfl⟩) hHeld ?_
              try simp only [Act.put, List.setIfInBounds_toArray, List.set_cons_zero, List.set_cons_succ]
              refine wpAnyH_done (by kernel_rfl) ?_ _
              clear hHeld
              have hcutq := qv_cut (hQ9.out.re [5, 0, 1, 2, 3, 4] 6).qv.1 kk hkl (tlA sa sc kk) rfl
              have hN : St w Y9 (inl (.slice (tlA sa sc kk) (wait.length - kk) (sc - kk)) (wait.drop kk) :: inl v9 (taken ++ wait.take kk) :: rwl (.slice ha N1 hc) R1 :: inkT g19 x :: askT g18 ⟨3, qn, qm, x⟩ :: cel c p (n : Nat) l s f wait taken :: inl u14 taken :: pkT gp (.slice ua p.os.length uc) p :: opT (.slice ua p.os.length uc) p.os :: []) := (hQ9.out.re [5, 0, 1, 2, 3, 4] 6).part hcutq.1 (fun i hi => (hQ9.out.re [5, 0, 1, 2, 3, 4] 6).qv.2 i (List.mem_of_mem_drop hi)) hcutq.2
              have hS9 : Hid (St w Y9 (rwl (.slice ha N1 hc) R1 :: askT g18 ⟨3, qn, qm, x⟩ :: cel c p (n : Nat) l s f wait taken :: inl (.slice (tlA sa sc kk) (wait.length - kk) (sc - kk)) (wait.drop kk) :: inl v9 (taken ++ wait.take kk) :: pkT gp (.slice ua p.os.length uc) p :: opT (.slice ua p.os.length uc) p.os :: [])) := (hN.re [3, 6, 2, 4, 5, 0, 1, 7, 8] 9).drop.drop
              clear hN hcutq hQ9
              have hI2 : Hid (Ip mo (j + 1) l s f (wait.drop kk) (taken ++ wait.take kk)) := by
                have h : Ip mo (j + 1) l s f (wait.drop kk) (taken ++ wait.take kk) := ⟨hl0, hl30, hsum, hs0, hs30, hf0, by go_light; omega, by rw [List.length_drop, List.length_append, List.length_take]; omega⟩
                exact h
              have h12 : Hid (rowsR p r0 (taken ++ wait.take kk) = R1 ++ rowsR p (stR p r0 taken) (wait.take kk)) := by
                have h := rowsR_append p taken r0 (wait.take kk)
                rw [hR1.out] at h
                exact h
              have hcap1 := own_cap (hS9.out.rwAt (v := .slice ha N1 hc) (R := R1) (List.Mem.head _))
              clear hI
              go_upto_region 43 with fail
              have hP : Akk Y9 g18 ⟨3, qn, qm, x⟩ ∧ O.Pik Y9 gp (.slice ua p.os.length uc) p.n p.s p.a p.k p.f := ⟨hS9.out.akAt (b := g18) (q := ⟨3, qn, qm, x⟩) (List.Mem.tail _ (List.Mem.head _)), hS9.out.pkAt (b := gp) (v := .slice ua p.os.length uc) (p := p) (List.Mem.tail _ (List.Mem.tail _ (List.Mem.tail _ (List.Mem.tail _ (List.Mem.tail _ (List.Mem.head _))))))⟩
              refine wp_region_held_drew (S := fun X => Akk X g18 ⟨3, qn, qm, x⟩ ∧ O.Pik X gp (.slice ua p.os.length uc) p.n p.s p.a p.k p.f) (by kernel_rfl) hP (fun hHeld => ?_)
              have hT : Hid (St w Y9.drew (rwl (.slice ha N1 hc) R1 :: askT g18 ⟨3, qn, qm, x⟩ :: cel c p (n : Nat) l s f wait taken :: inl (.slice (tlA sa sc kk) (wait.length - kk) (sc - kk)) (wait.drop kk) :: inl v9 (taken ++ wait.take kk) :: pkT gp (.slice ua p.os.length uc) p :: opT (.slice ua p.os.length uc) p.os :: [])) := hS9.out.below (Below.refl _ _).drew
              clear hS9
              clear hP
              generalize Y9.drew = V at hHeld hT ⊢
              have hS9 := hT
              clear hT
              refine take_at (i := 0) (v := .pointer (some ⟨c, 0, none⟩)) rfl rfl (by kernel_rfl) (by kernel_rfl) (by kernel_rfl) (fun _ _ _ h => h) (Or.inl ⟨by rfl, fun X _ => mv_op _ _ rfl rfl⟩) hHeld ?_
              try simp only [Act.put, List.setIfInBounds_toArray, List.set_cons_zero, List.set_cons_succ]
              refine take_at (i := 1) (v := .pointer (some ⟨g18, 1, none⟩)) rfl rfl (by kernel_rfl) (by kernel_rfl) (by kernel_rfl) (fun _ _ _ h => h) (Or.inl ⟨by rfl, fun X _ => fa58_op _ g18 rfl rfl⟩) hHeld ?_
              try simp only [Act.put, List.setIfInBounds_toArray, List.set_cons_zero, List.set_cons_succ]
              refine take_at (i := 2) (v := .int .i64 qn) rfl rfl (by kernel_rfl) (by kernel_rfl) (by kernel_rfl) (fun _ _ _ h => h) (Or.inl ⟨by rfl, fun X hX => ld3_op _ g18 qn rfl rfl hX.1.c.2.1⟩) hHeld ?_
              try simp only [Act.put, List.setIfInBounds_toArray, List.set_cons_zero, List.set_cons_succ]
              refine take_at (i := 4) (v := O.pv (.slice ua p.os.length uc) p.n p.s p.a p.k p.f) rfl rfl (by kernel_rfl) (by kernel_rfl) (by kernel_rfl) (fun _ _ _ h => h) (Or.inl ⟨by rfl, fun X hX => ld26_op _ gp _ _ _ _ _ _ rfl rfl hX.2⟩) hHeld ?_
              try simp only [Act.put, List.setIfInBounds_toArray, List.set_cons_zero, List.set_cons_succ]
              refine take_at (i := 5) (v := v9) rfl rfl (by kernel_rfl) (by kernel_rfl) (by kernel_rfl) (fun _ _ _ h => h) (Or.inl ⟨by rfl, fun X _ => mv_op _ _ rfl rfl⟩) hHeld ?_
              try simp only [Act.put, List.setIfInBounds_toArray, List.set_cons_zero, List.set_cons_succ]
              refine take_at (i := 7) (v := .slice ha N1 hc) rfl rfl (by kernel_rfl) (by kernel_rfl) (by kernel_rfl) (fun _ _ _ h => h) (Or.inl ⟨by rfl, fun X _ => mv_op _ _ rfl rfl⟩) hHeld ?_
              try simp only [Act.put, List.setIfInBounds_toArray, List.set_cons_zero, List.set_cons_succ]
              refine take_at (i := 8) (v := .int .i64 ((N1 : Nat) : Int)) rfl rfl (by kernel_rfl) (by kernel_rfl) (by kernel_rfl) (fun _ _ _ h => h) (Or.inl ⟨by rfl, fun X _ => len_op34 _ _ _ _ rfl rfl⟩) hHeld ?_
              try simp only [Act.put, List.setIfInBounds_toArray, List.set_cons_zero, List.set_cons_succ]
              refine wpAnyH_ready (rs := [3]) (by kernel_rfl) (by simp) ?_
              refine AllReadyH.cons rfl (fun K hK => ?_) AllReadyH.nil
              refine step_call2 rfl rfl 11 cf11 _ _ _ rfl (.pointer (some ⟨c, 0, none⟩)) (.int .i64 qn) rfl rfl (serve_is qn _ (hS9.out.re [2, 0, 1] 3) kk hkk'.out (by go_light; omega)) ?_
              rintro e Z1 ⟨u3, rfl, hN⟩
              obtain ⟨R2, hR2⟩ : ∃ y, Hid (rowsR p (stR p r0 taken) (wait.take kk) = y) := ⟨_, rfl⟩
              rw [hR2.out] at hN
              rw [hR2.out] at h12
              have hS10 : Hid (St w Z1 (rwl u3 R2 :: cel c p (n : Nat) l s f (wait.drop kk) (taken ++ wait.take kk) :: rwl (.slice ha N1 hc) R1 :: askT g18 ⟨3, qn, qm, x⟩ :: inl (.slice (tlA sa sc kk) (wait.length - kk) (sc - kk)) (wait.drop kk) :: inl v9 (taken ++ wait.take kk) :: pkT gp (.slice ua p.os.length uc) p :: opT (.slice ua p.os.length uc) p.os :: [])) := hN
              clear hN hS9 hHeld hkk'
              have hh : Akk Z1 g18 ⟨3, qn, qm, x⟩ ∧ O.Pik Z1 gp (.slice ua p.os.length uc) p.n p.s p.a p.k p.f := ⟨hS10.out.akAt (b := g18) (q := ⟨3, qn, qm, x⟩) (List.Mem.tail _ (List.Mem.tail _ (List.Mem.tail _ (List.Mem.head _)))), hS10.out.pkAt (b := gp) (v := .slice ua p.os.length uc) (p := p) (List.Mem.tail _ (List.Mem.tail _ (List.Mem.tail _ (List.Mem.tail _ (List.Mem.tail _ (List.Mem.tail _ (List.Mem.head _)))))))⟩
              refine ⟨_, rfl, ?_⟩
              refine hK.out _ _ (hh) (fun hHeld => ?_)
              clear hK K
              try simp only [Act.put, List.setIfInBounds_toArray, List.set_cons_zero, List.set_cons_succ]
              clear hh
              refine wpAnyH_ready (rs := [6]) (by kernel_rfl) (by simp) ?_
              refine AllReadyH.cons rfl (fun K hK => ?_) AllReadyH.nil
              refine step_call2 rfl rfl 19 cf19 _ _ _ rfl (O.pv (.slice ua p.os.length uc) p.n p.s p.a p.k p.f) v9 rfl rfl (whole_st p (.slice ua p.os.length uc) v9 (taken ++ wait.take kk) _ hS10.out (List.Mem.tail _ (List.Mem.tail _ (List.Mem.tail _ (List.Mem.tail _ (List.Mem.tail _ (List.Mem.tail _ (List.Mem.tail _ (List.Mem.head _)))))))) (List.Mem.tail _ (List.Mem.tail _ (List.Mem.tail _ (List.Mem.tail _ (List.Mem.tail _ (List.Mem.head _)))))) hrb.out hnb.out (by rw [List.length_append, List.length_take]; go_light; omega)) ?_
              rintro e Z2 ⟨ba, bc, rfl, hN⟩
              obtain ⟨R3, hR3⟩ : ∃ y, Hid (rowsR p r0 (taken ++ wait.take kk) = y) := ⟨_, rfl⟩
              obtain ⟨N3, hN3⟩ : ∃ y, Hid (R3.length = y) := ⟨_, rfl⟩
              rw [hR3.out, hN3.out] at hN
              rw [hR3.out] at h12
              rw [hR3.out, hN3.out]
              have hS11 : Hid (St w Z2 (rwl (.slice ba N3 bc) R3 :: rwl u3 R2 :: cel c p (n : Nat) l s f (wait.drop kk) (taken ++ wait.take kk) :: rwl (.slice ha N1 hc) R1 :: askT g18 ⟨3, qn, qm, x⟩ :: inl (.slice (tlA sa sc kk) (wait.length - kk) (sc - kk)) (wait.drop kk) :: inl v9 (taken ++ wait.take kk) :: pkT gp (.slice ua p.os.length uc) p :: opT (.slice ua p.os.length uc) p.os :: [])) := hN
              clear hN hS10 hHeld
              have hh : Akk Z2 g18 ⟨3, qn, qm, x⟩ ∧ O.Pik Z2 gp (.slice ua p.os.length uc) p.n p.s p.a p.k p.f := ⟨hS11.out.akAt (b := g18) (q := ⟨3, qn, qm, x⟩) (List.Mem.tail _ (List.Mem.tail _ (List.Mem.tail _ (List.Mem.tail _ (List.Mem.head _))))), hS11.out.pkAt (b := gp) (v := .slice ua p.os.length uc) (p := p) (List.Mem.tail _ (List.Mem.tail _ (List.Mem.tail _ (List.Mem.tail _ (List.Mem.tail _ (List.Mem.tail _ (List.Mem.tail _ (List.Mem.head _))))))))⟩
              have hcap3 := own_cap (hS11.out.rwAt (v := .slice ba N3 bc) (R := R3) (List.Mem.head _))
              rw [hN3.out] at hcap3
              obtain ⟨hc31, hc32, hc33⟩ := hcap3
              have hN13 : N1 ≤ N3 := by
                rw [← hN1.out, ← hN3.out, h12.out, List.length_append]
                omega
              have hR23 : Hid ((R3.drop N1).take (N3 - N1) = R2) := by
                have h : (R3.drop N1).take (N3 - N1) = R2 := by
                  rw [← hN3.out, h12.out, ← hN1.out, List.drop_left, List.length_append, Nat.add_sub_cancel_left, List.take_length]
                exact h
              refine ⟨_, rfl, ?_⟩
              refine hK.out _ _ (hh) (fun hHeld => ?_)
              clear hK K
              try simp only [Act.put, List.setIfInBounds_toArray, List.set_cons_zero, List.set_cons_succ]
              clear hh
              refine take_at (i := 9) (v := .slice (tlA ba bc N1) (N3 - N1) (bc - N1)) rfl rfl (by kernel_rfl) (by kernel_rfl) (by kernel_rfl) (fun _ _ _ h => h) (Or.inl ⟨by rfl, fun X _ => slice_tl34 _ _ ba N3 bc N1 rfl rfl rfl hN13 hc31 hc32 hc33⟩) hHeld ?_
              try simp only [Act.put, List.setIfInBounds_toArray, List.set_cons_zero, List.set_cons_succ]
              refine wpAnyH_ready (rs := [10]) (by kernel_rfl) (by simp) ?_
              refine AllReadyH.cons rfl (fun K hK => ?_) AllReadyH.nil
              have g1 := rdr_own (hS11.out.rwAt (v := u3) (R := R2) (List.Mem.tail _ (List.Mem.head _)))
              have g2 := rdr_part (rdr_own (hS11.out.rwAt (v := .slice ba N3 bc) (R := R3) (List.Mem.head _))) N1 (N3 - N1) (by rw [hN3.out]; go_light; omega) (tlA ba bc N1) rfl
              rw [hR23.out] at g2
              refine step_call2 rfl rfl 13 cf13 _ _ _ rfl u3 (.slice (tlA ba bc N1) (N3 - N1) (bc - N1)) rfl rfl (same_r u3 (.slice (tlA ba bc N1) (N3 - N1) (bc - N1)) R2 _ g1 g2) ?_
              rintro e Z3 ⟨rfl, hb3⟩
              have hS12 : Hid (St w Z3 (rwl (.slice ba N3 bc) R3 :: rwl u3 R2 :: cel c p (n : Nat) l s f (wait.drop kk) (taken ++ wait.take kk) :: rwl (.slice ha N1 hc) R1 :: askT g18 ⟨3, qn, qm, x⟩ :: inl (.slice (tlA sa sc kk) (wait.length - kk) (sc - kk)) (wait.drop kk) :: inl v9 (taken ++ wait.take kk) :: pkT gp (.slice ua p.os.length uc) p :: opT (.slice ua p.os.length uc) p.os :: [])) := hS11.out.below hb3
              clear g1 g2 hb3 hS11 hHeld
              have hh : Akk Z3 g18 ⟨3, qn, qm, x⟩ ∧ O.Pik Z3 gp (.slice ua p.os.length uc) p.n p.s p.a p.k p.f := ⟨hS12.out.akAt (b := g18) (q := ⟨3, qn, qm, x⟩) (List.Mem.tail _ (List.Mem.tail _ (List.Mem.tail _ (List.Mem.tail _ (List.Mem.head _))))), hS12.out.pkAt (b := gp) (v := .slice ua p.os.length uc) (p := p) (List.Mem.tail _ (List.Mem.tail _ (List.Mem.tail _ (List.Mem.tail _ (List.Mem.tail _ (List.Mem.tail _ (List.Mem.tail _ (List.Mem.head _))))))))⟩
              refine ⟨_, rfl, ?_⟩
              refine hK.out _ _ (hh) (fun hHeld => ?_)
              clear hK K
              try simp only [Act.put, List.setIfInBounds_toArray, List.set_cons_zero, List.set_cons_succ]
              clear hh
              refine take_at (i := 11) (v := .bool false) rfl rfl (by kernel_rfl) (by kernel_rfl) (by kernel_rfl) (fun _ _ _ h => h) (Or.inl ⟨by rfl, fun X _ => not_op _ true rfl rfl⟩) hHeld ?_
              try simp only [Act.put, List.setIfInBounds_toArray, List.set_cons_zero, List.set_cons_succ]
              refine wpAnyH_done (by kernel_rfl) ?_ _
              clear hHeld
              go_wp2_with fail
              refine Met.intro ?_
              go_step
              refine And.left (b := True) ?_
              go_big_round
              refine ⟨?_, trivial⟩
              exact ⟨c, l, s, f, (wait.drop kk), (taken ++ wait.take kk), rfl, rfl, rfl, hI2, (hS12.out.re [0, 1, 3, 4, 2, 5, 6, 7, 8] 9).drop.drop.drop.drop⟩
          have hk3 : (kd == 3) = false := by simpa using h3
          by_cases h4 : kd = 4
          · subst h4
            as_aux_lemma =>
              obtain ⟨hl0, hl30, hsum, hs0, hs30, hf0, hfj, hwt⟩ := hI.out
              obtain ⟨d0, d1, d2, d3, d4, d5, d6, d7⟩ := (hS7.out.akAt (b := g18) (q := ⟨4, qn, qm, x⟩) (List.Mem.tail _ (List.Mem.head _))).c
              simp only [Nat.zero_add] at d0 d1 d2 d3 d4 d5 d6 d7
              have hk : O.Pik V6 gp (.slice ua p.os.length uc) p.n p.s p.a p.k p.f := hS7.out.pkAt (b := gp) (v := .slice ua p.os.length uc) (p := p) (List.Mem.tail _ (List.Mem.tail _ (List.Mem.tail _ (List.Mem.tail _ (List.Mem.tail _ (List.Mem.head _))))))
              have c0 := hk.c0
              have c1 := hk.c1
              have c2 := hk.c2
              have c3 := hk.c3
              have c4 := hk.c4
              have c5 := hk.c5
              clear hk
              go_wp2_with fail
              refine (whole_st p (.slice ua p.os.length uc) u14 taken _ hS7.out (List.Mem.tail _ (List.Mem.tail _ (List.Mem.tail _ (List.Mem.tail _ (List.Mem.tail _ (List.Mem.tail _ (List.Mem.head _))))))) (List.Mem.tail _ (List.Mem.tail _ (List.Mem.tail _ (List.Mem.tail _ (List.Mem.head _))))) hrb.out hnb.out (by go_light; omega)).mono ?_
              rintro e V7 ⟨aa, ac, rfl, hN⟩
              obtain ⟨R1, hR1⟩ : ∃ y, Hid (rowsR p r0 taken = y) := ⟨_, rfl⟩
              obtain ⟨N1, hN1⟩ : ∃ y, Hid (R1.length = y) := ⟨_, rfl⟩
              rw [hR1.out, hN1.out] at hN
              rw [hR1.out, hN1.out]
              have hS8 : Hid (St w V7 (rwl (.slice aa N1 ac) R1 :: inkT g19 x :: askT g18 ⟨4, qn, qm, x⟩ :: cel c p (n : Nat) l s f wait taken :: inl u13 wait :: inl u14 taken :: pkT gp (.slice ua p.os.length uc) p :: opT (.slice ua p.os.length uc) p.os :: [])) := hN
              have hcap := own_cap (hS8.out.rwAt (v := .slice aa N1 ac) (R := R1) (List.Mem.head _))
              rw [hN1.out] at hcap
              obtain ⟨hc1, hc2, hc3⟩ := hcap
              have hI2 : Hid (Ip mo (j + 1) l s f wait taken) := ip_mono hI.out
              have hNl : Hid (N1 ≤ 400) := by
                have h1 : N1 ≤ 400 := by
                  have h := (rows_len p taken).1
                  rw [hR1.out, hN1.out] at h
                  omega
                exact h1
              clear hN hS7 hI
              clear d0 d1 d2 d3 d4 d5 d6 d7
              clear c0 c1 c2 c3 c4 c5
              obtain ⟨d0, d1, d2, d3, d4, d5, d6, d7⟩ := (hS8.out.akAt (b := g18) (q := ⟨4, qn, qm, x⟩) (List.Mem.tail _ (List.Mem.tail _ (List.Mem.head _)))).c
              simp only [Nat.zero_add] at d0 d1 d2 d3 d4 d5 d6 d7
              rcases (show qn < 0 ∨ (0 ≤ qn ∧ ((N1 : Nat) : Int) < qn) ∨ (0 ≤ qn ∧ qn ≤ ((N1 : Nat) : Int)) by go_light; omega) with hq1 | ⟨hq1, hq2⟩ | ⟨hq1, hq2⟩
              · go_wp2_with fail
                refine (crows_no qn qm _ (hS8.out.re [3, 0, 1, 2] 4) (by rw [hR1.out, hN1.out]; go_light; omega)).mono ?_
                rintro e X1 ⟨rfl, he⟩; obtain rfl := he.symm; clear he
                go_wp2_with fail
                refine Met.intro ?_
                go_step
                refine And.left (b := True) ?_
                go_big_round
                refine ⟨?_, trivial⟩
                exact ⟨c, l, s, f, wait, taken, rfl, rfl, rfl, hI2, (hS8.out.re [0, 1, 2, 3, 4, 5, 6, 7] 8).drop.drop.drop⟩
              · go_wp2_with fail
                refine (crows_no qn qm _ (hS8.out.re [3, 0, 1, 2] 4) (by rw [hR1.out, hN1.out]; go_light; omega)).mono ?_
                rintro e X1 ⟨rfl, he⟩; obtain rfl := he.symm; clear he
                go_wp2_with fail
                refine Met.intro ?_
                go_step
                refine And.left (b := True) ?_
                go_big_round
                refine ⟨?_, trivial⟩
                exact ⟨c, l, s, f, wait, taken, rfl, rfl, rfl, hI2, (hS8.out.re [0, 1, 2, 3, 4, 5, 6, 7] 8).drop.drop.drop⟩
              obtain ⟨F, rfl⟩ := Int.eq_ofNat_of_zero_le hq1
              have hF : F ≤ N1 := by go_light; omega
              obtain ⟨m, hm⟩ := rwm_ex qm (N1 - F)
              have hm' : Hid (Rwm qm (N1 - F) m) := hm
              have hml := hm.le
              go_wp2_with fail
              refine (crows_is qm F _ (hS8.out.re [3, 0, 1, 2] 4) (by go_light; omega) (N1 - F) m (by rw [hR1.out, hN1.out]; go_light; omega) hm'.out).mono ?_
              rintro e V8 ⟨u3, rfl, hN⟩
              rw [hR1.out] at hN
              obtain ⟨R2, hR2⟩ : ∃ y, Hid ((R1.drop F).take m = y) := ⟨_, rfl⟩
              rw [hR2.out] at hN
              have hS9 : Hid (St w V8 (rwl u3 R2 :: cel c p (n : Nat) l s f wait taken :: rwl (.slice aa N1 ac) R1 :: inkT g19 x :: askT g18 ⟨4, (F : Int), qm, x⟩ :: inl u13 wait :: inl u14 taken :: pkT gp (.slice ua p.os.length uc) p :: opT (.slice ua p.os.length uc) p.os :: [])) := hN
              clear hN hS8
              clear d0 d1 d2 d3 d4 d5 d6 d7
              obtain ⟨d0, d1, d2, d3, d4, d5, d6, d7⟩ := (hS9.out.akAt (b := g18) (q := ⟨4, ((F : Nat) : Int), qm, x⟩) (List.Mem.tail _ (List.Mem.tail _ (List.Mem.tail _ (List.Mem.tail _ (List.Mem.head _)))))).c
              simp only [Nat.zero_add] at d0 d1 d2 d3 d4 d5 d6 d7
              go_upto_region 51 with fail
              go_cut [30] from 225 to 265 (fun y wx => y = .int .i64 ((F + m : Nat) : Int) ∧ wx = V8)
              case first =>
                have hNl' : N1 ≤ 400 := hNl.out
                rcases hm with ⟨h4, h5⟩ | ⟨h4, h5, h6, h7⟩ | ⟨h4, h5, h6⟩ | ⟨h4, h5, h6, h7⟩
                · subst h5
                  have h8 : ((F : Nat) : Int) ≤ ((N1 : Nat) : Int) := by go_light; omega
                  go_wp2_with fail
                  refine Met.intro ?_
                  go_step
                  refine And.left (b := True) ?_
                  go_big_round
                  refine ⟨?_, trivial⟩
                  exact ⟨by go_num, rfl⟩
                · subst h7
                  rcases Nat.eq_zero_or_pos m with h9 | h9
                  · subst h9
                    have h8 : ((F : Nat) : Int) ≤ ((N1 : Nat) : Int) := by go_light; omega
                    go_wp2_with fail
                    refine Met.intro ?_
                    go_step
                    refine And.left (b := True) ?_
                    go_big_round
                    refine ⟨?_, trivial⟩
                    exact ⟨by go_num, rfl⟩
                  · have h8 : ((F : Nat) : Int) + ((m : Nat) : Int) ≤ ((N1 : Nat) : Int) := by go_light; omega
                    have h10 : (0 : Int) < ((m : Nat) : Int) := by go_light; omega
                    go_wp2_with fail
                    refine Met.intro ?_
                    go_step
                    refine And.left (b := True) ?_
                    go_big_round
                    refine ⟨?_, trivial⟩
                    exact ⟨by go_num, rfl⟩
                · subst h6
                  have h8 : ((F : Nat) : Int) + 32 ≤ ((N1 : Nat) : Int) := by go_light; omega
                  go_wp2_with fail
                  refine Met.intro ?_
                  go_step
                  refine And.left (b := True) ?_
                  go_big_round
                  refine ⟨?_, trivial⟩
                  exact ⟨by go_num, rfl⟩
                · rcases (show qm ≤ 32 ∨ 32 < qm by go_light; omega) with h8 | h8
                  · have h9 : ((N1 : Nat) : Int) < ((F : Nat) : Int) + qm := by go_light; omega
                    have h10 : F + m = N1 := by go_light; omega
                    have h11 : wrap64 (((F : Nat) : Int) + qm) = ((F : Nat) : Int) + qm := wrap_in _ ⟨by go_light; omega, by go_light; omega⟩
                    have h12 : 0 < qm := by go_light; omega
                    go_wp2_with fail
                    refine Met.intro ?_
                    go_step
                    refine And.left (b := True) ?_
                    go_big_round
                    refine ⟨?_, trivial⟩
                    exact ⟨by rw [h10], rfl⟩
                  · have h9 : ((N1 : Nat) : Int) < ((F : Nat) : Int) + 32 := by go_light; omega
                    have h10 : F + m = N1 := by go_light; omega
                    have h11 : wrap64 (((F : Nat) : Int) + 32) = ((F : Nat) : Int) + 32 := wrap_in _ ⟨by go_light; omega, by go_light; omega⟩
                    go_wp2_with fail
                    refine Met.intro ?_
                    go_step
                    refine And.left (b := True) ?_
                    go_big_round
                    refine ⟨?_, trivial⟩
                    exact ⟨by rw [h10], rfl⟩
              obtain ⟨rfl, he⟩ := hcut
              obtain rfl := he.symm
              clear he hm hm'
              have hFm : F + m ≤ N1 := by go_light; omega
              go_upto_region 52 with fail
              by_cases hz : ac - F = 0
              · go_wp2_with fail
                have g1 := rdr_own (hS9.out.rwAt (v := u3) (R := R2) (List.Mem.head _))
                have g2 := rdr_part (rdr_own (hS9.out.rwAt (v := .slice aa N1 ac) (R := R1) (List.Mem.tail _ (List.Mem.tail _ (List.Mem.head _))))) F m (by rw [hN1.out]; go_light; omega) (aa) ((if_pos hz).symm)
                rw [hR2.out, hz] at g2
                refine (same_r u3 (.slice (aa) m 0) R2 _ g1 g2).mono ?_
                rintro e Z3 ⟨rfl, hb3⟩
                have hS12 : Hid (St w Z3 (rwl u3 R2 :: cel c p (n : Nat) l s f wait taken :: rwl (.slice aa N1 ac) R1 :: inkT g19 x :: askT g18 ⟨4, ((F : Nat) : Int), qm, x⟩ :: inl u13 wait :: inl u14 taken :: pkT gp (.slice ua p.os.length uc) p :: opT (.slice ua p.os.length uc) p.os :: [])) := hS9.out.below hb3
                clear g1 g2 hb3 hS9
                go_wp2_with fail
                refine Met.intro ?_
                go_step
                refine And.left (b := True) ?_
                go_big_round
                refine ⟨?_, trivial⟩
                exact ⟨c, l, s, f, wait, taken, rfl, rfl, rfl, hI2, (hS12.out.re [0, 2, 3, 4, 1, 5, 6, 7, 8] 9).drop.drop.drop.drop⟩
              · go_wp2_with fail
                have g1 := rdr_own (hS9.out.rwAt (v := u3) (R := R2) (List.Mem.head _))
                have g2 := rdr_part (rdr_own (hS9.out.rwAt (v := .slice aa N1 ac) (R := R1) (List.Mem.tail _ (List.Mem.tail _ (List.Mem.head _))))) F m (by rw [hN1.out]; go_light; omega) (aa.map (fun x => x.add (F * 5))) ((if_neg hz).symm)
                rw [hR2.out] at g2
                refine (same_r u3 (.slice (aa.map (fun x => x.add (F * 5))) m (ac - F)) R2 _ g1 g2).mono ?_
                rintro e Z3 ⟨rfl, hb3⟩
                have hS12 : Hid (St w Z3 (rwl u3 R2 :: cel c p (n : Nat) l s f wait taken :: rwl (.slice aa N1 ac) R1 :: inkT g19 x :: askT g18 ⟨4, ((F : Nat) : Int), qm, x⟩ :: inl u13 wait :: inl u14 taken :: pkT gp (.slice ua p.os.length uc) p :: opT (.slice ua p.os.length uc) p.os :: [])) := hS9.out.below hb3
                clear g1 g2 hb3 hS9
                go_wp2_with fail
                refine Met.intro ?_
                go_step
                refine And.left (b := True) ?_
                go_big_round
                refine ⟨?_, trivial⟩
                exact ⟨c, l, s, f, wait, taken, rfl, rfl, rfl, hI2, (hS12.out.re [0, 2, 3, 4, 1, 5, 6, 7, 8] 9).drop.drop.drop.drop⟩
          have hk4 : (kd == 4) = false := by simpa using h4
          by_cases h5 : kd = 5
          · subst h5
            as_aux_lemma =>
              obtain ⟨hl0, hl30, hsum, hs0, hs30, hf0, hfj, hwt⟩ := hI.out
              go_wp2_with fail
              refine (ctwin_is _ (hS7.out.re [2, 0, 1] 3) (by go_light; omega) (by go_light; omega) hos.out).mono ?_
              rintro e V7 ⟨c2, rfl, hN⟩
              have hS8 : Hid (St w V7 (cel c2 p (n : Nat) l s f wait taken :: cel c p (n : Nat) l s f wait taken :: inkT g19 x :: askT g18 ⟨5, qn, qm, x⟩ :: inl u13 wait :: inl u14 taken :: pkT gp (.slice ua p.os.length uc) p :: opT (.slice ua p.os.length uc) p.os :: [])) := hN
              have hI2 : Hid (Ip mo (j + 1) l s f wait taken) := ip_mono hI.out
              clear hN hS7 hI
              obtain ⟨E, l2, s2, f2, wait2, hE⟩ := off_ex n 99 ⟨true, ⟨5, 0, 0, 0⟩⟩ l s f wait
              have hE' : Hid (Off n 99 ⟨true, ⟨5, 0, 0, 0⟩⟩ l s f wait E l2 s2 f2 wait2) := hE
              have hw2 : wait2.length ≤ wait.length + 1 := by
                rcases hE with ⟨_, _, _, _, _, e5⟩ | ⟨_, _, _, _, _, _, e5⟩ | ⟨_, _, _, _, _, _, _, e5⟩ | ⟨_, _, _, _, _, _, _, e5⟩ <;> rw [e5] <;> simp
              clear hE
              go_wp2_with fail
              refine (offer_is 99 ⟨true, ⟨5, 0, 0, 0⟩⟩ _ (hS8.out.re [1, 0] 2) hn ⟨hl0, by go_light; omega⟩ ⟨hs0, by go_light; omega⟩ ⟨hf0, by go_light; omega⟩ (by go_light; omega) E l2 s2 f2 wait2 hE'.out).mono ?_
              rintro e V8 ⟨rfl, hN⟩
              have hS9 : Hid (St w V8 (cel c p (n : Nat) l2 s2 f2 wait2 taken :: cel c2 p (n : Nat) l s f wait taken :: inkT g19 x :: askT g18 ⟨5, qn, qm, x⟩ :: inl u13 wait :: inl u14 taken :: pkT gp (.slice ua p.os.length uc) p :: opT (.slice ua p.os.length uc) p.os :: [])) := hN
              clear hN hS8 hE'
              obtain ⟨kk, hkk⟩ := fst_ex 50 wait2.length
              have hkk' : Hid (Fst 50 wait2.length kk) := hkk
              clear hkk
              go_wp2_with fail
              refine (serve_is 50 _ hS9.out kk hkk'.out (by go_light; omega)).mono ?_
              rintro e V9 ⟨u3, rfl, hN⟩
              have hS10 : Hid (St w V9 (rwl u3 (rowsR p (stR p r0 taken) (wait2.take kk)) :: cel c p (n : Nat) l2 s2 f2 (wait2.drop kk) (taken ++ wait2.take kk) :: cel c2 p (n : Nat) l s f wait taken :: inkT g19 x :: askT g18 ⟨5, qn, qm, x⟩ :: inl u13 wait :: inl u14 taken :: pkT gp (.slice ua p.os.length uc) p :: opT (.slice ua p.os.length uc) p.os :: [])) := hN
              clear hN hS9 hkk'
              go_wp2_with fail
              refine Met.intro ?_
              go_step
              refine And.left (b := True) ?_
              go_big_round
              refine ⟨?_, trivial⟩
              exact ⟨c2, l, s, f, wait, taken, rfl, rfl, rfl, hI2, (hS10.out.re [0, 1, 3, 4, 2, 5, 6, 7, 8] 9).drop.drop.drop.drop⟩
          have hk5 : (kd == 5) = false := by simpa using h5
          as_aux_lemma =>
            have hS8 : Hid (St w V6 (cel c p (n : Nat) l s f wait taken :: inl u13 wait :: inl u14 taken :: pkT gp (.slice ua p.os.length uc) p :: opT (.slice ua p.os.length uc) p.os :: [])) := hS7.out.drop.drop
            have hI2 : Hid (Ip mo (j + 1) l s f wait taken) := ip_mono hI.out
            clear hS7 hI
            go_wp2_with fail
            refine Met.intro ?_
            go_step
            refine And.left (b := True) ?_
            go_big_round
            refine ⟨?_, trivial⟩
            exact ⟨c, l, s, f, wait, taken, rfl, rfl, rfl, hI2, hS8⟩
        obtain ⟨c', l', s', f', wait', taken', rfl, rfl, rfl, hI', hS8⟩ := hcut
        clear hS7 hI hxl' hqn hqm
        as_aux_lemma =>
          obtain ⟨hl0, hl30, hsum, hs0, hs30, hf0, hfj, hwt⟩ := hI'.out
          obtain ⟨sa, sc, rfl, hwc1, hwc2, hwc3⟩ := (hS8.out.qvAt (v := u13) (is := wait') (List.Mem.tail _ (List.Mem.head _))).1.len
          obtain ⟨R1, hR1⟩ : ∃ y, Hid (rowsR p r0 taken' = y) := ⟨_, rfl⟩
          obtain ⟨N1, hN1⟩ : ∃ y, Hid (R1.length = y) := ⟨_, rfl⟩
          go_upto_region 61 with fail
          dsimp only [List.append]
          have hms : mo - l' = s' := by go_light; omega
          have hs30' : 0 ≤ s' ∧ s' ≤ 30 := by go_light; omega
          obtain ⟨v, b, vr, vt, hO⟩ := hS8.out.opn
          have hT0 : Hid (St w wc (cb c' l' s' f' v b (n : Nat) vr vt :: inl v wait' :: rnt b p (stR p r0 taken') :: rwl vr (rowsR p r0 taken') :: inl vt taken' :: inl (.slice sa wait'.length sc) wait' :: inl u14 taken' :: pkT gp (.slice ua p.os.length uc) p :: opT (.slice ua p.os.length uc) p.os :: [])) := hO
          clear hO hS8
          have hP : Ckb wc c' l' s' f' v b ((n : Nat) : Int) vr vt ∧ O.Pik wc gp (.slice ua p.os.length uc) p.n p.s p.a p.k p.f := ⟨hT0.out.ck, hT0.out.pkAt (b := gp) (v := .slice ua p.os.length uc) (p := p) (List.Mem.tail _ (List.Mem.tail _ (List.Mem.tail _ (List.Mem.tail _ (List.Mem.tail _ (List.Mem.tail _ (List.Mem.tail _ (List.Mem.head _))))))))⟩
          refine wp_region_held_drew (S := fun X => Ckb X c' l' s' f' v b ((n : Nat) : Int) vr vt ∧ O.Pik X gp (.slice ua p.os.length uc) p.n p.s p.a p.k p.f) (by kernel_rfl) hP (fun hHeld => ?_)
          have hTn : Hid (St w wc.drew (cb c' l' s' f' v b (n : Nat) vr vt :: inl v wait' :: rnt b p (stR p r0 taken') :: rwl vr (rowsR p r0 taken') :: inl vt taken' :: inl (.slice sa wait'.length sc) wait' :: inl u14 taken' :: pkT gp (.slice ua p.os.length uc) p :: opT (.slice ua p.os.length uc) p.os :: [])) := hT0.out.below (Below.refl _ _).drew
          clear hT0 hP
          generalize wc.drew = V at hHeld hTn ⊢
          have hT0 := hTn
          clear hTn
          refine take_at (i := 0) (v := .pointer (some ⟨c', 0, none⟩)) rfl rfl (by kernel_rfl) (by kernel_rfl) (by kernel_rfl) (fun _ _ _ h => h) (Or.inl ⟨by rfl, fun X _ => mv_op _ _ rfl rfl⟩) hHeld ?_
          try simp only [Act.put, List.setIfInBounds_toArray, List.set_cons_zero, List.set_cons_succ]
          refine take_at (i := 1) (v := .pointer (some ⟨c', 0, none⟩)) rfl rfl (by kernel_rfl) (by kernel_rfl) (by kernel_rfl) (fun _ _ _ h => h) (Or.inl ⟨by rfl, fun X _ => nc_op _ _ rfl rfl⟩) hHeld ?_
          try simp only [Act.put, List.setIfInBounds_toArray, List.set_cons_zero, List.set_cons_succ]
          refine take_at (i := 2) (v := .pointer (some ⟨c', 3, none⟩)) rfl rfl (by kernel_rfl) (by kernel_rfl) (by kernel_rfl) (fun _ _ _ h => h) (Or.inl ⟨by rfl, fun X _ => fa49_1 _ c' rfl rfl⟩) hHeld ?_
          try simp only [Act.put, List.setIfInBounds_toArray, List.set_cons_zero, List.set_cons_succ]
          refine take_at (i := 3) (v := .agg #[v]) rfl rfl (by kernel_rfl) (by kernel_rfl) (by kernel_rfl) (fun _ _ _ h => h) (Or.inl ⟨by rfl, fun X hX => ld46_op _ c' v rfl rfl hX.1.c3⟩) hHeld ?_
          try simp only [Act.put, List.setIfInBounds_toArray, List.set_cons_zero, List.set_cons_succ]
          refine take_at (i := 5) (v := .slice sa wait'.length sc) rfl rfl (by kernel_rfl) (by kernel_rfl) (by kernel_rfl) (fun _ _ _ h => h) (Or.inl ⟨by rfl, fun X _ => mv_op _ _ rfl rfl⟩) hHeld ?_
          try simp only [Act.put, List.setIfInBounds_toArray, List.set_cons_zero, List.set_cons_succ]
          refine take_at (i := 6) (v := .int .i64 ((wait'.length : Nat) : Int)) rfl rfl (by kernel_rfl) (by kernel_rfl) (by kernel_rfl) (fun _ _ _ h => h) (Or.inl ⟨by rfl, fun X _ => len_op44 _ sa _ sc rfl rfl⟩) hHeld ?_
          try simp only [Act.put, List.setIfInBounds_toArray, List.set_cons_zero, List.set_cons_succ]
          refine wpAnyH_ready (rs := [4]) (by kernel_rfl) (by simp) ?_
          refine AllReadyH.cons rfl (fun K hK => ?_) AllReadyH.nil
          refine step_callg1 rfl (by rfl) 21 cf21 _ _ rfl (.agg #[v]) rfl (qwaiting_is v wait' _ (hT0.out.qvAt (v := v) (is := wait') (List.Mem.tail _ (List.Mem.head _))).1) ?_
          rintro e X1 ⟨rfl, hb⟩
          have hT1 : Hid (St w X1 (cb c' l' s' f' v b (n : Nat) vr vt :: inl v wait' :: rnt b p (stR p r0 taken') :: rwl vr (rowsR p r0 taken') :: inl vt taken' :: inl (.slice sa wait'.length sc) wait' :: inl u14 taken' :: pkT gp (.slice ua p.os.length uc) p :: opT (.slice ua p.os.length uc) p.os :: [])) := hT0.out.below hb
          clear hb hT0 hHeld
          refine ⟨_, rfl, ?_⟩
          have hh : Ckb X1 c' l' s' f' v b ((n : Nat) : Int) vr vt ∧ O.Pik X1 gp (.slice ua p.os.length uc) p.n p.s p.a p.k p.f := ⟨hT1.out.ck, hT1.out.pkAt (b := gp) (v := .slice ua p.os.length uc) (p := p) (List.Mem.tail _ (List.Mem.tail _ (List.Mem.tail _ (List.Mem.tail _ (List.Mem.tail _ (List.Mem.tail _ (List.Mem.tail _ (List.Mem.head _))))))))⟩
          refine hK.out _ _ hh (fun hHeld => ?_)
          clear hK K hh
          try simp only [Act.put, List.setIfInBounds_toArray, List.set_cons_zero, List.set_cons_succ]
          refine take_at (i := 7) (v := .bool false) rfl rfl (by kernel_rfl) (by kernel_rfl) (by kernel_rfl) (fun _ _ _ h => h) (Or.inl ⟨by rfl, fun X _ => neq_op _ _ (((wait'.length : Nat) : Int)) rfl rfl rfl⟩) hHeld ?_
          try simp only [Act.put, List.setIfInBounds_toArray, List.set_cons_zero, List.set_cons_succ]
          refine take_at (i := 8) (v := .bool false) rfl rfl (by kernel_rfl) (by kernel_rfl) (by kernel_rfl) (fun _ _ _ h => h) (Or.inl ⟨by rfl, fun X _ => mv_op _ _ rfl rfl⟩) hHeld ?_
          try simp only [Act.put, List.setIfInBounds_toArray, List.set_cons_zero, List.set_cons_succ]
          refine take_at (i := 9) (v := .pointer (some ⟨c', 0, none⟩)) rfl rfl (by kernel_rfl) (by kernel_rfl) (by kernel_rfl) (fun _ _ _ h => h) (Or.inl ⟨by rfl, fun X _ => mv_op _ _ rfl rfl⟩) hHeld ?_
          try simp only [Act.put, List.setIfInBounds_toArray, List.set_cons_zero, List.set_cons_succ]
          refine take_at (i := 10) (v := .pointer (some ⟨c', 0, none⟩)) rfl rfl (by kernel_rfl) (by kernel_rfl) (by kernel_rfl) (fun _ _ _ h => h) (Or.inl ⟨by rfl, fun X _ => nc_op _ _ rfl rfl⟩) hHeld ?_
          try simp only [Act.put, List.setIfInBounds_toArray, List.set_cons_zero, List.set_cons_succ]
          refine take_at (i := 11) (v := .pointer (some ⟨c', 3, none⟩)) rfl rfl (by kernel_rfl) (by kernel_rfl) (by kernel_rfl) (fun _ _ _ h => h) (Or.inl ⟨by rfl, fun X _ => fa49_1 _ c' rfl rfl⟩) hHeld ?_
          try simp only [Act.put, List.setIfInBounds_toArray, List.set_cons_zero, List.set_cons_succ]
          refine take_at (i := 12) (v := .agg #[v]) rfl rfl (by kernel_rfl) (by kernel_rfl) (by kernel_rfl) (fun _ _ _ h => h) (Or.inl ⟨by rfl, fun X hX => ld46_op _ c' v rfl rfl hX.1.c3⟩) hHeld ?_
          try simp only [Act.put, List.setIfInBounds_toArray, List.set_cons_zero, List.set_cons_succ]
          refine take_at (i := 14) (v := .slice sa wait'.length sc) rfl rfl (by kernel_rfl) (by kernel_rfl) (by kernel_rfl) (fun _ _ _ h => h) (Or.inl ⟨by rfl, fun X _ => mv_op _ _ rfl rfl⟩) hHeld ?_
          try simp only [Act.put, List.setIfInBounds_toArray, List.set_cons_zero, List.set_cons_succ]
          refine wpAnyH_ready (rs := [13]) (by kernel_rfl) (by simp) ?_
          refine AllReadyH.cons rfl (fun K hK => ?_) AllReadyH.nil
          obtain ⟨qv, qlb⟩ := hT1.out.qvAt (v := v) (is := wait') (List.Mem.tail _ (List.Mem.head _))
          refine step_callg1 rfl (by rfl) 23 cf23 _ _ rfl (.agg #[v]) rfl (qall_is v wait' _ qv qlb (by go_light; omega)) ?_
          rintro e X2 ⟨u, rfl, hu, hb, hf⟩
          obtain ⟨y1, y2⟩ := (hT1.out.newl hb hu qlb hf).qvAt (v := u) (is := wait') (List.Mem.head _)
          obtain ⟨b1, hr1, _, _⟩ := y1.rdi y2 0
          clear y1 y2 hu hf qv qlb
          have hT2 : Hid (St w X2 (cb c' l' s' f' v b (n : Nat) vr vt :: inl v wait' :: rnt b p (stR p r0 taken') :: rwl vr (rowsR p r0 taken') :: inl vt taken' :: inl (.slice sa wait'.length sc) wait' :: inl u14 taken' :: pkT gp (.slice ua p.os.length uc) p :: opT (.slice ua p.os.length uc) p.os :: [])) := hT1.out.below hb
          clear hb hT1 hHeld
          obtain ⟨y3, y4⟩ := hT2.out.qvAt (v := (.slice sa wait'.length sc)) (is := wait') (List.Mem.tail _ (List.Mem.tail _ (List.Mem.tail _ (List.Mem.tail _ (List.Mem.tail _ (List.Mem.head _))))))
          obtain ⟨b2, hr2, _, _⟩ := y3.rdi y4 0
          clear y3 y4
          refine ⟨_, rfl, ?_⟩
          have hh : Ckb X2 c' l' s' f' v b ((n : Nat) : Int) vr vt ∧ O.Pik X2 gp (.slice ua p.os.length uc) p.n p.s p.a p.k p.f := ⟨hT2.out.ck, hT2.out.pkAt (b := gp) (v := .slice ua p.os.length uc) (p := p) (List.Mem.tail _ (List.Mem.tail _ (List.Mem.tail _ (List.Mem.tail _ (List.Mem.tail _ (List.Mem.tail _ (List.Mem.tail _ (List.Mem.head _))))))))⟩
          refine hK.out _ _ hh (fun hHeld => ?_)
          clear hK K hh
          try simp only [Act.put, List.setIfInBounds_toArray, List.set_cons_zero, List.set_cons_succ]
          refine wpAnyH_ready (rs := [15]) (by kernel_rfl) (by simp) ?_
          refine AllReadyH.cons rfl (fun K hK => ?_) AllReadyH.nil
          refine step_callg2 rfl (by rfl) 22 cf22 _ _ _ rfl (u) (.slice sa wait'.length sc) rfl rfl (same_i (u) (.slice sa wait'.length sc) b1 b2 wait' _ hr1 hr2) ?_
          rintro e X3 ⟨rfl, hb⟩
          clear hr1 hr2
          have hT3 : Hid (St w X3 (cb c' l' s' f' v b (n : Nat) vr vt :: inl v wait' :: rnt b p (stR p r0 taken') :: rwl vr (rowsR p r0 taken') :: inl vt taken' :: inl (.slice sa wait'.length sc) wait' :: inl u14 taken' :: pkT gp (.slice ua p.os.length uc) p :: opT (.slice ua p.os.length uc) p.os :: [])) := hT2.out.below hb
          clear hb hT2 hHeld
          refine ⟨_, rfl, ?_⟩
          have hh : Ckb X3 c' l' s' f' v b ((n : Nat) : Int) vr vt ∧ O.Pik X3 gp (.slice ua p.os.length uc) p.n p.s p.a p.k p.f := ⟨hT3.out.ck, hT3.out.pkAt (b := gp) (v := .slice ua p.os.length uc) (p := p) (List.Mem.tail _ (List.Mem.tail _ (List.Mem.tail _ (List.Mem.tail _ (List.Mem.tail _ (List.Mem.tail _ (List.Mem.tail _ (List.Mem.head _))))))))⟩
          refine hK.out _ _ hh (fun hHeld => ?_)
          clear hK K hh
          try simp only [Act.put, List.setIfInBounds_toArray, List.set_cons_zero, List.set_cons_succ]
          refine take_at (i := 16) (v := .bool false) rfl rfl (by kernel_rfl) (by kernel_rfl) (by kernel_rfl) (fun _ _ _ h => h) (Or.inl ⟨by rfl, fun X _ => not_op _ true rfl rfl⟩) hHeld ?_
          try simp only [Act.put, List.setIfInBounds_toArray, List.set_cons_zero, List.set_cons_succ]
          refine take_at (i := 17) (v := .bool false) rfl rfl (by kernel_rfl) (by kernel_rfl) (by kernel_rfl) (fun _ _ _ h => h) (Or.inl ⟨by rfl, fun X _ => pick_op _ _ _ _ rfl rfl rfl⟩) hHeld ?_
          try simp only [Act.put, List.setIfInBounds_toArray, List.set_cons_zero, List.set_cons_succ]
          refine take_at (i := 18) (v := .bool false) rfl rfl (by kernel_rfl) (by kernel_rfl) (by kernel_rfl) (fun _ _ _ h => h) (Or.inl ⟨by rfl, fun X _ => mv_op _ _ rfl rfl⟩) hHeld ?_
          try simp only [Act.put, List.setIfInBounds_toArray, List.set_cons_zero, List.set_cons_succ]
          refine take_at (i := 19) (v := .pointer (some ⟨c', 0, none⟩)) rfl rfl (by kernel_rfl) (by kernel_rfl) (by kernel_rfl) (fun _ _ _ h => h) (Or.inl ⟨by rfl, fun X _ => mv_op _ _ rfl rfl⟩) hHeld ?_
          try simp only [Act.put, List.setIfInBounds_toArray, List.set_cons_zero, List.set_cons_succ]
          refine take_at (i := 20) (v := .pointer (some ⟨c', 0, none⟩)) rfl rfl (by kernel_rfl) (by kernel_rfl) (by kernel_rfl) (fun _ _ _ h => h) (Or.inl ⟨by rfl, fun X _ => nc_op _ _ rfl rfl⟩) hHeld ?_
          try simp only [Act.put, List.setIfInBounds_toArray, List.set_cons_zero, List.set_cons_succ]
          refine take_at (i := 21) (v := .pointer (some ⟨c', 0, none⟩)) rfl rfl (by kernel_rfl) (by kernel_rfl) (by kernel_rfl) (fun _ _ _ h => h) (Or.inl ⟨by rfl, fun X _ => fa49_0 _ c' rfl rfl⟩) hHeld ?_
          try simp only [Act.put, List.setIfInBounds_toArray, List.set_cons_zero, List.set_cons_succ]
          refine take_at (i := 22) (v := .agg #[.int .i64 l', .int .i64 s', .int .i64 f']) rfl rfl (by kernel_rfl) (by kernel_rfl) (by kernel_rfl) (fun _ _ _ h => h) (Or.inl ⟨by rfl, fun X hX => ld43_op _ c' _ _ _ rfl rfl hX.1.c0 hX.1.c1 hX.1.c2⟩) hHeld ?_
          try simp only [Act.put, List.setIfInBounds_toArray, List.set_cons_zero, List.set_cons_succ]
          refine take_at (i := 24) (v := .int .i64 l') rfl rfl (by kernel_rfl) (by kernel_rfl) (by kernel_rfl) (fun _ _ _ h => h) (Or.inl ⟨by rfl, fun X _ => mv_op _ _ rfl rfl⟩) hHeld ?_
          try simp only [Act.put, List.setIfInBounds_toArray, List.set_cons_zero, List.set_cons_succ]
          refine wpAnyH_ready (rs := [23]) (by kernel_rfl) (by simp) ?_
          refine AllReadyH.cons rfl (fun K hK => ?_) AllReadyH.nil
          refine step_callg1 rfl (by rfl) 14 cf14 _ _ rfl (.agg #[.int .i64 l', .int .i64 s', .int .i64 f']) rfl (qleft_is l' s' f' _) ?_
          rintro e X4 ⟨rfl, hb⟩
          have hT4 : Hid (St w X4 (cb c' l' s' f' v b (n : Nat) vr vt :: inl v wait' :: rnt b p (stR p r0 taken') :: rwl vr (rowsR p r0 taken') :: inl vt taken' :: inl (.slice sa wait'.length sc) wait' :: inl u14 taken' :: pkT gp (.slice ua p.os.length uc) p :: opT (.slice ua p.os.length uc) p.os :: [])) := hT3.out.below hb
          clear hb hT3 hHeld
          refine ⟨_, rfl, ?_⟩
          have hh : Ckb X4 c' l' s' f' v b ((n : Nat) : Int) vr vt ∧ O.Pik X4 gp (.slice ua p.os.length uc) p.n p.s p.a p.k p.f := ⟨hT4.out.ck, hT4.out.pkAt (b := gp) (v := .slice ua p.os.length uc) (p := p) (List.Mem.tail _ (List.Mem.tail _ (List.Mem.tail _ (List.Mem.tail _ (List.Mem.tail _ (List.Mem.tail _ (List.Mem.tail _ (List.Mem.head _))))))))⟩
          refine hK.out _ _ hh (fun hHeld => ?_)
          clear hK K hh
          try simp only [Act.put, List.setIfInBounds_toArray, List.set_cons_zero, List.set_cons_succ]
          refine take_at (i := 25) (v := .bool false) rfl rfl (by kernel_rfl) (by kernel_rfl) (by kernel_rfl) (fun _ _ _ h => h) (Or.inl ⟨by rfl, fun X _ => neq_op _ _ (l') rfl rfl rfl⟩) hHeld ?_
          try simp only [Act.put, List.setIfInBounds_toArray, List.set_cons_zero, List.set_cons_succ]
          refine take_at (i := 26) (v := .bool false) rfl rfl (by kernel_rfl) (by kernel_rfl) (by kernel_rfl) (fun _ _ _ h => h) (Or.inl ⟨by rfl, fun X _ => pick_op _ _ _ _ rfl rfl rfl⟩) hHeld ?_
          try simp only [Act.put, List.setIfInBounds_toArray, List.set_cons_zero, List.set_cons_succ]
          refine take_at (i := 27) (v := .bool false) rfl rfl (by kernel_rfl) (by kernel_rfl) (by kernel_rfl) (fun _ _ _ h => h) (Or.inl ⟨by rfl, fun X _ => mv_op _ _ rfl rfl⟩) hHeld ?_
          try simp only [Act.put, List.setIfInBounds_toArray, List.set_cons_zero, List.set_cons_succ]
          refine take_at (i := 28) (v := .pointer (some ⟨c', 0, none⟩)) rfl rfl (by kernel_rfl) (by kernel_rfl) (by kernel_rfl) (fun _ _ _ h => h) (Or.inl ⟨by rfl, fun X _ => mv_op _ _ rfl rfl⟩) hHeld ?_
          try simp only [Act.put, List.setIfInBounds_toArray, List.set_cons_zero, List.set_cons_succ]
          refine take_at (i := 29) (v := .pointer (some ⟨c', 0, none⟩)) rfl rfl (by kernel_rfl) (by kernel_rfl) (by kernel_rfl) (fun _ _ _ h => h) (Or.inl ⟨by rfl, fun X _ => nc_op _ _ rfl rfl⟩) hHeld ?_
          try simp only [Act.put, List.setIfInBounds_toArray, List.set_cons_zero, List.set_cons_succ]
          refine take_at (i := 30) (v := .pointer (some ⟨c', 0, none⟩)) rfl rfl (by kernel_rfl) (by kernel_rfl) (by kernel_rfl) (fun _ _ _ h => h) (Or.inl ⟨by rfl, fun X _ => fa49_0 _ c' rfl rfl⟩) hHeld ?_
          try simp only [Act.put, List.setIfInBounds_toArray, List.set_cons_zero, List.set_cons_succ]
          refine take_at (i := 31) (v := .agg #[.int .i64 l', .int .i64 s', .int .i64 f']) rfl rfl (by kernel_rfl) (by kernel_rfl) (by kernel_rfl) (fun _ _ _ h => h) (Or.inl ⟨by rfl, fun X hX => ld43_op _ c' _ _ _ rfl rfl hX.1.c0 hX.1.c1 hX.1.c2⟩) hHeld ?_
          try simp only [Act.put, List.setIfInBounds_toArray, List.set_cons_zero, List.set_cons_succ]
          refine take_at (i := 33) (v := .int .i64 mo) rfl rfl (by kernel_rfl) (by kernel_rfl) (by kernel_rfl) (fun _ _ _ h => h) (Or.inl ⟨by rfl, fun X _ => mv_op _ _ rfl rfl⟩) hHeld ?_
          try simp only [Act.put, List.setIfInBounds_toArray, List.set_cons_zero, List.set_cons_succ]
          refine take_at (i := 34) (v := .int .i64 l') rfl rfl (by kernel_rfl) (by kernel_rfl) (by kernel_rfl) (fun _ _ _ h => h) (Or.inl ⟨by rfl, fun X _ => mv_op _ _ rfl rfl⟩) hHeld ?_
          try simp only [Act.put, List.setIfInBounds_toArray, List.set_cons_zero, List.set_cons_succ]
          refine take_at (i := 35) (v := .int .i64 s') rfl rfl (by kernel_rfl) (by kernel_rfl) (by kernel_rfl) (fun _ _ _ h => h) (Or.inl ⟨by rfl, fun X _ => sub_op _ _ mo l' s' rfl rfl rfl hms hs30'⟩) hHeld ?_
          try simp only [Act.put, List.setIfInBounds_toArray, List.set_cons_zero, List.set_cons_succ]
          refine wpAnyH_ready (rs := [32]) (by kernel_rfl) (by simp) ?_
          refine AllReadyH.cons rfl (fun K hK => ?_) AllReadyH.nil
          refine step_callg1 rfl (by rfl) 24 cf24 _ _ rfl (.agg #[.int .i64 l', .int .i64 s', .int .i64 f']) rfl (qspent_is l' s' f' _) ?_
          rintro e X5 ⟨rfl, hb⟩
          have hT5 : Hid (St w X5 (cb c' l' s' f' v b (n : Nat) vr vt :: inl v wait' :: rnt b p (stR p r0 taken') :: rwl vr (rowsR p r0 taken') :: inl vt taken' :: inl (.slice sa wait'.length sc) wait' :: inl u14 taken' :: pkT gp (.slice ua p.os.length uc) p :: opT (.slice ua p.os.length uc) p.os :: [])) := hT4.out.below hb
          clear hb hT4 hHeld
          refine ⟨_, rfl, ?_⟩
          have hh : Ckb X5 c' l' s' f' v b ((n : Nat) : Int) vr vt ∧ O.Pik X5 gp (.slice ua p.os.length uc) p.n p.s p.a p.k p.f := ⟨hT5.out.ck, hT5.out.pkAt (b := gp) (v := .slice ua p.os.length uc) (p := p) (List.Mem.tail _ (List.Mem.tail _ (List.Mem.tail _ (List.Mem.tail _ (List.Mem.tail _ (List.Mem.tail _ (List.Mem.tail _ (List.Mem.head _))))))))⟩
          refine hK.out _ _ hh (fun hHeld => ?_)
          clear hK K hh
          try simp only [Act.put, List.setIfInBounds_toArray, List.set_cons_zero, List.set_cons_succ]
          refine take_at (i := 36) (v := .bool false) rfl rfl (by kernel_rfl) (by kernel_rfl) (by kernel_rfl) (fun _ _ _ h => h) (Or.inl ⟨by rfl, fun X _ => neq_op _ _ (s') rfl rfl rfl⟩) hHeld ?_
          try simp only [Act.put, List.setIfInBounds_toArray, List.set_cons_zero, List.set_cons_succ]
          refine take_at (i := 37) (v := .bool false) rfl rfl (by kernel_rfl) (by kernel_rfl) (by kernel_rfl) (fun _ _ _ h => h) (Or.inl ⟨by rfl, fun X _ => pick_op _ _ _ _ rfl rfl rfl⟩) hHeld ?_
          try simp only [Act.put, List.setIfInBounds_toArray, List.set_cons_zero, List.set_cons_succ]
          refine take_at (i := 38) (v := .bool false) rfl rfl (by kernel_rfl) (by kernel_rfl) (by kernel_rfl) (fun _ _ _ h => h) (Or.inl ⟨by rfl, fun X _ => mv_op _ _ rfl rfl⟩) hHeld ?_
          try simp only [Act.put, List.setIfInBounds_toArray, List.set_cons_zero, List.set_cons_succ]
          refine take_at (i := 39) (v := .pointer (some ⟨c', 0, none⟩)) rfl rfl (by kernel_rfl) (by kernel_rfl) (by kernel_rfl) (fun _ _ _ h => h) (Or.inl ⟨by rfl, fun X _ => mv_op _ _ rfl rfl⟩) hHeld ?_
          try simp only [Act.put, List.setIfInBounds_toArray, List.set_cons_zero, List.set_cons_succ]
          refine take_at (i := 40) (v := .pointer (some ⟨c', 0, none⟩)) rfl rfl (by kernel_rfl) (by kernel_rfl) (by kernel_rfl) (fun _ _ _ h => h) (Or.inl ⟨by rfl, fun X _ => nc_op _ _ rfl rfl⟩) hHeld ?_
          try simp only [Act.put, List.setIfInBounds_toArray, List.set_cons_zero, List.set_cons_succ]
          refine take_at (i := 41) (v := .pointer (some ⟨c', 0, none⟩)) rfl rfl (by kernel_rfl) (by kernel_rfl) (by kernel_rfl) (fun _ _ _ h => h) (Or.inl ⟨by rfl, fun X _ => fa49_0 _ c' rfl rfl⟩) hHeld ?_
          try simp only [Act.put, List.setIfInBounds_toArray, List.set_cons_zero, List.set_cons_succ]
          refine take_at (i := 42) (v := .agg #[.int .i64 l', .int .i64 s', .int .i64 f']) rfl rfl (by kernel_rfl) (by kernel_rfl) (by kernel_rfl) (fun _ _ _ h => h) (Or.inl ⟨by rfl, fun X hX => ld43_op _ c' _ _ _ rfl rfl hX.1.c0 hX.1.c1 hX.1.c2⟩) hHeld ?_
          try simp only [Act.put, List.setIfInBounds_toArray, List.set_cons_zero, List.set_cons_succ]
          refine take_at (i := 44) (v := .int .i64 f') rfl rfl (by kernel_rfl) (by kernel_rfl) (by kernel_rfl) (fun _ _ _ h => h) (Or.inl ⟨by rfl, fun X _ => mv_op _ _ rfl rfl⟩) hHeld ?_
          try simp only [Act.put, List.setIfInBounds_toArray, List.set_cons_zero, List.set_cons_succ]
          refine wpAnyH_ready (rs := [43]) (by kernel_rfl) (by simp) ?_
          refine AllReadyH.cons rfl (fun K hK => ?_) AllReadyH.nil
          refine step_callg1 rfl (by rfl) 15 cf15 _ _ rfl (.agg #[.int .i64 l', .int .i64 s', .int .i64 f']) rfl (qrefused_is l' s' f' _) ?_
          rintro e X6 ⟨rfl, hb⟩
          have hT6 : Hid (St w X6 (cb c' l' s' f' v b (n : Nat) vr vt :: inl v wait' :: rnt b p (stR p r0 taken') :: rwl vr (rowsR p r0 taken') :: inl vt taken' :: inl (.slice sa wait'.length sc) wait' :: inl u14 taken' :: pkT gp (.slice ua p.os.length uc) p :: opT (.slice ua p.os.length uc) p.os :: [])) := hT5.out.below hb
          clear hb hT5 hHeld
          refine ⟨_, rfl, ?_⟩
          have hh : Ckb X6 c' l' s' f' v b ((n : Nat) : Int) vr vt ∧ O.Pik X6 gp (.slice ua p.os.length uc) p.n p.s p.a p.k p.f := ⟨hT6.out.ck, hT6.out.pkAt (b := gp) (v := .slice ua p.os.length uc) (p := p) (List.Mem.tail _ (List.Mem.tail _ (List.Mem.tail _ (List.Mem.tail _ (List.Mem.tail _ (List.Mem.tail _ (List.Mem.tail _ (List.Mem.head _))))))))⟩
          refine hK.out _ _ hh (fun hHeld => ?_)
          clear hK K hh
          try simp only [Act.put, List.setIfInBounds_toArray, List.set_cons_zero, List.set_cons_succ]
          refine take_at (i := 45) (v := .bool false) rfl rfl (by kernel_rfl) (by kernel_rfl) (by kernel_rfl) (fun _ _ _ h => h) (Or.inl ⟨by rfl, fun X _ => neq_op _ _ (f') rfl rfl rfl⟩) hHeld ?_
          try simp only [Act.put, List.setIfInBounds_toArray, List.set_cons_zero, List.set_cons_succ]
          refine take_at (i := 46) (v := .bool false) rfl rfl (by kernel_rfl) (by kernel_rfl) (by kernel_rfl) (fun _ _ _ h => h) (Or.inl ⟨by rfl, fun X _ => pick_op _ _ _ _ rfl rfl rfl⟩) hHeld ?_
          try simp only [Act.put, List.setIfInBounds_toArray, List.set_cons_zero, List.set_cons_succ]
          refine take_at (i := 47) (v := .bool false) rfl rfl (by kernel_rfl) (by kernel_rfl) (by kernel_rfl) (fun _ _ _ h => h) (Or.inl ⟨by rfl, fun X _ => mv_op _ _ rfl rfl⟩) hHeld ?_
          try simp only [Act.put, List.setIfInBounds_toArray, List.set_cons_zero, List.set_cons_succ]
          refine take_at (i := 48) (v := .pointer (some ⟨c', 0, none⟩)) rfl rfl (by kernel_rfl) (by kernel_rfl) (by kernel_rfl) (fun _ _ _ h => h) (Or.inl ⟨by rfl, fun X _ => mv_op _ _ rfl rfl⟩) hHeld ?_
          try simp only [Act.put, List.setIfInBounds_toArray, List.set_cons_zero, List.set_cons_succ]
          refine take_at (i := 50) (v := u14) rfl rfl (by kernel_rfl) (by kernel_rfl) (by kernel_rfl) (fun _ _ _ h => h) (Or.inl ⟨by rfl, fun X _ => mv_op _ _ rfl rfl⟩) hHeld ?_
          try simp only [Act.put, List.setIfInBounds_toArray, List.set_cons_zero, List.set_cons_succ]
          refine wpAnyH_ready (rs := [49]) (by kernel_rfl) (by simp) ?_
          refine AllReadyH.cons rfl (fun K hK => ?_) AllReadyH.nil
          refine step_callg1 rfl (by rfl) 25 cf25 _ _ rfl (.pointer (some ⟨c', 0, none⟩)) rfl (takenl_is _ hT6.out.cls (by go_light; omega)) ?_
          rintro e X7 ⟨u5, rfl, hN, hb⟩
          obtain ⟨y1, y2⟩ := hN.qvAt (v := u5) (is := taken') (List.Mem.head _)
          obtain ⟨b1, hr1, _, _⟩ := y1.rdi y2 0
          clear y1 y2 hN
          have hT7 : Hid (St w X7 (cb c' l' s' f' v b (n : Nat) vr vt :: inl v wait' :: rnt b p (stR p r0 taken') :: rwl vr (rowsR p r0 taken') :: inl vt taken' :: inl (.slice sa wait'.length sc) wait' :: inl u14 taken' :: pkT gp (.slice ua p.os.length uc) p :: opT (.slice ua p.os.length uc) p.os :: [])) := hT6.out.below hb
          clear hb hT6 hHeld
          obtain ⟨y3, y4⟩ := hT7.out.qvAt (v := u14) (is := taken') (List.Mem.tail _ (List.Mem.tail _ (List.Mem.tail _ (List.Mem.tail _ (List.Mem.tail _ (List.Mem.tail _ (List.Mem.head _)))))))
          obtain ⟨b2, hr2, _, _⟩ := y3.rdi y4 0
          clear y3 y4
          refine ⟨_, rfl, ?_⟩
          have hh : Ckb X7 c' l' s' f' v b ((n : Nat) : Int) vr vt ∧ O.Pik X7 gp (.slice ua p.os.length uc) p.n p.s p.a p.k p.f := ⟨hT7.out.ck, hT7.out.pkAt (b := gp) (v := .slice ua p.os.length uc) (p := p) (List.Mem.tail _ (List.Mem.tail _ (List.Mem.tail _ (List.Mem.tail _ (List.Mem.tail _ (List.Mem.tail _ (List.Mem.tail _ (List.Mem.head _))))))))⟩
          refine hK.out _ _ hh (fun hHeld => ?_)
          clear hK K hh
          try simp only [Act.put, List.setIfInBounds_toArray, List.set_cons_zero, List.set_cons_succ]
          refine wpAnyH_ready (rs := [51]) (by kernel_rfl) (by simp) ?_
          refine AllReadyH.cons rfl (fun K hK => ?_) AllReadyH.nil
          refine step_callg2 rfl (by rfl) 22 cf22 _ _ _ rfl (u5) (u14) rfl rfl (same_i (u5) (u14) b1 b2 taken' _ hr1 hr2) ?_
          rintro e X8 ⟨rfl, hb⟩
          clear hr1 hr2
          have hT8 : Hid (St w X8 (cb c' l' s' f' v b (n : Nat) vr vt :: inl v wait' :: rnt b p (stR p r0 taken') :: rwl vr (rowsR p r0 taken') :: inl vt taken' :: inl (.slice sa wait'.length sc) wait' :: inl u14 taken' :: pkT gp (.slice ua p.os.length uc) p :: opT (.slice ua p.os.length uc) p.os :: [])) := hT7.out.below hb
          clear hb hT7 hHeld
          refine ⟨_, rfl, ?_⟩
          have hh : Ckb X8 c' l' s' f' v b ((n : Nat) : Int) vr vt ∧ O.Pik X8 gp (.slice ua p.os.length uc) p.n p.s p.a p.k p.f := ⟨hT8.out.ck, hT8.out.pkAt (b := gp) (v := .slice ua p.os.length uc) (p := p) (List.Mem.tail _ (List.Mem.tail _ (List.Mem.tail _ (List.Mem.tail _ (List.Mem.tail _ (List.Mem.tail _ (List.Mem.tail _ (List.Mem.head _))))))))⟩
          refine hK.out _ _ hh (fun hHeld => ?_)
          clear hK K hh
          try simp only [Act.put, List.setIfInBounds_toArray, List.set_cons_zero, List.set_cons_succ]
          refine take_at (i := 52) (v := .bool false) rfl rfl (by kernel_rfl) (by kernel_rfl) (by kernel_rfl) (fun _ _ _ h => h) (Or.inl ⟨by rfl, fun X _ => not_op _ true rfl rfl⟩) hHeld ?_
          try simp only [Act.put, List.setIfInBounds_toArray, List.set_cons_zero, List.set_cons_succ]
          refine take_at (i := 53) (v := .bool false) rfl rfl (by kernel_rfl) (by kernel_rfl) (by kernel_rfl) (fun _ _ _ h => h) (Or.inl ⟨by rfl, fun X _ => pick_op _ _ _ _ rfl rfl rfl⟩) hHeld ?_
          try simp only [Act.put, List.setIfInBounds_toArray, List.set_cons_zero, List.set_cons_succ]
          refine take_at (i := 54) (v := .bool false) rfl rfl (by kernel_rfl) (by kernel_rfl) (by kernel_rfl) (fun _ _ _ h => h) (Or.inl ⟨by rfl, fun X _ => mv_op _ _ rfl rfl⟩) hHeld ?_
          try simp only [Act.put, List.setIfInBounds_toArray, List.set_cons_zero, List.set_cons_succ]
          refine take_at (i := 55) (v := .pointer (some ⟨c', 0, none⟩)) rfl rfl (by kernel_rfl) (by kernel_rfl) (by kernel_rfl) (fun _ _ _ h => h) (Or.inl ⟨by rfl, fun X _ => mv_op _ _ rfl rfl⟩) hHeld ?_
          try simp only [Act.put, List.setIfInBounds_toArray, List.set_cons_zero, List.set_cons_succ]
          refine take_at (i := 57) (v := O.pv (.slice ua p.os.length uc) p.n p.s p.a p.k p.f) rfl rfl (by kernel_rfl) (by kernel_rfl) (by kernel_rfl) (fun _ _ _ h => h) (Or.inl ⟨by rfl, fun X hX => ld26_op _ gp _ _ _ _ _ _ rfl rfl hX.2⟩) hHeld ?_
          try simp only [Act.put, List.setIfInBounds_toArray, List.set_cons_zero, List.set_cons_succ]
          refine take_at (i := 58) (v := u14) rfl rfl (by kernel_rfl) (by kernel_rfl) (by kernel_rfl) (fun _ _ _ h => h) (Or.inl ⟨by rfl, fun X _ => mv_op _ _ rfl rfl⟩) hHeld ?_
          try simp only [Act.put, List.setIfInBounds_toArray, List.set_cons_zero, List.set_cons_succ]
          refine wpAnyH_ready (rs := [56]) (by kernel_rfl) (by simp) ?_
          refine AllReadyH.cons rfl (fun K hK => ?_) AllReadyH.nil
          refine step_callg1 rfl (by rfl) 26 cf26 _ _ rfl (.pointer (some ⟨c', 0, none⟩)) rfl (count_is _ hT8.out.cls) ?_
          rintro e X9' ⟨rfl, he⟩; obtain rfl := he.symm; clear he
          clear hHeld
          refine ⟨.int .i64 ((N1 : Nat) : Int), by rw [hR1.out, hN1.out], ?_⟩
          have hh : Ckb X8 c' l' s' f' v b ((n : Nat) : Int) vr vt ∧ O.Pik X8 gp (.slice ua p.os.length uc) p.n p.s p.a p.k p.f := ⟨hT8.out.ck, hT8.out.pkAt (b := gp) (v := .slice ua p.os.length uc) (p := p) (List.Mem.tail _ (List.Mem.tail _ (List.Mem.tail _ (List.Mem.tail _ (List.Mem.tail _ (List.Mem.tail _ (List.Mem.tail _ (List.Mem.head _))))))))⟩
          refine hK.out _ _ hh (fun hHeld => ?_)
          clear hK K hh
          try simp only [Act.put, List.setIfInBounds_toArray, List.set_cons_zero, List.set_cons_succ]
          refine wpAnyH_ready (rs := [59]) (by kernel_rfl) (by simp) ?_
          refine AllReadyH.cons rfl (fun K hK => ?_) AllReadyH.nil
          refine step_callg2 rfl (by rfl) 19 cf19 _ _ _ rfl (O.pv (.slice ua p.os.length uc) p.n p.s p.a p.k p.f) (u14) rfl rfl (whole_st2 p (.slice ua p.os.length uc) u14 taken' _ hT8.out (List.Mem.tail _ (List.Mem.tail _ (List.Mem.tail _ (List.Mem.tail _ (List.Mem.tail _ (List.Mem.tail _ (List.Mem.tail _ (List.Mem.tail _ (List.Mem.head _))))))))) (List.Mem.tail _ (List.Mem.tail _ (List.Mem.tail _ (List.Mem.tail _ (List.Mem.tail _ (List.Mem.tail _ (List.Mem.head _))))))) hrb.out hnb.out (by go_light; omega)) ?_
          rintro e X9 ⟨aa, ac, rfl, _, hb⟩
          have hT9 : Hid (St w X9 (cb c' l' s' f' v b (n : Nat) vr vt :: inl v wait' :: rnt b p (stR p r0 taken') :: rwl vr (rowsR p r0 taken') :: inl vt taken' :: inl (.slice sa wait'.length sc) wait' :: inl u14 taken' :: pkT gp (.slice ua p.os.length uc) p :: opT (.slice ua p.os.length uc) p.os :: [])) := hT8.out.below hb
          clear hb hT8 hHeld
          refine ⟨.slice aa N1 ac, by rw [hR1.out, hN1.out], ?_⟩
          have hh : Ckb X9 c' l' s' f' v b ((n : Nat) : Int) vr vt ∧ O.Pik X9 gp (.slice ua p.os.length uc) p.n p.s p.a p.k p.f := ⟨hT9.out.ck, hT9.out.pkAt (b := gp) (v := .slice ua p.os.length uc) (p := p) (List.Mem.tail _ (List.Mem.tail _ (List.Mem.tail _ (List.Mem.tail _ (List.Mem.tail _ (List.Mem.tail _ (List.Mem.tail _ (List.Mem.head _))))))))⟩
          refine hK.out _ _ hh (fun hHeld => ?_)
          clear hK K hh
          try simp only [Act.put, List.setIfInBounds_toArray, List.set_cons_zero, List.set_cons_succ]
          refine take_at (i := 60) (v := .int .i64 ((N1 : Nat) : Int)) rfl rfl (by kernel_rfl) (by kernel_rfl) (by kernel_rfl) (fun _ _ _ h => h) (Or.inl ⟨by rfl, fun X _ => len_op34 _ _ _ _ rfl rfl⟩) hHeld ?_
          try simp only [Act.put, List.setIfInBounds_toArray, List.set_cons_zero, List.set_cons_succ]
          refine take_at (i := 61) (v := .bool false) rfl rfl (by kernel_rfl) (by kernel_rfl) (by kernel_rfl) (fun _ _ _ h => h) (Or.inl ⟨by rfl, fun X _ => neq_op _ _ (((N1 : Nat) : Int)) rfl rfl rfl⟩) hHeld ?_
          try simp only [Act.put, List.setIfInBounds_toArray, List.set_cons_zero, List.set_cons_succ]
          refine take_at (i := 62) (v := .bool false) rfl rfl (by kernel_rfl) (by kernel_rfl) (by kernel_rfl) (fun _ _ _ h => h) (Or.inl ⟨by rfl, fun X _ => pick_op _ _ _ _ rfl rfl rfl⟩) hHeld ?_
          try simp only [Act.put, List.setIfInBounds_toArray, List.set_cons_zero, List.set_cons_succ]
          refine take_at (i := 63) (v := .bool false) rfl rfl (by kernel_rfl) (by kernel_rfl) (by kernel_rfl) (fun _ _ _ h => h) (Or.inl ⟨by rfl, fun X _ => mv_op _ _ rfl rfl⟩) hHeld ?_
          try simp only [Act.put, List.setIfInBounds_toArray, List.set_cons_zero, List.set_cons_succ]
          refine take_at (i := 64) (v := .pointer (some ⟨c', 0, none⟩)) rfl rfl (by kernel_rfl) (by kernel_rfl) (by kernel_rfl) (fun _ _ _ h => h) (Or.inl ⟨by rfl, fun X _ => mv_op _ _ rfl rfl⟩) hHeld ?_
          try simp only [Act.put, List.setIfInBounds_toArray, List.set_cons_zero, List.set_cons_succ]
          refine take_at (i := 65) (v := .pointer (some ⟨c', 0, none⟩)) rfl rfl (by kernel_rfl) (by kernel_rfl) (by kernel_rfl) (fun _ _ _ h => h) (Or.inl ⟨by rfl, fun X _ => nc_op _ _ rfl rfl⟩) hHeld ?_
          try simp only [Act.put, List.setIfInBounds_toArray, List.set_cons_zero, List.set_cons_succ]
          refine take_at (i := 66) (v := .pointer (some ⟨c', 5, none⟩)) rfl rfl (by kernel_rfl) (by kernel_rfl) (by kernel_rfl) (fun _ _ _ h => h) (Or.inl ⟨by rfl, fun X _ => fa49_3 _ c' rfl rfl⟩) hHeld ?_
          try simp only [Act.put, List.setIfInBounds_toArray, List.set_cons_zero, List.set_cons_succ]
          refine take_at (i := 67) (v := .int .i64 ((n : Nat) : Int)) rfl rfl (by kernel_rfl) (by kernel_rfl) (by kernel_rfl) (fun _ _ _ h => h) (Or.inl ⟨by rfl, fun X hX => ld35_op _ c' _ rfl rfl hX.1.c5⟩) hHeld ?_
          try simp only [Act.put, List.setIfInBounds_toArray, List.set_cons_zero, List.set_cons_succ]
          refine take_at (i := 68) (v := .int .i64 ((n : Nat) : Int)) rfl rfl (by kernel_rfl) (by kernel_rfl) (by kernel_rfl) (fun _ _ _ h => h) (Or.inl ⟨by rfl, fun X _ => mv_op _ _ rfl rfl⟩) hHeld ?_
          try simp only [Act.put, List.setIfInBounds_toArray, List.set_cons_zero, List.set_cons_succ]
          refine take_at (i := 69) (v := .bool false) rfl rfl (by kernel_rfl) (by kernel_rfl) (by kernel_rfl) (fun _ _ _ h => h) (Or.inl ⟨by rfl, fun X _ => neq_op _ _ (((n : Nat) : Int)) rfl rfl rfl⟩) hHeld ?_
          try simp only [Act.put, List.setIfInBounds_toArray, List.set_cons_zero, List.set_cons_succ]
          refine take_at (i := 70) (v := .bool false) rfl rfl (by kernel_rfl) (by kernel_rfl) (by kernel_rfl) (fun _ _ _ h => h) (Or.inl ⟨by rfl, fun X _ => pick_op _ _ _ _ rfl rfl rfl⟩) hHeld ?_
          try simp only [Act.put, List.setIfInBounds_toArray, List.set_cons_zero, List.set_cons_succ]
          refine wpAnyH_done (by kernel_rfl) ?_ _
          clear hHeld
          have hTe : Hid (St w X9 (cel c' p (n : Nat) l' s' f' wait' taken' :: inl (.slice sa wait'.length sc) wait' :: inl u14 taken' :: pkT gp (.slice ua p.os.length uc) p :: opT (.slice ua p.os.length uc) p.os :: [])) := hT9.out.cls
          clear hT9
          go_wp2_with fail
          go_roundw
          case rel => exact ⟨c', j + 1, l', s', f', wait', taken', rfl, rfl, rfl, by go_num, by go_light; omega, hI', hTe⟩
          case measure => simp [intOf]; omega
      · obtain rfl : j = 40 := by go_light; omega
        have hB : Hid (Below w.heap.size w wr) := hS5.out.b
        clear hS5 hI
        go_wp2_with fail
        refine (runs_is _).mono ?_
        rintro e X1 ⟨rfl, hb⟩
        have hB2 : Hid (Below w.heap.size w X1) := below_call hB.out hb
        clear hB hb
        go_wp2_with fail
        go_ret
        exact ⟨rfl, hB2.out⟩
    · have hB : Hid (Below w.heap.size w wr) := hS5.out.b
      clear hS5 hI
      go_wp2_with fail
      refine (runs_is _).mono ?_
      rintro e X1 ⟨rfl, hb⟩
      have hB2 : Hid (Below w.heap.size w X1) := below_call hB.out hb
      clear hB hb
      go_wp2_with fail
      go_ret
      exact ⟨rfl, hB2.out⟩
end Go.Proofs.Ytnamjnopicghhaa
