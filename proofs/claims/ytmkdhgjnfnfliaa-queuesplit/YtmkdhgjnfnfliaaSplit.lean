/- QueueSplit, walked. -/
import Derived.Test.YtmkdhgjnfnfliaaRuns
import Derived.Test.YtmkdhgjnfnfliaaFrame
import Derived.Test.YtmkdhgjnfnfliaaRooms
namespace Go.Proofs.Ytmkdhgjnfnfliaa
open Go.RowKit
set_option linter.unusedVariables false
set_option linter.unusedSimpArgs false
attribute [local go_sem ↓] Go.wp_at_zero Go.wp_at_succ
set_option maxHeartbeats 4000000 in
set_option maxRecDepth 100000 in
theorem queueSplit_walk (aa : Option Addr) (al ac : Nat) (ba : Option Addr) (bl bc : Nat) (ca : Option Addr) (cl cc : Nat) (kk : Int) (w : World) (hA : IsI w aa al ac) (hB : IsI w ba bl bc) (hC : IsI w ca cl cc) (hkk : (Lit.int .i64 kk).wf = true) :
    Calls Try.prog 6 #[.slice aa al ac, .slice ba bl bc, .slice ca cl cc, .int .i64 kk] w fun e w' => e = .returned (.bool true) ∧ Below w.heap.size w w' := by
  obtain ⟨qa, la, hla, hra⟩ := hA
  obtain ⟨n, hn1, hn2, hn3, hn4⟩ := firsts al 6
  have hX : Hid (RdI w (.slice aa n ac) qa (la.take n)) := hra.take (by omega)
  have hac : al ≤ ac ∧ ac ≤ 9223372036854775807 := by obtain ⟨_, _, _, _, e, h1, h2, _⟩ := hra; cases e; omega
  obtain ⟨X, hXe⟩ : ∃ X, X = la.take n := ⟨_, rfl⟩
  have hXl : X.length = n := by rw [hXe, List.length_take]; omega
  rw [← hXe] at hX
  clear hXe hra hla la
  obtain ⟨hac1, hac2⟩ := hac
  obtain ⟨qb, lb, hlb, hrb⟩ := hB
  obtain ⟨m, hm1, hm2, hm3, hm4⟩ := firsts bl 6
  have hY : Hid (RdI w (.slice ba m bc) qb (lb.take m)) := hrb.take (by omega)
  have hbc : bl ≤ bc ∧ bc ≤ 9223372036854775807 := by obtain ⟨_, _, _, _, e, h1, h2, _⟩ := hrb; cases e; omega
  obtain ⟨Y, hYe⟩ : ∃ Y, Y = lb.take m := ⟨_, rfl⟩
  have hYl : Y.length = m := by rw [hYe, List.length_take]; omega
  rw [← hYe] at hY
  clear hYe hrb hlb lb
  obtain ⟨hbc1, hbc2⟩ := hbc
  obtain ⟨qc, lc, hlc, hrc⟩ := hC
  obtain ⟨l, hl1, hl2, hl3, hl4⟩ := firsts cl 6
  have hZ : Hid (RdI w (.slice ca l cc) qc (lc.take l)) := hrc.take (by omega)
  have hcc : cl ≤ cc ∧ cc ≤ 9223372036854775807 := by obtain ⟨_, _, _, _, e, h1, h2, _⟩ := hrc; cases e; omega
  obtain ⟨Z, hZe⟩ : ∃ Z, Z = lc.take l := ⟨_, rfl⟩
  have hZl : Z.length = l := by rw [hZe, List.length_take]; omega
  rw [← hZe] at hZ
  clear hZe hrc hlc lc
  obtain ⟨hcc1, hcc2⟩ := hcc
  go_enter Try.func6, Try.ntmps6
  go_upto_region 1 with fail
  go_cut [9, 10, 11] (fun x y z wx => x = .slice aa n ac ∧ y = .slice ba m bc ∧ z = .slice ca l cc ∧ ∃ q, wx = w.drewN q)
  case first =>
    by_cases hc0 : al ≤ 6
    · obtain rfl := hn3 hc0
      by_cases hc1 : bl ≤ 6
      · obtain rfl := hm3 hc1
        by_cases hc2 : cl ≤ 6
        · obtain rfl := hl3 hc2
          go_quiet (fail)
          go_wp2_with fail
          go_meet
          exact ⟨rfl, rfl, rfl, _, rfl⟩
        · obtain rfl := hl4 (by omega)
          go_quiet (fail)
          go_wp2_with fail
          go_meet
          exact ⟨rfl, rfl, rfl, _, rfl⟩
      · obtain rfl := hm4 (by omega)
        by_cases hc2 : cl ≤ 6
        · obtain rfl := hl3 hc2
          go_quiet (fail)
          go_wp2_with fail
          go_meet
          exact ⟨rfl, rfl, rfl, _, rfl⟩
        · obtain rfl := hl4 (by omega)
          go_quiet (fail)
          go_wp2_with fail
          go_meet
          exact ⟨rfl, rfl, rfl, _, rfl⟩
    · obtain rfl := hn4 (by omega)
      by_cases hc1 : bl ≤ 6
      · obtain rfl := hm3 hc1
        by_cases hc2 : cl ≤ 6
        · obtain rfl := hl3 hc2
          go_quiet (fail)
          go_wp2_with fail
          go_meet
          exact ⟨rfl, rfl, rfl, _, rfl⟩
        · obtain rfl := hl4 (by omega)
          go_quiet (fail)
          go_wp2_with fail
          go_meet
          exact ⟨rfl, rfl, rfl, _, rfl⟩
      · obtain rfl := hm4 (by omega)
        by_cases hc2 : cl ≤ 6
        · obtain rfl := hl3 hc2
          go_quiet (fail)
          go_wp2_with fail
          go_meet
          exact ⟨rfl, rfl, rfl, _, rfl⟩
        · obtain rfl := hl4 (by omega)
          go_quiet (fail)
          go_wp2_with fail
          go_meet
          exact ⟨rfl, rfl, rfl, _, rfl⟩
  obtain ⟨rfl, rfl, rfl, q, rfl⟩ := hcut
  have hS1 : Hid (St w (w.drewN q) [] []) := (st_start w).below (below_drewN (Below.refl _ _) q)
  generalize w.drewN q = w1 at hS1 ⊢
  clear hn3 hn4 hm3 hm4 hl3 hl4
  go_upto_region 3 with fail
  refine world_gen (fun W => Hid (St w W [(w1.heap.size, .slice none 0 0, [])] [])) hS1.out.newq0 ?_
  rintro w2 hS2
  obtain ⟨bp, hbp⟩ : ∃ b, Hid (w1.heap.size = b) := ⟨_, rfl⟩
  rw [hbp.out] at hS2 ⊢
  clear hS1 hbp
  go_wp2_with fail
  refine (push_is (99) (.slice aa n ac) qa X _ hS2.out (hX.out.below hS2.out.b) (by rw [hXl]; simp; omega) X true (.inr ⟨by rw [hXl]; simp; omega, rfl, by simp⟩)).mono ?_
  rintro e w3 ⟨rfl, v3, hS3'⟩
  have hS3 : Hid (St w w3 [(bp, v3, X)] []) := hS3'
  clear hS3' hS2
  go_upto_region 5 with fail
  have c4 := hS3.out.hd.2.1.c
  go_wp2_with fail
  refine (split_is v3 X _ hS3.out.hd.2.2 (by omega)).mono ?_
  rintro e w4 ⟨u4, rfl, hu4, b4, hf4⟩
  have hS4 : Hid (St w w4 [(bp, v3, X)] [(u4, X)]) := hS3.out.newl b4 hu4 hf4
  clear hS3 c4 b4 hf4 hu4
  obtain ⟨a5, cc5, e5, ec5⟩ := (hS4.out.l (u4, X) (by simp)).len
  have ee5 : u4 = .slice a5 n cc5 := by first | exact e5 | (rw [← hXl]; exact e5)
  clear e5
  subst ee5
  go_upto_region 6 with fail
  refine world_gen (fun W => Hid (St w W [(w4.heap.size, (.slice a5 n cc5), X), (bp, v3, X)] [])) hS4.out.toq1 ?_
  rintro w14 hS14
  obtain ⟨bq, hbq⟩ : ∃ b, Hid (w4.heap.size = b) := ⟨_, rfl⟩
  rw [hbq.out] at hS14 ⊢
  clear hS4 hbq
  obtain ⟨P, hP⟩ : ∃ P, P = X ++ Y := ⟨_, rfl⟩
  obtain ⟨p, hp⟩ : ∃ p, P.length = p := ⟨_, rfl⟩
  have hpl : Hid (p = n + m) := by rw [← hp, hP, List.length_append, hXl, hYl]; exact rfl
  have hp12 : p ≤ 12 := by have := hpl.out; omega
  obtain ⟨R, hR⟩ : ∃ R, R = X ++ Z := ⟨_, rfl⟩
  obtain ⟨r, hr⟩ : ∃ r, R.length = r := ⟨_, rfl⟩
  have hrl : Hid (r = n + l) := by rw [← hr, hR, List.length_append, hXl, hZl]; exact rfl
  have hr12 : r ≤ 12 := by have := hrl.out; omega
  have hS15 : Hid (St w w14 [(bp, v3, X), (bq, (.slice a5 n cc5), X)] []) := hS14.out.swapq
  clear hS14
  go_wp2_with fail
  refine (push_is (99) (.slice ba m bc) qb Y _ hS15.out (hY.out.below hS15.out.b) (by rw [hXl, hYl]; omega) P true (.inr ⟨by rw [hXl, hYl]; omega, rfl, hP⟩)).mono ?_
  rintro e w16 ⟨rfl, v16, hS16'⟩
  have hS16 : Hid (St w w16 [(bp, v16, P), (bq, (.slice a5 n cc5), X)] []) := hS16'
  clear hS16' hS15
  have hS17 : Hid (St w w16 [(bq, (.slice a5 n cc5), X), (bp, v16, P)] []) := hS16.out.swapq
  clear hS16
  go_wp2_with fail
  refine (push_is (99) (.slice ca l cc) qc Z _ hS17.out (hZ.out.below hS17.out.b) (by rw [hXl, hZl]; omega) R true (.inr ⟨by rw [hXl, hZl]; omega, rfl, hR⟩)).mono ?_
  rintro e w18 ⟨rfl, v18, hS18'⟩
  have hS18 : Hid (St w w18 [(bq, v18, R), (bp, v16, P)] []) := hS18'
  clear hS18' hS17
  go_wp2_with fail
  refine (within_any _ _ _ _ (by decide) (by decide) (by decide)).mono ?_
  rintro e w90 ⟨⟨kz, hk0, hk1, rfl⟩, rfl⟩
  obtain ⟨j, hj⟩ : ∃ j : Nat, kz = (j : Int) := ⟨kz.toNat, by omega⟩
  subst hj
  have hS19 : Hid (St w w90 [(bp, v16, P), (bq, v18, R)] []) := hS18.out.swapq
  clear hS18
  obtain ⟨j1, hj11, hj12⟩ : ∃ j1, j1 ≤ p ∧ ((((j : Nat) : Int):Int) < 0 ∧ j1 = 0 ∨ 0 ≤ (((j : Nat) : Int):Int) ∧ (((j : Nat) : Int):Int) ≤ ((P.length : Nat) : Int) ∧ (((j : Nat) : Int):Int) = (j1 : Nat) ∨ ((P.length : Nat) : Int) < (((j : Nat) : Int):Int) ∧ j1 = P.length) := by
    by_cases hd : j ≤ p
    · exact ⟨j, hd, .inr (.inl ⟨by omega, by rw [hp]; omega, rfl⟩)⟩
    · exact ⟨p, Nat.le_refl _, .inr (.inr ⟨by rw [hp]; omega, hp.symm⟩)⟩
  go_wp2_with fail
  have hS20 : Hid (St w (w90.alloc (.cells #[] 37)) [(bp, v16, P), (bq, v18, R)] [((.slice (some ⟨w90.heap.size, 0, none⟩) 0 0), [])]) := hS19.out.newl0 [] (by decide)
  clear hS19
  skip
  refine (pop_is (((j : Nat) : Int)) _ hS20.out (by rw [hp]; omega) (j1) hj12).mono ?_
  rintro e w21 ⟨u21, v21, rfl, hS21'⟩
  have hS21 : Hid (St w w21 [(bp, v21, P.drop j1), (bq, v18, R)] [(u21, P.take j1), ((.slice (some ⟨w90.heap.size, 0, none⟩) 0 0), [])]) := hS21'
  clear hS21' hS20
  have hS22 : Hid (St w w21 [(bp, v21, P.drop j1), (bq, v18, R)] [((.slice (some ⟨w90.heap.size, 0, none⟩) 0 0), []), (u21, P.take j1)]) := hS21.out.swapl
  clear hS21
  obtain ⟨q23, hq23⟩ := (hS22.out.l (u21, P.take j1) (by simp)).rdi
  go_wp2_with (refine wpList_append_q (by rfl) _ _ rfl (.slice (some ⟨w90.heap.size, 0, none⟩) 0 0) ([]) rfl hS22.out.hl u21 q23 (P.take j1) rfl hq23 (by rw [List.length_nil, List.length_take, hp]; omega) ?_; rintro v24 w24 hq24 hg24 hf24; rw [List.nil_append] at hq24; clear hq23; have hS24 : Hid (St w w24 [(bp, v21, P.drop j1), (bq, v18, R)] [(v24, P.take j1), (u21, P.take j1)]) := hS22.out.app hg24 hq24 hf24; clear hq24 hg24 hf24 hS22)
  skip
  refine (pop_is (99) _ hS24.out (by rw [List.length_drop, hp]; omega) ((P.drop j1).length) (.inr (.inr ⟨by rw [List.length_drop, hp]; omega, rfl⟩))).mono ?_
  rintro e w25 ⟨u25, v25, rfl, hS25'⟩
  rw [List.drop_length, List.take_length] at hS25'
  have hS25 : Hid (St w w25 [(bp, v25, []), (bq, v18, R)] [(u25, P.drop j1), (v24, P.take j1), (u21, P.take j1)]) := hS25'
  clear hS25' hS24
  have hS26 : Hid (St w w25 [(bp, v25, []), (bq, v18, R)] [(v24, P.take j1), (u25, P.drop j1), (u21, P.take j1)]) := hS25.out.swapl
  clear hS25
  obtain ⟨q27, hq27⟩ := (hS26.out.l (u25, P.drop j1) (by simp)).rdi
  go_upto_region 10 with (refine wpList_append_q (by rfl) _ _ rfl v24 (P.take j1) rfl hS26.out.hl u25 q27 (P.drop j1) rfl hq27 (by rw [List.length_take, List.length_drop, hp]; omega) ?_; rintro v28 w28 hq28 hg28 hf28; rw [List.take_append_drop] at hq28; clear hq27; have hS28 : Hid (St w w28 [(bp, v25, []), (bq, v18, R)] [(v28, P), (u25, P.drop j1), (u21, P.take j1)]) := hS26.out.app hg28 hq28 hf28; clear hq28 hg28 hf28 hS26)
  have hS29 : Hid (St w w28 [(bp, v25, []), (bq, v18, R)] [(u25, P.drop j1), (v28, P), (u21, P.take j1)]) := hS28.out.swapl
  clear hS28
  have hS30 : Hid (St w w28 [(bp, v25, []), (bq, v18, R)] [(v28, P), (u21, P.take j1)]) := hS29.out.dropl
  clear hS29
  have hS31 : Hid (St w w28 [(bp, v25, []), (bq, v18, R)] [(u21, P.take j1), (v28, P)]) := hS30.out.swapl
  clear hS30
  have hS32 : Hid (St w w28 [(bp, v25, []), (bq, v18, R)] [(v28, P)]) := hS31.out.dropl
  clear hS31
  obtain ⟨a33, cc33, e33, ec33⟩ := (hS32.out.l (v28, P) (by simp)).len
  have ee33 : v28 = .slice a33 p cc33 := by first | exact e33 | (rw [← hp]; exact e33)
  clear e33
  subst ee33
  have hS34 : Hid (St w w28 [(bq, v18, R), (bp, v25, [])] [((.slice a33 p cc33), P)]) := hS32.out.swapq
  clear hS32
  obtain ⟨j2, hj21, hj22⟩ : ∃ j2, j2 ≤ r ∧ ((((j : Nat) : Int):Int) < 0 ∧ j2 = 0 ∨ 0 ≤ (((j : Nat) : Int):Int) ∧ (((j : Nat) : Int):Int) ≤ ((R.length : Nat) : Int) ∧ (((j : Nat) : Int):Int) = (j2 : Nat) ∨ ((R.length : Nat) : Int) < (((j : Nat) : Int):Int) ∧ j2 = R.length) := by
    by_cases hd : j ≤ r
    · exact ⟨j, hd, .inr (.inl ⟨by omega, by rw [hr]; omega, rfl⟩)⟩
    · exact ⟨r, Nat.le_refl _, .inr (.inr ⟨by rw [hr]; omega, hr.symm⟩)⟩
  go_wp2_with fail
  have hS35 : Hid (St w (w28.alloc (.cells #[] 37)) [(bq, v18, R), (bp, v25, [])] [((.slice (some ⟨w28.heap.size, 0, none⟩) 0 0), []), ((.slice a33 p cc33), P)]) := hS34.out.newl0 [] (by decide)
  clear hS34
  skip
  refine (pop_is (((j : Nat) : Int)) _ hS35.out (by rw [hr]; omega) (j2) hj22).mono ?_
  rintro e w36 ⟨u36, v36, rfl, hS36'⟩
  have hS36 : Hid (St w w36 [(bq, v36, R.drop j2), (bp, v25, [])] [(u36, R.take j2), ((.slice (some ⟨w28.heap.size, 0, none⟩) 0 0), []), ((.slice a33 p cc33), P)]) := hS36'
  clear hS36' hS35
  have hS37 : Hid (St w w36 [(bq, v36, R.drop j2), (bp, v25, [])] [((.slice (some ⟨w28.heap.size, 0, none⟩) 0 0), []), (u36, R.take j2), ((.slice a33 p cc33), P)]) := hS36.out.swapl
  clear hS36
  obtain ⟨q38, hq38⟩ := (hS37.out.l (u36, R.take j2) (by simp)).rdi
  go_wp2_with (refine wpList_append_q (by rfl) _ _ rfl (.slice (some ⟨w28.heap.size, 0, none⟩) 0 0) ([]) rfl hS37.out.hl u36 q38 (R.take j2) rfl hq38 (by rw [List.length_nil, List.length_take, hr]; omega) ?_; rintro v39 w39 hq39 hg39 hf39; rw [List.nil_append] at hq39; clear hq38; have hS39 : Hid (St w w39 [(bq, v36, R.drop j2), (bp, v25, [])] [(v39, R.take j2), (u36, R.take j2), ((.slice a33 p cc33), P)]) := hS37.out.app hg39 hq39 hf39; clear hq39 hg39 hf39 hS37)
  skip
  refine (pop_is (99) _ hS39.out (by rw [List.length_drop, hr]; omega) ((R.drop j2).length) (.inr (.inr ⟨by rw [List.length_drop, hr]; omega, rfl⟩))).mono ?_
  rintro e w40 ⟨u40, v40, rfl, hS40'⟩
  rw [List.drop_length, List.take_length] at hS40'
  have hS40 : Hid (St w w40 [(bq, v40, []), (bp, v25, [])] [(u40, R.drop j2), (v39, R.take j2), (u36, R.take j2), ((.slice a33 p cc33), P)]) := hS40'
  clear hS40' hS39
  have hS41 : Hid (St w w40 [(bq, v40, []), (bp, v25, [])] [(v39, R.take j2), (u40, R.drop j2), (u36, R.take j2), ((.slice a33 p cc33), P)]) := hS40.out.swapl
  clear hS40
  obtain ⟨q42, hq42⟩ := (hS41.out.l (u40, R.drop j2) (by simp)).rdi
  go_upto_region 11 with (refine wpList_append_q (by rfl) _ _ rfl v39 (R.take j2) rfl hS41.out.hl u40 q42 (R.drop j2) rfl hq42 (by rw [List.length_take, List.length_drop, hr]; omega) ?_; rintro v43 w43 hq43 hg43 hf43; rw [List.take_append_drop] at hq43; clear hq42; have hS43 : Hid (St w w43 [(bq, v40, []), (bp, v25, [])] [(v43, R), (u40, R.drop j2), (u36, R.take j2), ((.slice a33 p cc33), P)]) := hS41.out.app hg43 hq43 hf43; clear hq43 hg43 hf43 hS41)
  have hS44 : Hid (St w w43 [(bq, v40, []), (bp, v25, [])] [(u40, R.drop j2), (v43, R), (u36, R.take j2), ((.slice a33 p cc33), P)]) := hS43.out.swapl
  clear hS43
  have hS45 : Hid (St w w43 [(bq, v40, []), (bp, v25, [])] [(v43, R), (u36, R.take j2), ((.slice a33 p cc33), P)]) := hS44.out.dropl
  clear hS44
  have hS46 : Hid (St w w43 [(bq, v40, []), (bp, v25, [])] [(u36, R.take j2), (v43, R), ((.slice a33 p cc33), P)]) := hS45.out.swapl
  clear hS45
  have hS47 : Hid (St w w43 [(bq, v40, []), (bp, v25, [])] [(v43, R), ((.slice a33 p cc33), P)]) := hS46.out.dropl
  clear hS46
  obtain ⟨a48, cc48, e48, ec48⟩ := (hS47.out.l (v43, R) (by simp)).len
  have ee48 : v43 = .slice a48 r cc48 := by first | exact e48 | (rw [← hr]; exact e48)
  clear e48
  subst ee48
  have hS49 : Hid (St w (w43.alloc (.cells #[] 37)) [(bq, v40, []), (bp, v25, [])] [((.slice (some ⟨w43.heap.size, 0, none⟩) 0 0), []), ((.slice a48 r cc48), R), ((.slice a33 p cc33), P)]) := hS47.out.newl0 [] (by decide)
  clear hS47
  go_wp2_with (at_builtin; first | (refine wpList_append_q (by rfl) _ _ rfl (.slice (some ⟨w43.heap.size, 0, none⟩) 0 0) ([]) rfl hS49.out.hl (.slice aa n ac) qa (X) rfl (hX.out.below hS49.out.b) (by rw [hXl]; simp; omega) ?_; rintro v50 w50 hq50 hg50 hf50; rw [List.nil_append] at hq50; have hS50 : Hid (St w w50 [(bq, v40, []), (bp, v25, [])] [(v50, X), ((.slice a48 r cc48), R), ((.slice a33 p cc33), P)]) := hS49.out.app hg50 hq50 hf50; clear hq50 hg50 hf50 hS49) | (refine wpList_append_q (by rfl) _ _ rfl v50 (X) rfl hS50.out.hl (.slice ba m bc) qb (Y) rfl (hY.out.below hS50.out.b) (by rw [hXl, hYl]; omega) ?_; rintro v51 w51 hq51 hg51 hf51; rw [← hP] at hq51; have hS51 : Hid (St w w51 [(bq, v40, []), (bp, v25, [])] [(v51, P), ((.slice a48 r cc48), R), ((.slice a33 p cc33), P)]) := hS50.out.app hg51 hq51 hf51; clear hq51 hg51 hf51 hS50))
  obtain ⟨p52, hp52⟩ := (hS51.out.l ((.slice a33 p cc33), P) (by simp)).rdi
  obtain ⟨r52, hr52⟩ := (hS51.out.l (v51, P) (by simp)).rdi
  skip
  refine (same_i _ _ p52 r52 (P) _ hp52 hr52).mono ?_
  rintro e w52 ⟨rfl, b52⟩
  have hS52 : Hid (St w w52 [(bq, v40, []), (bp, v25, [])] [(v51, P), ((.slice a48 r cc48), R), ((.slice a33 p cc33), P)]) := hS51.out.below b52
  clear hS51 b52 hp52 hr52
  have hS53 : Hid (St w w52 [(bq, v40, []), (bp, v25, [])] [((.slice a48 r cc48), R), ((.slice a33 p cc33), P)]) := hS52.out.dropl
  clear hS52
  have hS54 : Hid (St w (w52.alloc (.cells #[] 37)) [(bq, v40, []), (bp, v25, [])] [((.slice (some ⟨w52.heap.size, 0, none⟩) 0 0), []), ((.slice a48 r cc48), R), ((.slice a33 p cc33), P)]) := hS53.out.newl0 [] (by decide)
  clear hS53
  go_wp2_with (at_builtin; first | (refine wpList_append_q (by rfl) _ _ rfl (.slice (some ⟨w52.heap.size, 0, none⟩) 0 0) ([]) rfl hS54.out.hl (.slice aa n ac) qa (X) rfl (hX.out.below hS54.out.b) (by rw [hXl]; simp; omega) ?_; rintro v55 w55 hq55 hg55 hf55; rw [List.nil_append] at hq55; have hS55 : Hid (St w w55 [(bq, v40, []), (bp, v25, [])] [(v55, X), ((.slice a48 r cc48), R), ((.slice a33 p cc33), P)]) := hS54.out.app hg55 hq55 hf55; clear hq55 hg55 hf55 hS54) | (refine wpList_append_q (by rfl) _ _ rfl v55 (X) rfl hS55.out.hl (.slice ca l cc) qc (Z) rfl (hZ.out.below hS55.out.b) (by rw [hXl, hZl]; omega) ?_; rintro v56 w56 hq56 hg56 hf56; rw [← hR] at hq56; have hS56 : Hid (St w w56 [(bq, v40, []), (bp, v25, [])] [(v56, R), ((.slice a48 r cc48), R), ((.slice a33 p cc33), P)]) := hS55.out.app hg56 hq56 hf56; clear hq56 hg56 hf56 hS55))
  obtain ⟨p57, hp57⟩ := (hS56.out.l ((.slice a48 r cc48), R) (by simp)).rdi
  obtain ⟨r57, hr57⟩ := (hS56.out.l (v56, R) (by simp)).rdi
  skip
  refine (same_i _ _ p57 r57 (R) _ hp57 hr57).mono ?_
  rintro e w57 ⟨rfl, b57⟩
  have hS57 : Hid (St w w57 [(bq, v40, []), (bp, v25, [])] [(v56, R), ((.slice a48 r cc48), R), ((.slice a33 p cc33), P)]) := hS56.out.below b57
  clear hS56 b57 hp57 hr57
  have hS58 : Hid (St w w57 [(bq, v40, []), (bp, v25, [])] [((.slice a48 r cc48), R), ((.slice a33 p cc33), P)]) := hS57.out.dropl
  clear hS57
  have c59 := (hS58.out.q (bp, v25, []) (by simp)).2.1.c
  go_wp2_with fail
  refine (waiting_is v25 ([]) _ (hS58.out.q (bp, v25, []) (by simp)).2.2).mono ?_
  rintro e w59 ⟨rfl, b59⟩
  have hS59 : Hid (St w w59 [(bq, v40, []), (bp, v25, [])] [((.slice a48 r cc48), R), ((.slice a33 p cc33), P)]) := hS58.out.below b59
  clear hS58 b59 c59
  have c60 := (hS59.out.q (bq, v40, []) (by simp)).2.1.c
  go_wp2_with fail
  refine (waiting_is v40 ([]) _ (hS59.out.q (bq, v40, []) (by simp)).2.2).mono ?_
  rintro e w60 ⟨rfl, b60⟩
  have hS60 : Hid (St w w60 [(bq, v40, []), (bp, v25, [])] [((.slice a48 r cc48), R), ((.slice a33 p cc33), P)]) := hS59.out.below b60
  clear hS59 b60 c60
  have hS61 : Hid (St w w60 [(bp, v25, []), (bq, v40, [])] [((.slice a48 r cc48), R), ((.slice a33 p cc33), P)]) := hS60.out.swapq
  clear hS60
  go_wp2_with fail
  refine (pop_is (5) _ hS61.out (by decide) (0) (.inr (.inr ⟨by decide, rfl⟩))).mono ?_
  rintro e w62 ⟨u62, v62, rfl, hS62'⟩
  simp only [List.drop_nil, List.take_nil] at hS62'
  have hS62 : Hid (St w w62 [(bp, v62, []), (bq, v40, [])] [(u62, []), ((.slice a48 r cc48), R), ((.slice a33 p cc33), P)]) := hS62'
  clear hS62' hS61
  obtain ⟨a63, cc63, e63, ec63⟩ := (hS62.out.l (u62, []) (by simp)).len
  have ee63 : u62 = .slice a63 0 cc63 := by first | exact e63 | (rw [← (rfl : ([] : List Inp).length = 0)]; exact e63)
  clear e63
  subst ee63
  go_wp2_with fail
  refine (runs_is _).mono ?_
  rintro e w64 ⟨rfl, b64⟩
  have hB : Hid (Below w.heap.size w w64) := below_call hS62.out.b b64
  clear hS62 b64
  go_wp2_with fail
  go_ret
  exact ⟨rfl, hB.out⟩
end Go.Proofs.Ytmkdhgjnfnfliaa
