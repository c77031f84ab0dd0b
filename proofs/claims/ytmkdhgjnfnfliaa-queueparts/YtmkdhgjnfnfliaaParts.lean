/- QueueParts, walked. -/
import Derived.Test.YtmkdhgjnfnfliaaRuns
import Derived.Test.YtmkdhgjnfnfliaaFrame
import Derived.Test.YtmkdhgjnfnfliaaRooms
namespace Go.Proofs.Ytmkdhgjnfnfliaa
open Go.RowKit
set_option linter.unusedVariables false
set_option linter.unusedSimpArgs false
attribute [local go_sem ↓] Go.wp_at_zero Go.wp_at_succ
theorem iAt_snoc (is : List Inp) (k : Nat) (h : k < is.length) : is.take (k + 1) = is.take k ++ [iAt is k] := by
  rw [List.take_add_one, List.getElem?_eq_getElem h]
  simp [iAt, List.getD_eq_getElem?_getD, List.getElem?_eq_getElem h]
set_option maxHeartbeats 4000000 in
set_option maxRecDepth 100000 in
theorem queueParts_walk (ia : Option Addr) (il ic : Nat) (ct nn mm : Int) (w : World) (hI : IsI w ia il ic) (hct : (Lit.int .i64 ct).wf = true) (hnn : (Lit.int .i64 nn).wf = true) (hmm : (Lit.int .i64 mm).wf = true) :
    Calls Try.prog 5 #[.slice ia il ic, .int .i64 ct, .int .i64 nn, .int .i64 mm] w fun e w' => e = .returned (.bool true) ∧ Below w.heap.size w w' := by
  obtain ⟨qi, li, hli, hri⟩ := hI
  obtain ⟨z, hz1, hz2, hz3, hz4⟩ := firsts il 20
  have hO : Hid (RdI w (.slice ia z ic) qi (li.take z)) := hri.take (by omega)
  have hic : il ≤ ic ∧ ic ≤ 9223372036854775807 := by obtain ⟨_, _, _, _, e, h1, h2, _⟩ := hri; cases e; omega
  obtain ⟨O, hOe⟩ : ∃ O, O = li.take z := ⟨_, rfl⟩
  have hOl0 : O.length = z := by rw [hOe, List.length_take]; omega
  have hOl : Hid (O.length = z) := hOl0
  clear hOl0
  rw [← hOe] at hO
  clear hOe hri hli li
  obtain ⟨hic1, hic2⟩ := hic
  have hS0 : Hid (St w (w.alloc (.cells #[] 37)) [] [(.slice (some ⟨w.heap.size, 0, none⟩) 0 0, [])]) := (st_start w).newl0 [] (by decide)
  go_enter Try.func5, Try.ntmps5
  go_upto_region 1 with fail
  go_cut [9] (fun x wx => ∃ oa oc, x = .slice oa z oc ∧ Hid (St w wx [] [(.slice oa z oc, O)]))
  case first =>
    by_cases hc : il ≤ 20
    · obtain rfl := hz3 hc
      go_wp2_with (at_builtin; refine wpList_append_q (by rfl) _ _ rfl (.slice (some ⟨w.heap.size, 0, none⟩) 0 0) ([]) rfl hS0.out.hl (.slice ia z ic) qi (O) rfl (hO.out.below hS0.out.b) (by have := hOl.out; simp; omega) ?_; rintro v1 w1 hq1 hg1 hf1; rw [List.nil_append] at hq1; have hS1 : Hid (St w w1 [] [(v1, O)]) := hS0.out.app hg1 hq1 hf1; clear hq1 hg1 hf1 hS0)
      obtain ⟨oa, oc, he, _⟩ := hS1.out.hl.len
      rw [hOl.out] at he
      obtain rfl := he
      go_meet
      exact ⟨oa, oc, rfl, hS1⟩
    · obtain rfl := hz4 (by omega)
      go_wp2_with (at_builtin; refine wpList_append_q (by rfl) _ _ rfl (.slice (some ⟨w.heap.size, 0, none⟩) 0 0) ([]) rfl hS0.out.hl (.slice ia 20 ic) qi (O) rfl (hO.out.below hS0.out.b) (by have := hOl.out; simp; omega) ?_; rintro v1 w1 hq1 hg1 hf1; rw [List.nil_append] at hq1; have hS1 : Hid (St w w1 [] [(v1, O)]) := hS0.out.app hg1 hq1 hf1; clear hq1 hg1 hf1 hS0)
      obtain ⟨oa, oc, he, _⟩ := hS1.out.hl.len
      rw [hOl.out] at he
      obtain rfl := he
      go_meet
      exact ⟨oa, oc, rfl, hS1⟩
  obtain ⟨oa, oc, rfl, hS1⟩ := hcut
  clear hS0 hz3 hz4 hO
  obtain ⟨w1, hw1⟩ : ∃ w1, w1 = wc := ⟨_, rfl⟩
  subst hw1
  go_upto_region 3 with fail
  have hS2' := hS1.out.newq0.newq0
  rw [show (w1.alloc (.cells #[.slice none 0 0] 24)).heap.size = w1.heap.size + 1 from by simp] at hS2'
  refine world_gen (fun W => Hid (St w W [(w1.heap.size + 1, .slice none 0 0, []), (w1.heap.size, .slice none 0 0, [])] [(.slice oa z oc, O)])) hS2' ?_
  rintro w2 hS2
  clear hS2'
  obtain ⟨bb, hbb⟩ : ∃ b, Hid (w1.heap.size + 1 = b) := ⟨_, rfl⟩
  obtain ⟨ba, hba⟩ : ∃ b, Hid (w1.heap.size = b) := ⟨_, rfl⟩
  rw [hbb.out, hba.out] at hS2 ⊢
  clear hS1 hbb hba
  have hS3 : Hid (St w w2 [(ba, .slice none 0 0, []), (bb, .slice none 0 0, [])] [((.slice oa z oc), O)]) := hS2.out.swapq
  clear hS2
  obtain ⟨q3, hq3⟩ := hS3.out.hl.rdi
  go_wp2_with fail
  refine (push_is (20) (.slice oa z oc) q3 O _ hS3.out hq3 (by have := hOl.out; simp; omega) O true (.inr ⟨by have := hOl.out; simp; omega, rfl, by simp⟩)).mono ?_
  rintro e w4 ⟨rfl, v4, hS4'⟩
  have hS4 : Hid (St w w4 [(ba, v4, O), (bb, .slice none 0 0, [])] [((.slice oa z oc), O)]) := hS4'
  clear hS4' hS3
  clear hq3
  have hS5 : Hid (St w w4 [(bb, .slice none 0 0, []), (ba, v4, O)] [((.slice oa z oc), O)]) := hS4.out.swapq
  clear hS4
  go_upto_region 5 with fail
  go_wp2_with fail
  go_loopw [30] (fun i wr => ∃ (k : Nat) (vb : Value), k ≤ z ∧ i = .int .i64 ((k : Nat) : Int) ∧ Hid (St w wr [(bb, vb, O.take k), (ba, v4, O)] [(.slice oa z oc, O)])) (fun i _ => z - (intOf i).toNat)
  case atStart => exact ⟨0, _, Nat.zero_le _, rfl, by rw [List.take_zero]; exact hS5⟩
  case round =>
    obtain ⟨k, vb, hk, rfl, hS50⟩ := hrel
    clear hS5
    by_cases hlt : k < z
    · obtain ⟨q51, hq51⟩ := hS50.out.hl.rdi
      obtain ⟨_, _, ao, cap, e51, _, _, hc⟩ := hq51
      injection e51 with e1 e2 e3
      subst e1 e3
      obtain ⟨off, rfl, hlb, hcell⟩ := hc (by have := hOl.out; omega)
      obtain ⟨p0, p1, p2, p3, p4⟩ := hcell k (by have := hOl.out; omega)
      have hsn : Hid (O.take (k + 1) = O.take k ++ [iAt O k]) := iAt_snoc O k (by have := hOl.out; omega)
      have hoc : z ≤ oc := by have := hOl.out; omega
      clear hc hcell e2
      obtain ⟨⟨x1, ⟨x2, x3, x4, x5⟩⟩, hee⟩ : ∃ x, iAt O k = x := ⟨_, rfl⟩
      rw [hee] at p0 p1 p2 p3 p4 hsn
      clear hee
      simp only at p0 p1 p2 p3 p4
      go_upto_region 8 with fail
      refine world_gen (fun W => Hid (St w W [(bb, vb, O.take k), (ba, v4, O)] [(.slice (some ⟨q51, off, none⟩) z oc, O)]) ∧ Ink W wr.heap.size ⟨x1, ⟨x2, x3, x4, x5⟩⟩) ⟨hS50.out.below (below_alloc _ _), ink_new wr ⟨x1, ⟨x2, x3, x4, x5⟩⟩⟩ ?_
      rintro w52 ⟨hS52, k52⟩
      obtain ⟨g, hg⟩ : ∃ g, Hid (wr.heap.size = g) := ⟨_, rfl⟩
      rw [hg.out] at k52 ⊢
      clear hg hS50 p0 p1 p2 p3 p4
      obtain ⟨m0, m1, m2, m3, m4⟩ := k52.c
      simp only [Nat.zero_add] at m0 m1 m2 m3 m4
      go_wp2_with fail
      have hS53 : Hid (St w (w52.alloc (.cells #[.bool x1, .int .i64 x2, .int .i64 x3, .int .i64 x4, .int .u64 x5] 37)) [(bb, vb, O.take k), (ba, v4, O)] [((.slice (some ⟨w52.heap.size, 0, none⟩) 1 1), [⟨x1, ⟨x2, x3, x4, x5⟩⟩]), ((.slice (some ⟨q51, off, none⟩) z oc), O)]) := hS52.out.newl0 [⟨x1, ⟨x2, x3, x4, x5⟩⟩] (by simp)
      clear hS52 m0 m1 m2 m3 m4 k52
      obtain ⟨q54, hq54⟩ := hS53.out.hl.rdi
      have hkl : (O.take k).length = k := by have := hOl.out; rw [List.length_take]; omega
      skip
      refine (push_is (20) (.slice (some ⟨w52.heap.size, 0, none⟩) 1 1) q54 [⟨x1, ⟨x2, x3, x4, x5⟩⟩] _ hS53.out hq54 (by rw [hkl]; simp; omega) (O.take (k + 1)) true (.inr ⟨by rw [hkl]; simp; omega, rfl, hsn.out⟩)).mono ?_
      rintro e w55 ⟨rfl, v55, hS55'⟩
      have hS55 : Hid (St w w55 [(bb, v55, (O.take (k + 1))), (ba, v4, O)] [((.slice (some ⟨w52.heap.size, 0, none⟩) 1 1), [⟨x1, ⟨x2, x3, x4, x5⟩⟩]), ((.slice (some ⟨q51, off, none⟩) z oc), O)]) := hS55'
      clear hS55' hS53
      clear hq54 hkl hsn
      have hS56 : Hid (St w w55 [(bb, v55, (O.take (k + 1))), (ba, v4, O)] [((.slice (some ⟨q51, off, none⟩) z oc), O)]) := hS55.out.dropl
      clear hS55
      go_wp2_with fail
      go_roundw
      case rel => exact ⟨k + 1, _, by omega, by go_num, hS56⟩
      case measure => simp [intOf]; omega
    · obtain rfl : k = z := by omega
      have hS60 : Hid (St w wr [(bb, vb, O), (ba, v4, O)] [((.slice oa k oc), O)]) := by have := hS50.out; rw [List.take_of_length_le (by have := hOl.out; omega)] at this; exact this
      clear hS50
      go_wp2_with fail
      refine (within_any _ _ _ _ (by decide) (by decide) (by decide)).mono ?_
      rintro e w61 ⟨⟨j1z, j1p, j1q, rfl⟩, rfl⟩
      obtain ⟨j1, hj1⟩ : ∃ j : Nat, j1z = (j : Int) := ⟨j1z.toNat, by omega⟩
      subst hj1
      go_wp2_with fail
      refine (within_any _ _ _ _ (by decide) (by decide) (by decide)).mono ?_
      rintro e w62 ⟨⟨j2z, j2p, j2q, rfl⟩, rfl⟩
      obtain ⟨j2, hj2⟩ : ∃ j : Nat, j2z = (j : Int) := ⟨j2z.toNat, by omega⟩
      subst hj2
      go_upto_region 12 with fail
      obtain ⟨K1, hK1, hK1b⟩ : ∃ kz, kz ≤ k ∧ ((((j1 : Nat) : Int) < 0 ∧ kz = 0) ∨ (0 ≤ ((j1 : Nat) : Int) ∧ ((j1 : Nat) : Int) ≤ ((O.length : Nat) : Int) ∧ ((j1 : Nat) : Int) = (kz : Nat)) ∨ (((O.length : Nat) : Int) < ((j1 : Nat) : Int) ∧ kz = O.length)) := by
        have := hOl.out
        by_cases hd : j1 ≤ k
        · exact ⟨j1, hd, .inr (.inl ⟨by omega, by omega, rfl⟩)⟩
        · exact ⟨k, Nat.le_refl _, .inr (.inr ⟨by omega, by omega⟩)⟩
      obtain ⟨K2, hK2, hK2b⟩ : ∃ kz, kz ≤ k - K1 ∧ ((((j2 : Nat) : Int) < 0 ∧ kz = 0) ∨ (0 ≤ ((j2 : Nat) : Int) ∧ ((j2 : Nat) : Int) ≤ (((O.drop K1).length : Nat) : Int) ∧ ((j2 : Nat) : Int) = (kz : Nat)) ∨ ((((O.drop K1).length : Nat) : Int) < ((j2 : Nat) : Int) ∧ kz = (O.drop K1).length)) := by
        have := hOl.out
        rw [List.length_drop]
        by_cases hd : j2 ≤ k - K1
        · exact ⟨j2, hd, .inr (.inl ⟨by omega, by omega, rfl⟩)⟩
        · exact ⟨k - K1, Nat.le_refl _, .inr (.inr ⟨by omega, by omega⟩)⟩
      have hK3 : (((j1 : Nat) : Int) + ((j2 : Nat) : Int) < 0 ∧ K1 + K2 = 0) ∨ (0 ≤ ((j1 : Nat) : Int) + ((j2 : Nat) : Int) ∧ ((j1 : Nat) : Int) + ((j2 : Nat) : Int) ≤ ((O.length : Nat) : Int) ∧ ((j1 : Nat) : Int) + ((j2 : Nat) : Int) = ((K1 + K2 : Nat) : Int)) ∨ (((O.length : Nat) : Int) < ((j1 : Nat) : Int) + ((j2 : Nat) : Int) ∧ K1 + K2 = O.length) := by
        have h0 := hOl.out
        rw [List.length_drop] at hK2b
        omega
      have hK1h : Hid _ := hK1b
      have hK2h : Hid _ := hK2b
      have hK3h : Hid _ := hK3
      clear hK1b hK2b hK3
      obtain ⟨kz, hkz⟩ : ∃ kz, Hid (K1 + K2 = kz) := ⟨_, rfl⟩
      have hKz : kz ≤ k := by have := hkz.out; omega
      obtain ⟨D, hD⟩ : ∃ D, Hid (O.drop kz = D) := ⟨_, rfl⟩
      obtain ⟨Tk, hT⟩ : ∃ T, Hid (O.take kz = T) := ⟨_, rfl⟩
      obtain ⟨d, hd⟩ : ∃ d, Hid (D.length = d) := ⟨_, rfl⟩
      have hTl0 : Tk.length = kz := by have h0 := hOl.out; rw [← hT.out, List.length_take]; omega
      have hTl : Hid (Tk.length = kz) := hTl0
      clear hTl0
      have hKd0 : kz + d = k := by have h0 := hOl.out; rw [← hd.out, ← hD.out, List.length_drop]; omega
      have hKd : Hid (kz + d = k) := hKd0
      clear hKd0
      have hd20 : d ≤ 20 ∧ kz ≤ 20 := by have := hKd.out; omega
      have hS61 : Hid (St w w62 [(ba, v4, O), (bb, vb, O)] [((.slice oa k oc), O)]) := hS60.out.swapq
      clear hS60
      go_wp2_with fail
      have hS62 : Hid (St w (w62.alloc (.cells #[] 37)) [(ba, v4, O), (bb, vb, O)] [((.slice (some ⟨w62.heap.size, 0, none⟩) 0 0), []), ((.slice oa k oc), O)]) := hS61.out.newl0 [] (by decide)
      clear hS61
      skip
      refine (pop_is (((j1 : Nat) : Int)) _ hS62.out (by have := hOl.out; omega) (K1) hK1h.out).mono ?_
      rintro e w63 ⟨u63, v63, rfl, hS63'⟩
      have hS63 : Hid (St w w63 [(ba, v63, O.drop K1), (bb, vb, O)] [(u63, O.take K1), ((.slice (some ⟨w62.heap.size, 0, none⟩) 0 0), []), ((.slice oa k oc), O)]) := hS63'
      clear hS63' hS62
      have hS64 : Hid (St w w63 [(ba, v63, O.drop K1), (bb, vb, O)] [((.slice (some ⟨w62.heap.size, 0, none⟩) 0 0), []), (u63, O.take K1), ((.slice oa k oc), O)]) := hS63.out.swapl
      clear hS63
      obtain ⟨q65, hq65⟩ := (hS64.out.l (u63, O.take K1) (by simp)).rdi
      go_wp2_with (refine wpList_append_q (by rfl) _ _ rfl (.slice (some ⟨w62.heap.size, 0, none⟩) 0 0) ([]) rfl hS64.out.hl u63 q65 (O.take K1) rfl hq65 (by have := hOl.out; rw [List.length_nil, List.length_take]; omega) ?_; rintro v66 w66 hq66 hg66 hf66; rw [List.nil_append] at hq66; clear hq65; have hS66 : Hid (St w w66 [(ba, v63, O.drop K1), (bb, vb, O)] [(v66, O.take K1), (u63, O.take K1), ((.slice oa k oc), O)]) := hS64.out.app hg66 hq66 hf66; clear hq66 hg66 hf66 hS64)
      have hS67 : Hid (St w w66 [(ba, v63, O.drop K1), (bb, vb, O)] [(u63, O.take K1), (v66, O.take K1), ((.slice oa k oc), O)]) := hS66.out.swapl
      clear hS66
      have hS68 : Hid (St w w66 [(ba, v63, O.drop K1), (bb, vb, O)] [(v66, O.take K1), ((.slice oa k oc), O)]) := hS67.out.dropl
      clear hS67
      skip
      refine (pop_is (((j2 : Nat) : Int)) _ hS68.out (by have := hOl.out; rw [List.length_drop]; omega) (K2) hK2h.out).mono ?_
      rintro e w69 ⟨u69, v69, rfl, hS69'⟩
      rw [List.drop_drop, hkz.out, hD.out] at hS69'
      have hS69 : Hid (St w w69 [(ba, v69, D), (bb, vb, O)] [(u69, ((O.drop K1).take K2)), (v66, O.take K1), ((.slice oa k oc), O)]) := hS69'
      clear hS69' hS68
      have hS70 : Hid (St w w69 [(ba, v69, D), (bb, vb, O)] [(v66, O.take K1), (u69, ((O.drop K1).take K2)), ((.slice oa k oc), O)]) := hS69.out.swapl
      clear hS69
      obtain ⟨q71, hq71⟩ := (hS70.out.l (u69, ((O.drop K1).take K2)) (by simp)).rdi
      go_upto_region 13 with (refine wpList_append_q (by rfl) _ _ rfl v66 (O.take K1) rfl hS70.out.hl u69 q71 (((O.drop K1).take K2)) rfl hq71 (by have := hOl.out; rw [List.length_take, List.length_take, List.length_drop]; omega) ?_; rintro v72 w72 hq72 hg72 hf72; rw [← List.take_add, hkz.out, hT.out] at hq72; clear hq71; have hS72 : Hid (St w w72 [(ba, v69, D), (bb, vb, O)] [(v72, Tk), (u69, ((O.drop K1).take K2)), ((.slice oa k oc), O)]) := hS70.out.app hg72 hq72 hf72; clear hq72 hg72 hf72 hS70)
      have hS73 : Hid (St w w72 [(ba, v69, D), (bb, vb, O)] [(u69, ((O.drop K1).take K2)), (v72, Tk), ((.slice oa k oc), O)]) := hS72.out.swapl
      clear hS72
      have hS74 : Hid (St w w72 [(ba, v69, D), (bb, vb, O)] [(v72, Tk), ((.slice oa k oc), O)]) := hS73.out.dropl
      clear hS73
      obtain ⟨a75, cc75, e75, ec75⟩ := (hS74.out.l (v72, Tk) (by simp)).len
      have ee75 : v72 = .slice a75 kz cc75 := by first | exact e75 | (rw [← hTl.out]; exact e75)
      clear e75
      subst ee75
      have hS76 : Hid (St w w72 [(bb, vb, O), (ba, v69, D)] [((.slice a75 kz cc75), Tk), ((.slice oa k oc), O)]) := hS74.out.swapq
      clear hS74
      go_wp2_with fail
      refine (pop_is (((j1 : Nat) : Int) + ((j2 : Nat) : Int)) _ hS76.out (by have := hOl.out; omega) (K1 + K2) hK3h.out).mono ?_
      rintro e w77 ⟨u77, v77, rfl, hS77'⟩
      rw [hkz.out, hD.out, hT.out] at hS77'
      have hS77 : Hid (St w w77 [(bb, v77, D), (ba, v69, D)] [(u77, Tk), ((.slice a75 kz cc75), Tk), ((.slice oa k oc), O)]) := hS77'
      clear hS77' hS76
      obtain ⟨a78, cc78, e78, ec78⟩ := (hS77.out.l (u77, Tk) (by simp)).len
      have ee78 : u77 = .slice a78 kz cc78 := by first | exact e78 | (rw [← hTl.out]; exact e78)
      clear e78
      subst ee78
      go_upto_region 14 with fail
      have hHd : Hid (St w w77.drew [(bb, v77, D), (ba, v69, D)] [((.slice a78 kz cc78), Tk), ((.slice a75 kz cc75), Tk), ((.slice oa k oc), O)]) := hS77.out.below (Below.refl _ _).drew
      clear hS77
      refine wp_region_held_drew (S := fun X => Hid (St w X [(bb, v77, D), (ba, v69, D)] [((.slice a78 kz cc78), Tk), ((.slice a75 kz cc75), Tk), ((.slice oa k oc), O)])) (by kernel_rfl) hHd (fun hHeld => ?_)
      generalize w77.drew = V at hHd hHeld ⊢
      clear hHd
      rcases Nat.eq_zero_or_pos d with hd0' | hd0'
      · have hd0 : Hid (d = 0) := hd0'
        clear hd0'
        refine take_at (i := 0) (v := .slice a75 kz cc75) rfl rfl (by kernel_rfl) (by kernel_rfl) (by kernel_rfl) (fun _ _ _ h => h) (Or.inl ⟨by rfl, fun X _ => by go_simp⟩) hHeld ?_
        try simp only [Act.put, List.setIfInBounds_toArray, List.set_cons_zero, List.set_cons_succ]
        refine take_at (i := 1) (v := .slice a78 kz cc78) rfl rfl (by kernel_rfl) (by kernel_rfl) (by kernel_rfl) (fun _ _ _ h => h) (Or.inl ⟨by rfl, fun X _ => by go_simp⟩) hHeld ?_
        try simp only [Act.put, List.setIfInBounds_toArray, List.set_cons_zero, List.set_cons_succ]
        refine wpAnyH_ready (rs := [2]) (by kernel_rfl) (by simp) ?_
        refine AllReadyH.cons rfl (fun K hK => ?_) AllReadyH.nil
        obtain ⟨qaY1, haY1⟩ := (hHeld.out.l ((.slice a75 kz cc75), Tk) (by simp)).rdi
        obtain ⟨qbY1, hbY1⟩ := (hHeld.out.l ((.slice a78 kz cc78), Tk) (by simp)).rdi
        rw [if_pos (by rfl)]
        go_wp2_with fail
        refine (same_i _ _ qaY1 qbY1 _ _ haY1 hbY1).mono ?_
        rintro e Y1 ⟨rfl, bY1⟩
        have hHn : Hid (St w Y1 [(bb, v77, D), (ba, v69, D)] [((.slice a78 kz cc78), Tk), ((.slice a75 kz cc75), Tk), ((.slice oa k oc), O)]) := hHeld.out.below bY1
        clear hHeld bY1 haY1 hbY1
        go_wp2_with fail
        refine hK.out _ _ hHn (fun hHeld => ?_)
        clear hK K hHn
        try simp only [Act.put, List.setIfInBounds_toArray, List.set_cons_zero, List.set_cons_succ]
        refine take_at (i := 3) (v := .bool true) rfl rfl (by kernel_rfl) (by kernel_rfl) (by kernel_rfl) (fun _ _ _ h => h) (Or.inl ⟨by rfl, fun X _ => by go_simp⟩) hHeld ?_
        try simp only [Act.put, List.setIfInBounds_toArray, List.set_cons_zero, List.set_cons_succ]
        refine take_at (i := 4) (v := .agg #[v69]) rfl rfl (by kernel_rfl) (by kernel_rfl) (by kernel_rfl) (fun _ _ _ h => h) (Or.inl ⟨by rfl, fun X hX => by have c0 := (hX.out.q (ba, v69, D) (by simp)).2.1.c; go_simp⟩) hHeld ?_
        try simp only [Act.put, List.setIfInBounds_toArray, List.set_cons_zero, List.set_cons_succ]
        refine take_at (i := 6) (v := .agg #[v77]) rfl rfl (by kernel_rfl) (by kernel_rfl) (by kernel_rfl) (fun _ _ _ h => h) (Or.inl ⟨by rfl, fun X hX => by have c0 := (hX.out.q (bb, v77, D) (by simp)).2.1.c; go_simp⟩) hHeld ?_
        try simp only [Act.put, List.setIfInBounds_toArray, List.set_cons_zero, List.set_cons_succ]
        refine wpAnyH_ready (rs := [5]) (by kernel_rfl) (by simp) ?_
        refine AllReadyH.cons rfl (fun K hK => ?_) AllReadyH.nil
        rw [if_pos (by rfl)]
        go_wp2_with fail
        refine (all_is v69 D _ (hHeld.out.q (ba, v69, D) (by simp)).2.2 (by have := hd.out; omega)).mono ?_
        rintro e Y2 ⟨ga, rfl, hga, bY2, _⟩
        have hHn : Hid (St w Y2 [(bb, v77, D), (ba, v69, D)] [((.slice a78 kz cc78), Tk), ((.slice a75 kz cc75), Tk), ((.slice oa k oc), O)]) := hHeld.out.below bY2
        clear hHeld bY2
        go_wp2_with fail
        refine hK.out _ _ hHn (fun hHeld => ?_)
        clear hK K hHn
        try simp only [Act.put, List.setIfInBounds_toArray, List.set_cons_zero, List.set_cons_succ]
        refine wpAnyH_ready (rs := [7]) (by kernel_rfl) (by simp) ?_
        refine AllReadyH.cons rfl (fun K hK => ?_) AllReadyH.nil
        rw [if_pos (by rfl)]
        go_wp2_with fail
        refine (all_is v77 D _ (hHeld.out.q (bb, v77, D) (by simp)).2.2 (by have := hd.out; omega)).mono ?_
        rintro e Y3 ⟨gb, rfl, hgb, bY3, _⟩
        have hHn : Hid (St w Y3 [(bb, v77, D), (ba, v69, D)] [((.slice a78 kz cc78), Tk), ((.slice a75 kz cc75), Tk), ((.slice oa k oc), O)]) := hHeld.out.below bY3
        have hga := hga.below bY3
        clear hHeld bY3
        go_wp2_with fail
        refine hK.out _ _ hHn (fun hHeld => ?_)
        clear hK K hHn
        try simp only [Act.put, List.setIfInBounds_toArray, List.set_cons_zero, List.set_cons_succ]
        refine wpAnyH_ready (rs := [8]) (by kernel_rfl) (by simp) ?_
        refine AllReadyH.cons rfl (fun K hK => ?_) AllReadyH.nil
        obtain ⟨qaY4, haY4⟩ := hga.rdi
        obtain ⟨qbY4, hbY4⟩ := hgb.rdi
        rw [if_pos (by rfl)]
        go_wp2_with fail
        refine (same_i _ _ qaY4 qbY4 _ _ haY4 hbY4).mono ?_
        rintro e Y4 ⟨rfl, bY4⟩
        have hHn : Hid (St w Y4 [(bb, v77, D), (ba, v69, D)] [((.slice a78 kz cc78), Tk), ((.slice a75 kz cc75), Tk), ((.slice oa k oc), O)]) := hHeld.out.below bY4
        clear hHeld bY4 haY4 hbY4
        go_wp2_with fail
        refine hK.out _ _ hHn (fun hHeld => ?_)
        clear hK K hHn
        try simp only [Act.put, List.setIfInBounds_toArray, List.set_cons_zero, List.set_cons_succ]
        refine take_at (i := 9) (v := .bool true) rfl rfl (by kernel_rfl) (by kernel_rfl) (by kernel_rfl) (fun _ _ _ h => h) (Or.inl ⟨by rfl, fun X _ => by go_simp⟩) hHeld ?_
        try simp only [Act.put, List.setIfInBounds_toArray, List.set_cons_zero, List.set_cons_succ]
        refine take_at (i := 10) (v := .bool true) rfl rfl (by kernel_rfl) (by kernel_rfl) (by kernel_rfl) (fun _ _ _ h => h) (Or.inl ⟨by rfl, fun X _ => by go_simp⟩) hHeld ?_
        try simp only [Act.put, List.setIfInBounds_toArray, List.set_cons_zero, List.set_cons_succ]
        refine take_at (i := 11) (v := .slice a75 kz cc75) rfl rfl (by kernel_rfl) (by kernel_rfl) (by kernel_rfl) (fun _ _ _ h => h) (Or.inl ⟨by rfl, fun X _ => by go_simp⟩) hHeld ?_
        try simp only [Act.put, List.setIfInBounds_toArray, List.set_cons_zero, List.set_cons_succ]
        refine take_at (i := 12) (v := .int .i64 ((kz : Nat) : Int)) rfl rfl (by kernel_rfl) (by kernel_rfl) (by kernel_rfl) (fun _ _ _ h => h) (Or.inl ⟨by rfl, fun X _ => by go_simp⟩) hHeld ?_
        try simp only [Act.put, List.setIfInBounds_toArray, List.set_cons_zero, List.set_cons_succ]
        refine take_at (i := 13) (v := .agg #[v69]) rfl rfl (by kernel_rfl) (by kernel_rfl) (by kernel_rfl) (fun _ _ _ h => h) (Or.inl ⟨by rfl, fun X hX => by have c0 := (hX.out.q (ba, v69, D) (by simp)).2.1.c; go_simp⟩) hHeld ?_
        try simp only [Act.put, List.setIfInBounds_toArray, List.set_cons_zero, List.set_cons_succ]
        refine take_at (i := 16) (v := .slice oa k oc) rfl rfl (by kernel_rfl) (by kernel_rfl) (by kernel_rfl) (fun _ _ _ h => h) (Or.inl ⟨by rfl, fun X _ => by go_simp⟩) hHeld ?_
        try simp only [Act.put, List.setIfInBounds_toArray, List.set_cons_zero, List.set_cons_succ]
        refine take_at (i := 17) (v := .int .i64 ((k : Nat) : Int)) rfl rfl (by kernel_rfl) (by kernel_rfl) (by kernel_rfl) (fun _ _ _ h => h) (Or.inl ⟨by rfl, fun X _ => by go_simp⟩) hHeld ?_
        try simp only [Act.put, List.setIfInBounds_toArray, List.set_cons_zero, List.set_cons_succ]
        refine wpAnyH_ready (rs := [14]) (by kernel_rfl) (by simp) ?_
        refine AllReadyH.cons rfl (fun K hK => ?_) AllReadyH.nil
        rw [if_pos (by rfl)]
        go_wp2_with fail
        refine (waiting_is v69 D _ (hHeld.out.q (ba, v69, D) (by simp)).2.2).mono ?_
        rintro e Y5 ⟨rfl, bY5⟩
        rw [hd.out]
        have hHn : Hid (St w Y5 [(bb, v77, D), (ba, v69, D)] [((.slice a78 kz cc78), Tk), ((.slice a75 kz cc75), Tk), ((.slice oa k oc), O)]) := hHeld.out.below bY5
        clear hHeld bY5
        go_wp2_with fail
        refine hK.out _ _ hHn (fun hHeld => ?_)
        clear hK K hHn
        try simp only [Act.put, List.setIfInBounds_toArray, List.set_cons_zero, List.set_cons_succ]
        refine take_at (i := 15) (v := .int .i64 ((k : Nat) : Int)) rfl rfl (by kernel_rfl) (by kernel_rfl) (by kernel_rfl) (fun _ _ _ h => h) (Or.inl ⟨by rfl, fun X _ => by have h0 := hKd.out; have h1 : IntKind.i64.wrap (((kz : Nat) : Int) + ((d : Nat) : Int)) = ((k : Nat) : Int) := (by rw [IntKind.wrap_i64]; omega); go_simp⟩) hHeld ?_
        try simp only [Act.put, List.setIfInBounds_toArray, List.set_cons_zero, List.set_cons_succ]
        refine take_at (i := 18) (v := .bool true) rfl rfl (by kernel_rfl) (by kernel_rfl) (by kernel_rfl) (fun _ _ _ h => h) (Or.inl ⟨by rfl, fun X _ => by go_simp⟩) hHeld ?_
        try simp only [Act.put, List.setIfInBounds_toArray, List.set_cons_zero, List.set_cons_succ]
        refine take_at (i := 19) (v := .bool true) rfl rfl (by kernel_rfl) (by kernel_rfl) (by kernel_rfl) (fun _ _ _ h => h) (Or.inl ⟨by rfl, fun X _ => by go_simp⟩) hHeld ?_
        try simp only [Act.put, List.setIfInBounds_toArray, List.set_cons_zero, List.set_cons_succ]
        refine take_at (i := 20) (v := .bool true) rfl rfl (by kernel_rfl) (by kernel_rfl) (by kernel_rfl) (fun _ _ _ h => h) (Or.inl ⟨by rfl, fun X _ => by go_simp⟩) hHeld ?_
        try simp only [Act.put, List.setIfInBounds_toArray, List.set_cons_zero, List.set_cons_succ]
        refine wpAnyH_ready (rs := [21]) (by kernel_rfl) (by simp) ?_
        refine AllReadyH.cons rfl (fun K hK => ?_) AllReadyH.nil
        rw [if_pos (by rfl)]
        go_wp2_with fail
        refine (pop_none (-1) _ hHeld.out.swapq (by have := hd.out; omega) (by decide)).mono ?_
        rintro e Y6 ⟨pa, pc, rfl, hpY6⟩
        have hHn : Hid (St w Y6 [(bb, v77, D), (ba, v69, D)] [((.slice a78 kz cc78), Tk), ((.slice a75 kz cc75), Tk), ((.slice oa k oc), O)]) := hpY6.swapq
        clear hHeld hpY6
        go_wp2_with fail
        refine hK.out _ _ hHn (fun hHeld => ?_)
        clear hK K hHn
        try simp only [Act.put, List.setIfInBounds_toArray, List.set_cons_zero, List.set_cons_succ]
        refine take_at (i := 22) (v := .int .i64 0) rfl rfl (by kernel_rfl) (by kernel_rfl) (by kernel_rfl) (fun _ _ _ h => h) (Or.inl ⟨by rfl, fun X _ => by go_simp⟩) hHeld ?_
        try simp only [Act.put, List.setIfInBounds_toArray, List.set_cons_zero, List.set_cons_succ]
        refine take_at (i := 23) (v := .bool true) rfl rfl (by kernel_rfl) (by kernel_rfl) (by kernel_rfl) (fun _ _ _ h => h) (Or.inl ⟨by rfl, fun X _ => by go_simp⟩) hHeld ?_
        try simp only [Act.put, List.setIfInBounds_toArray, List.set_cons_zero, List.set_cons_succ]
        refine take_at (i := 24) (v := .bool true) rfl rfl (by kernel_rfl) (by kernel_rfl) (by kernel_rfl) (fun _ _ _ h => h) (Or.inl ⟨by rfl, fun X _ => by go_simp⟩) hHeld ?_
        try simp only [Act.put, List.setIfInBounds_toArray, List.set_cons_zero, List.set_cons_succ]
        refine take_at (i := 25) (v := .bool true) rfl rfl (by kernel_rfl) (by kernel_rfl) (by kernel_rfl) (fun _ _ _ h => h) (Or.inl ⟨by rfl, fun X _ => by go_simp⟩) hHeld ?_
        try simp only [Act.put, List.setIfInBounds_toArray, List.set_cons_zero, List.set_cons_succ]
        refine take_at (i := 26) (v := .agg #[v69]) rfl rfl (by kernel_rfl) (by kernel_rfl) (by kernel_rfl) (fun _ _ _ h => h) (Or.inl ⟨by rfl, fun X hX => by have c0 := (hX.out.q (ba, v69, D) (by simp)).2.1.c; go_simp⟩) hHeld ?_
        try simp only [Act.put, List.setIfInBounds_toArray, List.set_cons_zero, List.set_cons_succ]
        refine wpAnyH_ready (rs := [27]) (by kernel_rfl) (by simp) ?_
        refine AllReadyH.cons rfl (fun K hK => ?_) AllReadyH.nil
        rw [if_pos (by rfl)]
        go_wp2_with fail
        refine (waiting_is v69 D _ (hHeld.out.q (ba, v69, D) (by simp)).2.2).mono ?_
        rintro e Y7 ⟨rfl, bY7⟩
        rw [hd.out]
        have hHn : Hid (St w Y7 [(bb, v77, D), (ba, v69, D)] [((.slice a78 kz cc78), Tk), ((.slice a75 kz cc75), Tk), ((.slice oa k oc), O)]) := hHeld.out.below bY7
        clear hHeld bY7
        go_wp2_with fail
        refine hK.out _ _ hHn (fun hHeld => ?_)
        clear hK K hHn
        try simp only [Act.put, List.setIfInBounds_toArray, List.set_cons_zero, List.set_cons_succ]
        refine wpAnyH_ready (rs := [28]) (by kernel_rfl) (by simp) ?_
        refine AllReadyH.cons rfl (fun K hK => ?_) AllReadyH.nil
        rw [if_pos (by rfl)]
        go_wp2_with fail
        refine (push_none (((d : Nat) : Int)) _ hHeld.out.swapq (by have := hd.out; omega) true (.inr ⟨by rw [hd.out]; omega, rfl⟩)).mono ?_
        rintro e Y8 ⟨rfl, hpY8⟩
        have hHn : Hid (St w Y8 [(bb, v77, D), (ba, v69, D)] [((.slice a78 kz cc78), Tk), ((.slice a75 kz cc75), Tk), ((.slice oa k oc), O)]) := hpY8.swapq
        clear hHeld hpY8
        go_wp2_with fail
        refine hK.out _ _ hHn (fun hHeld => ?_)
        clear hK K hHn
        try simp only [Act.put, List.setIfInBounds_toArray, List.set_cons_zero, List.set_cons_succ]
        refine take_at (i := 29) (v := .bool true) rfl rfl (by kernel_rfl) (by kernel_rfl) (by kernel_rfl) (fun _ _ _ h => h) (Or.inl ⟨by rfl, fun X _ => by go_simp⟩) hHeld ?_
        try simp only [Act.put, List.setIfInBounds_toArray, List.set_cons_zero, List.set_cons_succ]
        refine take_at (i := 30) (v := .bool true) rfl rfl (by kernel_rfl) (by kernel_rfl) (by kernel_rfl) (fun _ _ _ h => h) (Or.inl ⟨by rfl, fun X _ => by go_simp⟩) hHeld ?_
        try simp only [Act.put, List.setIfInBounds_toArray, List.set_cons_zero, List.set_cons_succ]
        refine take_at (i := 31) (v := .agg #[v69]) rfl rfl (by kernel_rfl) (by kernel_rfl) (by kernel_rfl) (fun _ _ _ h => h) (Or.inl ⟨by rfl, fun X hX => by have c0 := (hX.out.q (ba, v69, D) (by simp)).2.1.c; go_simp⟩) hHeld ?_
        try simp only [Act.put, List.setIfInBounds_toArray, List.set_cons_zero, List.set_cons_succ]
        refine wpAnyH_ready (rs := [32]) (by kernel_rfl) (by simp) ?_
        refine AllReadyH.cons rfl (fun K hK => ?_) AllReadyH.nil
        rw [if_pos (by rfl)]
        go_wp2_with fail
        refine (waiting_is v69 D _ (hHeld.out.q (ba, v69, D) (by simp)).2.2).mono ?_
        rintro e Y9 ⟨rfl, bY9⟩
        rw [hd.out]
        have hHn : Hid (St w Y9 [(bb, v77, D), (ba, v69, D)] [((.slice a78 kz cc78), Tk), ((.slice a75 kz cc75), Tk), ((.slice oa k oc), O)]) := hHeld.out.below bY9
        clear hHeld bY9
        go_wp2_with fail
        refine hK.out _ _ hHn (fun hHeld => ?_)
        clear hK K hHn
        try simp only [Act.put, List.setIfInBounds_toArray, List.set_cons_zero, List.set_cons_succ]
        refine take_at (i := 33) (v := .bool true) rfl rfl (by kernel_rfl) (by kernel_rfl) (by kernel_rfl) (fun _ _ _ h => h) (Or.inl ⟨by rfl, fun X _ => by have h0 := hd0.out; go_simp⟩) hHeld ?_
        try simp only [Act.put, List.setIfInBounds_toArray, List.set_cons_zero, List.set_cons_succ]
        refine take_at (i := 34) (v := .bool true) rfl rfl (by kernel_rfl) (by kernel_rfl) (by kernel_rfl) (fun _ _ _ h => h) (Or.inl ⟨by rfl, fun X _ => by go_simp⟩) hHeld ?_
        try simp only [Act.put, List.setIfInBounds_toArray, List.set_cons_zero, List.set_cons_succ]
        refine take_at (i := 35) (v := undef) rfl rfl (by kernel_rfl) (by kernel_rfl) (by kernel_rfl) (fun _ _ _ h => h) (Or.inr ⟨by rfl, rfl⟩) hHeld ?_
        try simp only [Act.put, List.setIfInBounds_toArray, List.set_cons_zero, List.set_cons_succ]
        refine take_at (i := 36) (v := undef) rfl rfl (by kernel_rfl) (by kernel_rfl) (by kernel_rfl) (fun _ _ _ h => h) (Or.inr ⟨by rfl, rfl⟩) hHeld ?_
        try simp only [Act.put, List.setIfInBounds_toArray, List.set_cons_zero, List.set_cons_succ]
        refine take_at (i := 37) (v := undef) rfl rfl (by kernel_rfl) (by kernel_rfl) (by kernel_rfl) (fun _ _ _ h => h) (Or.inr ⟨by rfl, rfl⟩) hHeld ?_
        try simp only [Act.put, List.setIfInBounds_toArray, List.set_cons_zero, List.set_cons_succ]
        refine take_at (i := 38) (v := undef) rfl rfl (by kernel_rfl) (by kernel_rfl) (by kernel_rfl) (fun _ _ _ h => h) (Or.inr ⟨by rfl, rfl⟩) hHeld ?_
        try simp only [Act.put, List.setIfInBounds_toArray, List.set_cons_zero, List.set_cons_succ]
        refine take_at (i := 39) (v := undef) rfl rfl (by kernel_rfl) (by kernel_rfl) (by kernel_rfl) (fun _ _ _ h => h) (Or.inr ⟨by rfl, rfl⟩) hHeld ?_
        try simp only [Act.put, List.setIfInBounds_toArray, List.set_cons_zero, List.set_cons_succ]
        refine take_at (i := 40) (v := .bool true) rfl rfl (by kernel_rfl) (by kernel_rfl) (by kernel_rfl) (fun _ _ _ h => h) (Or.inl ⟨by rfl, fun X _ => by go_simp⟩) hHeld ?_
        try simp only [Act.put, List.setIfInBounds_toArray, List.set_cons_zero, List.set_cons_succ]
        refine take_at (i := 41) (v := .bool true) rfl rfl (by kernel_rfl) (by kernel_rfl) (by kernel_rfl) (fun _ _ _ h => h) (Or.inl ⟨by rfl, fun X _ => by go_simp⟩) hHeld ?_
        try simp only [Act.put, List.setIfInBounds_toArray, List.set_cons_zero, List.set_cons_succ]
        refine take_at (i := 42) (v := .bool true) rfl rfl (by kernel_rfl) (by kernel_rfl) (by kernel_rfl) (fun _ _ _ h => h) (Or.inl ⟨by rfl, fun X _ => by go_simp⟩) hHeld ?_
        try simp only [Act.put, List.setIfInBounds_toArray, List.set_cons_zero, List.set_cons_succ]
        refine wpAnyH_ready (rs := [43]) (by kernel_rfl) (by simp) ?_
        refine AllReadyH.cons rfl (fun K hK => ?_) AllReadyH.nil
        rw [if_pos (by rfl)]
        go_wp2_with fail
        refine (runs_is _).mono ?_
        rintro e Y10 ⟨rfl, bY10⟩
        have hHn : Hid (St w Y10 [(bb, v77, D), (ba, v69, D)] [((.slice a78 kz cc78), Tk), ((.slice a75 kz cc75), Tk), ((.slice oa k oc), O)]) := hHeld.out.below bY10
        clear hHeld bY10
        go_wp2_with fail
        refine hK.out _ _ hHn (fun hHeld => ?_)
        clear hK K hHn
        try simp only [Act.put, List.setIfInBounds_toArray, List.set_cons_zero, List.set_cons_succ]
        refine take_at (i := 44) (v := .bool true) rfl rfl (by kernel_rfl) (by kernel_rfl) (by kernel_rfl) (fun _ _ _ h => h) (Or.inl ⟨by rfl, fun X _ => by go_simp⟩) hHeld ?_
        try simp only [Act.put, List.setIfInBounds_toArray, List.set_cons_zero, List.set_cons_succ]
        refine take_at (i := 45) (v := .bool true) rfl rfl (by kernel_rfl) (by kernel_rfl) (by kernel_rfl) (fun _ _ _ h => h) (Or.inl ⟨by rfl, fun X _ => by go_simp⟩) hHeld ?_
        try simp only [Act.put, List.setIfInBounds_toArray, List.set_cons_zero, List.set_cons_succ]
        refine wpAnyH_done (by kernel_rfl) ?_ _
        go_wp2_with fail
        go_ret
        exact ⟨rfl, hHeld.out.b⟩
      · have hd0 : Hid (0 < d) := hd0'
        clear hd0'
        refine take_at (i := 0) (v := .slice a75 kz cc75) rfl rfl (by kernel_rfl) (by kernel_rfl) (by kernel_rfl) (fun _ _ _ h => h) (Or.inl ⟨by rfl, fun X _ => by go_simp⟩) hHeld ?_
        try simp only [Act.put, List.setIfInBounds_toArray, List.set_cons_zero, List.set_cons_succ]
        refine take_at (i := 1) (v := .slice a78 kz cc78) rfl rfl (by kernel_rfl) (by kernel_rfl) (by kernel_rfl) (fun _ _ _ h => h) (Or.inl ⟨by rfl, fun X _ => by go_simp⟩) hHeld ?_
        try simp only [Act.put, List.setIfInBounds_toArray, List.set_cons_zero, List.set_cons_succ]
        refine wpAnyH_ready (rs := [2]) (by kernel_rfl) (by simp) ?_
        refine AllReadyH.cons rfl (fun K hK => ?_) AllReadyH.nil
        obtain ⟨qaY1, haY1⟩ := (hHeld.out.l ((.slice a75 kz cc75), Tk) (by simp)).rdi
        obtain ⟨qbY1, hbY1⟩ := (hHeld.out.l ((.slice a78 kz cc78), Tk) (by simp)).rdi
        rw [if_pos (by rfl)]
        go_wp2_with fail
        refine (same_i _ _ qaY1 qbY1 _ _ haY1 hbY1).mono ?_
        rintro e Y1 ⟨rfl, bY1⟩
        have hHn : Hid (St w Y1 [(bb, v77, D), (ba, v69, D)] [((.slice a78 kz cc78), Tk), ((.slice a75 kz cc75), Tk), ((.slice oa k oc), O)]) := hHeld.out.below bY1
        clear hHeld bY1 haY1 hbY1
        go_wp2_with fail
        refine hK.out _ _ hHn (fun hHeld => ?_)
        clear hK K hHn
        try simp only [Act.put, List.setIfInBounds_toArray, List.set_cons_zero, List.set_cons_succ]
        refine take_at (i := 3) (v := .bool true) rfl rfl (by kernel_rfl) (by kernel_rfl) (by kernel_rfl) (fun _ _ _ h => h) (Or.inl ⟨by rfl, fun X _ => by go_simp⟩) hHeld ?_
        try simp only [Act.put, List.setIfInBounds_toArray, List.set_cons_zero, List.set_cons_succ]
        refine take_at (i := 4) (v := .agg #[v69]) rfl rfl (by kernel_rfl) (by kernel_rfl) (by kernel_rfl) (fun _ _ _ h => h) (Or.inl ⟨by rfl, fun X hX => by have c0 := (hX.out.q (ba, v69, D) (by simp)).2.1.c; go_simp⟩) hHeld ?_
        try simp only [Act.put, List.setIfInBounds_toArray, List.set_cons_zero, List.set_cons_succ]
        refine take_at (i := 6) (v := .agg #[v77]) rfl rfl (by kernel_rfl) (by kernel_rfl) (by kernel_rfl) (fun _ _ _ h => h) (Or.inl ⟨by rfl, fun X hX => by have c0 := (hX.out.q (bb, v77, D) (by simp)).2.1.c; go_simp⟩) hHeld ?_
        try simp only [Act.put, List.setIfInBounds_toArray, List.set_cons_zero, List.set_cons_succ]
        refine wpAnyH_ready (rs := [5]) (by kernel_rfl) (by simp) ?_
        refine AllReadyH.cons rfl (fun K hK => ?_) AllReadyH.nil
        rw [if_pos (by rfl)]
        go_wp2_with fail
        refine (all_is v69 D _ (hHeld.out.q (ba, v69, D) (by simp)).2.2 (by have := hd.out; omega)).mono ?_
        rintro e Y2 ⟨ga, rfl, hga, bY2, _⟩
        have hHn : Hid (St w Y2 [(bb, v77, D), (ba, v69, D)] [((.slice a78 kz cc78), Tk), ((.slice a75 kz cc75), Tk), ((.slice oa k oc), O)]) := hHeld.out.below bY2
        clear hHeld bY2
        go_wp2_with fail
        refine hK.out _ _ hHn (fun hHeld => ?_)
        clear hK K hHn
        try simp only [Act.put, List.setIfInBounds_toArray, List.set_cons_zero, List.set_cons_succ]
        refine wpAnyH_ready (rs := [7]) (by kernel_rfl) (by simp) ?_
        refine AllReadyH.cons rfl (fun K hK => ?_) AllReadyH.nil
        rw [if_pos (by rfl)]
        go_wp2_with fail
        refine (all_is v77 D _ (hHeld.out.q (bb, v77, D) (by simp)).2.2 (by have := hd.out; omega)).mono ?_
        rintro e Y3 ⟨gb, rfl, hgb, bY3, _⟩
        have hHn : Hid (St w Y3 [(bb, v77, D), (ba, v69, D)] [((.slice a78 kz cc78), Tk), ((.slice a75 kz cc75), Tk), ((.slice oa k oc), O)]) := hHeld.out.below bY3
        have hga := hga.below bY3
        clear hHeld bY3
        go_wp2_with fail
        refine hK.out _ _ hHn (fun hHeld => ?_)
        clear hK K hHn
        try simp only [Act.put, List.setIfInBounds_toArray, List.set_cons_zero, List.set_cons_succ]
        refine wpAnyH_ready (rs := [8]) (by kernel_rfl) (by simp) ?_
        refine AllReadyH.cons rfl (fun K hK => ?_) AllReadyH.nil
        obtain ⟨qaY4, haY4⟩ := hga.rdi
        obtain ⟨qbY4, hbY4⟩ := hgb.rdi
        rw [if_pos (by rfl)]
        go_wp2_with fail
        refine (same_i _ _ qaY4 qbY4 _ _ haY4 hbY4).mono ?_
        rintro e Y4 ⟨rfl, bY4⟩
        have hHn : Hid (St w Y4 [(bb, v77, D), (ba, v69, D)] [((.slice a78 kz cc78), Tk), ((.slice a75 kz cc75), Tk), ((.slice oa k oc), O)]) := hHeld.out.below bY4
        clear hHeld bY4 haY4 hbY4
        go_wp2_with fail
        refine hK.out _ _ hHn (fun hHeld => ?_)
        clear hK K hHn
        try simp only [Act.put, List.setIfInBounds_toArray, List.set_cons_zero, List.set_cons_succ]
        refine take_at (i := 9) (v := .bool true) rfl rfl (by kernel_rfl) (by kernel_rfl) (by kernel_rfl) (fun _ _ _ h => h) (Or.inl ⟨by rfl, fun X _ => by go_simp⟩) hHeld ?_
        try simp only [Act.put, List.setIfInBounds_toArray, List.set_cons_zero, List.set_cons_succ]
        refine take_at (i := 10) (v := .bool true) rfl rfl (by kernel_rfl) (by kernel_rfl) (by kernel_rfl) (fun _ _ _ h => h) (Or.inl ⟨by rfl, fun X _ => by go_simp⟩) hHeld ?_
        try simp only [Act.put, List.setIfInBounds_toArray, List.set_cons_zero, List.set_cons_succ]
        refine take_at (i := 11) (v := .slice a75 kz cc75) rfl rfl (by kernel_rfl) (by kernel_rfl) (by kernel_rfl) (fun _ _ _ h => h) (Or.inl ⟨by rfl, fun X _ => by go_simp⟩) hHeld ?_
        try simp only [Act.put, List.setIfInBounds_toArray, List.set_cons_zero, List.set_cons_succ]
        refine take_at (i := 12) (v := .int .i64 ((kz : Nat) : Int)) rfl rfl (by kernel_rfl) (by kernel_rfl) (by kernel_rfl) (fun _ _ _ h => h) (Or.inl ⟨by rfl, fun X _ => by go_simp⟩) hHeld ?_
        try simp only [Act.put, List.setIfInBounds_toArray, List.set_cons_zero, List.set_cons_succ]
        refine take_at (i := 13) (v := .agg #[v69]) rfl rfl (by kernel_rfl) (by kernel_rfl) (by kernel_rfl) (fun _ _ _ h => h) (Or.inl ⟨by rfl, fun X hX => by have c0 := (hX.out.q (ba, v69, D) (by simp)).2.1.c; go_simp⟩) hHeld ?_
        try simp only [Act.put, List.setIfInBounds_toArray, List.set_cons_zero, List.set_cons_succ]
        refine take_at (i := 16) (v := .slice oa k oc) rfl rfl (by kernel_rfl) (by kernel_rfl) (by kernel_rfl) (fun _ _ _ h => h) (Or.inl ⟨by rfl, fun X _ => by go_simp⟩) hHeld ?_
        try simp only [Act.put, List.setIfInBounds_toArray, List.set_cons_zero, List.set_cons_succ]
        refine take_at (i := 17) (v := .int .i64 ((k : Nat) : Int)) rfl rfl (by kernel_rfl) (by kernel_rfl) (by kernel_rfl) (fun _ _ _ h => h) (Or.inl ⟨by rfl, fun X _ => by go_simp⟩) hHeld ?_
        try simp only [Act.put, List.setIfInBounds_toArray, List.set_cons_zero, List.set_cons_succ]
        refine wpAnyH_ready (rs := [14]) (by kernel_rfl) (by simp) ?_
        refine AllReadyH.cons rfl (fun K hK => ?_) AllReadyH.nil
        rw [if_pos (by rfl)]
        go_wp2_with fail
        refine (waiting_is v69 D _ (hHeld.out.q (ba, v69, D) (by simp)).2.2).mono ?_
        rintro e Y5 ⟨rfl, bY5⟩
        rw [hd.out]
        have hHn : Hid (St w Y5 [(bb, v77, D), (ba, v69, D)] [((.slice a78 kz cc78), Tk), ((.slice a75 kz cc75), Tk), ((.slice oa k oc), O)]) := hHeld.out.below bY5
        clear hHeld bY5
        go_wp2_with fail
        refine hK.out _ _ hHn (fun hHeld => ?_)
        clear hK K hHn
        try simp only [Act.put, List.setIfInBounds_toArray, List.set_cons_zero, List.set_cons_succ]
        refine take_at (i := 15) (v := .int .i64 ((k : Nat) : Int)) rfl rfl (by kernel_rfl) (by kernel_rfl) (by kernel_rfl) (fun _ _ _ h => h) (Or.inl ⟨by rfl, fun X _ => by have h0 := hKd.out; have h1 : IntKind.i64.wrap (((kz : Nat) : Int) + ((d : Nat) : Int)) = ((k : Nat) : Int) := (by rw [IntKind.wrap_i64]; omega); go_simp⟩) hHeld ?_
        try simp only [Act.put, List.setIfInBounds_toArray, List.set_cons_zero, List.set_cons_succ]
        refine take_at (i := 18) (v := .bool true) rfl rfl (by kernel_rfl) (by kernel_rfl) (by kernel_rfl) (fun _ _ _ h => h) (Or.inl ⟨by rfl, fun X _ => by go_simp⟩) hHeld ?_
        try simp only [Act.put, List.setIfInBounds_toArray, List.set_cons_zero, List.set_cons_succ]
        refine take_at (i := 19) (v := .bool true) rfl rfl (by kernel_rfl) (by kernel_rfl) (by kernel_rfl) (fun _ _ _ h => h) (Or.inl ⟨by rfl, fun X _ => by go_simp⟩) hHeld ?_
        try simp only [Act.put, List.setIfInBounds_toArray, List.set_cons_zero, List.set_cons_succ]
        refine take_at (i := 20) (v := .bool true) rfl rfl (by kernel_rfl) (by kernel_rfl) (by kernel_rfl) (fun _ _ _ h => h) (Or.inl ⟨by rfl, fun X _ => by go_simp⟩) hHeld ?_
        try simp only [Act.put, List.setIfInBounds_toArray, List.set_cons_zero, List.set_cons_succ]
        refine wpAnyH_ready (rs := [21]) (by kernel_rfl) (by simp) ?_
        refine AllReadyH.cons rfl (fun K hK => ?_) AllReadyH.nil
        rw [if_pos (by rfl)]
        go_wp2_with fail
        refine (pop_none (-1) _ hHeld.out.swapq (by have := hd.out; omega) (by decide)).mono ?_
        rintro e Y6 ⟨pa, pc, rfl, hpY6⟩
        have hHn : Hid (St w Y6 [(bb, v77, D), (ba, v69, D)] [((.slice a78 kz cc78), Tk), ((.slice a75 kz cc75), Tk), ((.slice oa k oc), O)]) := hpY6.swapq
        clear hHeld hpY6
        go_wp2_with fail
        refine hK.out _ _ hHn (fun hHeld => ?_)
        clear hK K hHn
        try simp only [Act.put, List.setIfInBounds_toArray, List.set_cons_zero, List.set_cons_succ]
        refine take_at (i := 22) (v := .int .i64 0) rfl rfl (by kernel_rfl) (by kernel_rfl) (by kernel_rfl) (fun _ _ _ h => h) (Or.inl ⟨by rfl, fun X _ => by go_simp⟩) hHeld ?_
        try simp only [Act.put, List.setIfInBounds_toArray, List.set_cons_zero, List.set_cons_succ]
        refine take_at (i := 23) (v := .bool true) rfl rfl (by kernel_rfl) (by kernel_rfl) (by kernel_rfl) (fun _ _ _ h => h) (Or.inl ⟨by rfl, fun X _ => by go_simp⟩) hHeld ?_
        try simp only [Act.put, List.setIfInBounds_toArray, List.set_cons_zero, List.set_cons_succ]
        refine take_at (i := 24) (v := .bool true) rfl rfl (by kernel_rfl) (by kernel_rfl) (by kernel_rfl) (fun _ _ _ h => h) (Or.inl ⟨by rfl, fun X _ => by go_simp⟩) hHeld ?_
        try simp only [Act.put, List.setIfInBounds_toArray, List.set_cons_zero, List.set_cons_succ]
        refine take_at (i := 25) (v := .bool true) rfl rfl (by kernel_rfl) (by kernel_rfl) (by kernel_rfl) (fun _ _ _ h => h) (Or.inl ⟨by rfl, fun X _ => by go_simp⟩) hHeld ?_
        try simp only [Act.put, List.setIfInBounds_toArray, List.set_cons_zero, List.set_cons_succ]
        refine take_at (i := 26) (v := .agg #[v69]) rfl rfl (by kernel_rfl) (by kernel_rfl) (by kernel_rfl) (fun _ _ _ h => h) (Or.inl ⟨by rfl, fun X hX => by have c0 := (hX.out.q (ba, v69, D) (by simp)).2.1.c; go_simp⟩) hHeld ?_
        try simp only [Act.put, List.setIfInBounds_toArray, List.set_cons_zero, List.set_cons_succ]
        refine wpAnyH_ready (rs := [27]) (by kernel_rfl) (by simp) ?_
        refine AllReadyH.cons rfl (fun K hK => ?_) AllReadyH.nil
        rw [if_pos (by rfl)]
        go_wp2_with fail
        refine (waiting_is v69 D _ (hHeld.out.q (ba, v69, D) (by simp)).2.2).mono ?_
        rintro e Y7 ⟨rfl, bY7⟩
        rw [hd.out]
        have hHn : Hid (St w Y7 [(bb, v77, D), (ba, v69, D)] [((.slice a78 kz cc78), Tk), ((.slice a75 kz cc75), Tk), ((.slice oa k oc), O)]) := hHeld.out.below bY7
        clear hHeld bY7
        go_wp2_with fail
        refine hK.out _ _ hHn (fun hHeld => ?_)
        clear hK K hHn
        try simp only [Act.put, List.setIfInBounds_toArray, List.set_cons_zero, List.set_cons_succ]
        refine wpAnyH_ready (rs := [28]) (by kernel_rfl) (by simp) ?_
        refine AllReadyH.cons rfl (fun K hK => ?_) AllReadyH.nil
        rw [if_pos (by rfl)]
        go_wp2_with fail
        refine (push_none (((d : Nat) : Int)) _ hHeld.out.swapq (by have := hd.out; omega) true (.inr ⟨by rw [hd.out]; omega, rfl⟩)).mono ?_
        rintro e Y8 ⟨rfl, hpY8⟩
        have hHn : Hid (St w Y8 [(bb, v77, D), (ba, v69, D)] [((.slice a78 kz cc78), Tk), ((.slice a75 kz cc75), Tk), ((.slice oa k oc), O)]) := hpY8.swapq
        clear hHeld hpY8
        go_wp2_with fail
        refine hK.out _ _ hHn (fun hHeld => ?_)
        clear hK K hHn
        try simp only [Act.put, List.setIfInBounds_toArray, List.set_cons_zero, List.set_cons_succ]
        refine take_at (i := 29) (v := .bool true) rfl rfl (by kernel_rfl) (by kernel_rfl) (by kernel_rfl) (fun _ _ _ h => h) (Or.inl ⟨by rfl, fun X _ => by go_simp⟩) hHeld ?_
        try simp only [Act.put, List.setIfInBounds_toArray, List.set_cons_zero, List.set_cons_succ]
        refine take_at (i := 30) (v := .bool true) rfl rfl (by kernel_rfl) (by kernel_rfl) (by kernel_rfl) (fun _ _ _ h => h) (Or.inl ⟨by rfl, fun X _ => by go_simp⟩) hHeld ?_
        try simp only [Act.put, List.setIfInBounds_toArray, List.set_cons_zero, List.set_cons_succ]
        refine take_at (i := 31) (v := .agg #[v69]) rfl rfl (by kernel_rfl) (by kernel_rfl) (by kernel_rfl) (fun _ _ _ h => h) (Or.inl ⟨by rfl, fun X hX => by have c0 := (hX.out.q (ba, v69, D) (by simp)).2.1.c; go_simp⟩) hHeld ?_
        try simp only [Act.put, List.setIfInBounds_toArray, List.set_cons_zero, List.set_cons_succ]
        refine wpAnyH_ready (rs := [32]) (by kernel_rfl) (by simp) ?_
        refine AllReadyH.cons rfl (fun K hK => ?_) AllReadyH.nil
        rw [if_pos (by rfl)]
        go_wp2_with fail
        refine (waiting_is v69 D _ (hHeld.out.q (ba, v69, D) (by simp)).2.2).mono ?_
        rintro e Y9 ⟨rfl, bY9⟩
        rw [hd.out]
        have hHn : Hid (St w Y9 [(bb, v77, D), (ba, v69, D)] [((.slice a78 kz cc78), Tk), ((.slice a75 kz cc75), Tk), ((.slice oa k oc), O)]) := hHeld.out.below bY9
        clear hHeld bY9
        go_wp2_with fail
        refine hK.out _ _ hHn (fun hHeld => ?_)
        clear hK K hHn
        try simp only [Act.put, List.setIfInBounds_toArray, List.set_cons_zero, List.set_cons_succ]
        refine take_at (i := 33) (v := .bool false) rfl rfl (by kernel_rfl) (by kernel_rfl) (by kernel_rfl) (fun _ _ _ h => h) (Or.inl ⟨by rfl, fun X _ => by have h0 := hd0.out; go_simp; omega⟩) hHeld ?_
        try simp only [Act.put, List.setIfInBounds_toArray, List.set_cons_zero, List.set_cons_succ]
        refine take_at (i := 34) (v := .bool false) rfl rfl (by kernel_rfl) (by kernel_rfl) (by kernel_rfl) (fun _ _ _ h => h) (Or.inl ⟨by rfl, fun X _ => by go_simp⟩) hHeld ?_
        try simp only [Act.put, List.setIfInBounds_toArray, List.set_cons_zero, List.set_cons_succ]
        refine take_at (i := 35) (v := .agg #[v69]) rfl rfl (by kernel_rfl) (by kernel_rfl) (by kernel_rfl) (fun _ _ _ h => h) (Or.inl ⟨by rfl, fun X hX => by have c0 := (hX.out.q (ba, v69, D) (by simp)).2.1.c; go_simp⟩) hHeld ?_
        try simp only [Act.put, List.setIfInBounds_toArray, List.set_cons_zero, List.set_cons_succ]
        refine wpAnyH_ready (rs := [36]) (by kernel_rfl) (by simp) ?_
        refine AllReadyH.cons rfl (fun K hK => ?_) AllReadyH.nil
        rw [if_pos (by rfl)]
        go_wp2_with fail
        refine (waiting_is v69 D _ (hHeld.out.q (ba, v69, D) (by simp)).2.2).mono ?_
        rintro e Y10 ⟨rfl, bY10⟩
        rw [hd.out]
        have hHn : Hid (St w Y10 [(bb, v77, D), (ba, v69, D)] [((.slice a78 kz cc78), Tk), ((.slice a75 kz cc75), Tk), ((.slice oa k oc), O)]) := hHeld.out.below bY10
        clear hHeld bY10
        go_wp2_with fail
        refine hK.out _ _ hHn (fun hHeld => ?_)
        clear hK K hHn
        try simp only [Act.put, List.setIfInBounds_toArray, List.set_cons_zero, List.set_cons_succ]
        refine take_at (i := 37) (v := .int .i64 (((d : Nat) : Int) - 1)) rfl rfl (by kernel_rfl) (by kernel_rfl) (by kernel_rfl) (fun _ _ _ h => h) (Or.inl ⟨by rfl, fun X _ => by have h0 := hd0.out; go_simp; rw [IntKind.wrap_i64]; omega⟩) hHeld ?_
        try simp only [Act.put, List.setIfInBounds_toArray, List.set_cons_zero, List.set_cons_succ]
        refine wpAnyH_ready (rs := [38]) (by kernel_rfl) (by simp) ?_
        refine AllReadyH.cons rfl (fun K hK => ?_) AllReadyH.nil
        rw [if_pos (by rfl)]
        go_wp2_with fail
        refine (push_none (((d : Nat) : Int) - 1) _ hHeld.out.swapq (by have := hd.out; omega) false (.inl ⟨by rw [hd.out]; omega, rfl⟩)).mono ?_
        rintro e Y11 ⟨rfl, hpY11⟩
        have hHn : Hid (St w Y11 [(bb, v77, D), (ba, v69, D)] [((.slice a78 kz cc78), Tk), ((.slice a75 kz cc75), Tk), ((.slice oa k oc), O)]) := hpY11.swapq
        clear hHeld hpY11
        go_wp2_with fail
        refine hK.out _ _ hHn (fun hHeld => ?_)
        clear hK K hHn
        try simp only [Act.put, List.setIfInBounds_toArray, List.set_cons_zero, List.set_cons_succ]
        refine take_at (i := 39) (v := .bool true) rfl rfl (by kernel_rfl) (by kernel_rfl) (by kernel_rfl) (fun _ _ _ h => h) (Or.inl ⟨by rfl, fun X _ => by go_simp⟩) hHeld ?_
        try simp only [Act.put, List.setIfInBounds_toArray, List.set_cons_zero, List.set_cons_succ]
        refine take_at (i := 40) (v := .bool true) rfl rfl (by kernel_rfl) (by kernel_rfl) (by kernel_rfl) (fun _ _ _ h => h) (Or.inl ⟨by rfl, fun X _ => by go_simp⟩) hHeld ?_
        try simp only [Act.put, List.setIfInBounds_toArray, List.set_cons_zero, List.set_cons_succ]
        refine take_at (i := 41) (v := .bool true) rfl rfl (by kernel_rfl) (by kernel_rfl) (by kernel_rfl) (fun _ _ _ h => h) (Or.inl ⟨by rfl, fun X _ => by go_simp⟩) hHeld ?_
        try simp only [Act.put, List.setIfInBounds_toArray, List.set_cons_zero, List.set_cons_succ]
        refine take_at (i := 42) (v := .bool true) rfl rfl (by kernel_rfl) (by kernel_rfl) (by kernel_rfl) (fun _ _ _ h => h) (Or.inl ⟨by rfl, fun X _ => by go_simp⟩) hHeld ?_
        try simp only [Act.put, List.setIfInBounds_toArray, List.set_cons_zero, List.set_cons_succ]
        refine wpAnyH_ready (rs := [43]) (by kernel_rfl) (by simp) ?_
        refine AllReadyH.cons rfl (fun K hK => ?_) AllReadyH.nil
        rw [if_pos (by rfl)]
        go_wp2_with fail
        refine (runs_is _).mono ?_
        rintro e Y12 ⟨rfl, bY12⟩
        have hHn : Hid (St w Y12 [(bb, v77, D), (ba, v69, D)] [((.slice a78 kz cc78), Tk), ((.slice a75 kz cc75), Tk), ((.slice oa k oc), O)]) := hHeld.out.below bY12
        clear hHeld bY12
        go_wp2_with fail
        refine hK.out _ _ hHn (fun hHeld => ?_)
        clear hK K hHn
        try simp only [Act.put, List.setIfInBounds_toArray, List.set_cons_zero, List.set_cons_succ]
        refine take_at (i := 44) (v := .bool true) rfl rfl (by kernel_rfl) (by kernel_rfl) (by kernel_rfl) (fun _ _ _ h => h) (Or.inl ⟨by rfl, fun X _ => by go_simp⟩) hHeld ?_
        try simp only [Act.put, List.setIfInBounds_toArray, List.set_cons_zero, List.set_cons_succ]
        refine take_at (i := 45) (v := .bool true) rfl rfl (by kernel_rfl) (by kernel_rfl) (by kernel_rfl) (fun _ _ _ h => h) (Or.inl ⟨by rfl, fun X _ => by go_simp⟩) hHeld ?_
        try simp only [Act.put, List.setIfInBounds_toArray, List.set_cons_zero, List.set_cons_succ]
        refine wpAnyH_done (by kernel_rfl) ?_ _
        go_wp2_with fail
        go_ret
        exact ⟨rfl, hHeld.out.b⟩
end Go.Proofs.Ytmkdhgjnfnfliaa
