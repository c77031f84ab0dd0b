/- PanesClose, walked: of any sizes, any events, any marks it returns true, and nothing that was there is written. -/
import Derived.Test.YthnkhijabfnndaaOne
namespace Go.Proofs.Ythnkhijabfnndaa
open Go.RowKit M
set_option linter.unusedVariables false
set_option linter.unusedSimpArgs false
attribute [local go_sem ↓] Go.wp_at_zero Go.wp_at_succ

set_option maxHeartbeats 1000000 in
set_option maxRecDepth 100000 in
theorem panesClose_walk (size slide : Int) (a : Option Addr) (len cap : Nat) (z : List Ev) (ma mb : Int) (w : World) {p1 p2 p4 p5 : Prop} (_ : p1) (_ : p2) (hrow : IsRowE w a len cap z) (_ : p4) (_ : p5) :
    Calls Try.prog 6 #[.int .i64 size, .int .i64 slide, .slice a len cap, .int .i64 ma, .int .i64 mb] w fun e w' => e = .returned (.bool true) ∧ Below w.heap.size w w' := by
  obtain ⟨hlen, qb, es0, hes0, hlab0, hrd0⟩ := row_at hrow
  have hlab : Hid (∀ j, j < len → (eAt es0 j).l < 18446744073709551616) := hlab0
  have hrd : Hid (∀ j, j < len → ∃ off, a = some ⟨qb, off, none⟩ ∧ qb < w.heap.size ∧ EvAt w qb (off + j * 4) (eAt es0 j)) := hrd0
  clear hrow hlab0 hrd0 hes0
  go_enter Try.func6, Try.ntmps6
  go_wp2_with fail
  refine (within_any slide 1 20 _ (by omega) (by omega) (by omega)).mono ?_
  rintro e w1 ⟨⟨s, hs1, hs2, rfl⟩, he⟩; obtain rfl := he.symm; clear he
  go_wp2_with fail
  refine (within_any size s (6 * s) _ (by omega) (by omega) (by omega)).mono ?_
  rintro e w1 ⟨⟨n, hn1, hn2, rfl⟩, he⟩; obtain rfl := he.symm; clear he
  go_wp2_with fail
  refine (pnew_is n s 2 _).mono ?_
  rintro e w1 ⟨rfl, hP, hb⟩
  obtain ⟨B, hB⟩ : ∃ B, Hid (w.heap.size = B) := ⟨_, rfl⟩
  have hP1 : Hid (Pan w1 B B n s 2 []) := by rw [← hB.out]; exact hP
  have hb1 : Hid (Below B w w1) := by rw [← hB.out]; exact hb
  rw [hB.out]
  clear hP hb
  go_wp2_with fail
  refine (pnew_is n s 2 _).mono ?_
  rintro e w2 ⟨rfl, hP, hb⟩
  obtain ⟨b2, hb2⟩ : ∃ b, Hid (w1.heap.size = b) := ⟨_, rfl⟩
  have hBb : B < b2 := by rw [← hb2.out]; exact hP1.out.lt
  have hPp : Hid (Pan w2 B B n s 2 []) := hP1.out.below hb
  have hPq : Hid (Pan w2 b2 b2 n s 2 []) := by rw [← hb2.out]; exact hP
  have hbw : Hid (Below B w w2) := hb1.out.trans (hb.mono (by rw [hb2.out]; omega))
  rw [hb2.out]
  clear hP hb hP1 hb1 hb2
  go_upto_block 0 with fail
  go_cut [15] (fun i wx => ∃ (es : List Ev) (o1 o2 : Nat), es.length ≤ 15 ∧ Hid (Pan wx B o1 n s 2 (putL n s 2 [] es)) ∧ Hid (Pan wx b2 o2 n s 2 (putL n s 2 [] es)) ∧ o1 ≠ o2 ∧ o1 ≠ b2 ∧ o2 ≠ B ∧ B ≤ o1 ∧ B ≤ o2 ∧ Hid (Below B w wx))
  case first =>
    go_wp2_with fail
    go_loopw [15] (fun i wr => ∃ (es : List Ev) (o1 o2 : Nat), es.length ≤ 15 ∧ i = .int .i64 es.length ∧ Hid (Pan wr B o1 n s 2 (putL n s 2 [] es)) ∧ Hid (Pan wr b2 o2 n s 2 (putL n s 2 [] es)) ∧ o1 ≠ o2 ∧ o1 ≠ b2 ∧ o2 ≠ B ∧ B ≤ o1 ∧ B ≤ o2 ∧ Hid (Below B w wr)) (fun i _ => 15 - (intOf i).toNat)
    case atStart => exact ⟨[], B, b2, by simp, rfl, hPp, hPq, by omega, by omega, by omega, by omega, by omega, hbw⟩
    case round =>
      obtain ⟨es, o1, o2, hj, rfl, hP, hQ, d1, d2, d3, d4, d5, hbr⟩ := hrel
      clear hPp hPq hbw
      obtain ⟨j, hjj⟩ : ∃ j, Hid (es.length = j) := ⟨_, rfl⟩
      rw [hjj.out] at hj ⊢
      by_cases hl1 : j < len
      · by_cases hl2 : j < 15
        · obtain ⟨off, rfl, hqb, hev⟩ := hrd.out j hl1
          obtain ⟨e0, he0⟩ : ∃ e0, Hid (eAt es0 j = e0) := ⟨_, rfl⟩
          have hev' : Hid (EvAt w qb (off + j * 4) e0) := by
            have h := hev
            rw [he0.out] at h
            exact h
          clear hev he0
          rw [hB.out] at hqb
          have hBr : B ≤ wr.heap.size := by have := hP.out.lt; omega
          go_upto_region 9 with fail
          go_cut [16] (fun p wx => ∃ (q : Nat) (e : Ev), p = .pointer (some ⟨q, 0, none⟩) ∧ wr.heap.size ≤ q ∧ Hid (Evk wx q e) ∧ Hid (e.l = 1) ∧ Hid (Below wr.heap.size wr wx))
          case first =>
            have hnl : ¬ len ≤ j := by omega
            refine wp_region_held_drew (S := fun X => Below B w X ∧ Below wr.heap.size wr X) (by kernel_rfl) ⟨hbr.out.drew, (Below.refl _ _).drew⟩ (fun hHeld => ?_)
            generalize wr.drew = V at hHeld ⊢
            have hV := hHeld
            refine take_at (i := 0) (v := .slice (some ⟨qb, off, none⟩) len cap) rfl rfl (by kernel_rfl) (by kernel_rfl) (by kernel_rfl) (fun _ _ _ h => h) (Or.inl ⟨by rfl, fun X _ => by go_simp⟩) hHeld ?_
            try simp only [Act.put, List.setIfInBounds_toArray, List.set_cons_zero, List.set_cons_succ]
            refine take_at (i := 1) (v := .int .i64 (j : Int)) rfl rfl (by kernel_rfl) (by kernel_rfl) (by kernel_rfl) (fun _ _ _ h => h) (Or.inl ⟨by rfl, fun X _ => by go_simp⟩) hHeld ?_
            try simp only [Act.put, List.setIfInBounds_toArray, List.set_cons_zero, List.set_cons_succ]
            refine take_at (i := 2) (v := .pointer (some ⟨qb, off + j * 4, none⟩)) rfl rfl (by kernel_rfl) (by kernel_rfl) (by kernel_rfl) (fun _ _ _ h => h) (Or.inl ⟨by rfl, fun X _ => by go_simp⟩) hHeld ?_
            try simp only [Act.put, List.setIfInBounds_toArray, List.set_cons_zero, List.set_cons_succ]
            refine take_at (i := 3) (v := .pointer (some ⟨qb, off + j * 4, none⟩)) rfl rfl (by kernel_rfl) (by kernel_rfl) (by kernel_rfl) (fun _ _ _ h => h) (Or.inl ⟨by rfl, fun X _ => by go_simp⟩) hHeld ?_
            try simp only [Act.put, List.setIfInBounds_toArray, List.set_cons_zero, List.set_cons_succ]
            refine take_at (i := 4) (v := .int .i64 e0.t) rfl rfl (by kernel_rfl) (by kernel_rfl) (by kernel_rfl) (fun _ _ _ h => h) (Or.inl ⟨by rfl, fun X hX => by obtain ⟨c0, c1, c2, c3⟩ := hev'.out.keep (hX.1.block qb hqb); go_simp⟩) hHeld ?_
            try simp only [Act.put, List.setIfInBounds_toArray, List.set_cons_zero, List.set_cons_succ]
            refine take_at (i := 6) (v := .slice (some ⟨qb, off, none⟩) len cap) rfl rfl (by kernel_rfl) (by kernel_rfl) (by kernel_rfl) (fun _ _ _ h => h) (Or.inl ⟨by rfl, fun X _ => by go_simp⟩) hHeld ?_
            try simp only [Act.put, List.setIfInBounds_toArray, List.set_cons_zero, List.set_cons_succ]
            refine take_at (i := 7) (v := .int .i64 (j : Int)) rfl rfl (by kernel_rfl) (by kernel_rfl) (by kernel_rfl) (fun _ _ _ h => h) (Or.inl ⟨by rfl, fun X _ => by go_simp⟩) hHeld ?_
            try simp only [Act.put, List.setIfInBounds_toArray, List.set_cons_zero, List.set_cons_succ]
            refine take_at (i := 8) (v := .pointer (some ⟨qb, off + j * 4, none⟩)) rfl rfl (by kernel_rfl) (by kernel_rfl) (by kernel_rfl) (fun _ _ _ h => h) (Or.inl ⟨by rfl, fun X _ => by go_simp⟩) hHeld ?_
            try simp only [Act.put, List.setIfInBounds_toArray, List.set_cons_zero, List.set_cons_succ]
            refine take_at (i := 9) (v := .pointer (some ⟨qb, off + j * 4 + 1, none⟩)) rfl rfl (by kernel_rfl) (by kernel_rfl) (by kernel_rfl) (fun _ _ _ h => h) (Or.inl ⟨by rfl, fun X _ => by go_simp⟩) hHeld ?_
            try simp only [Act.put, List.setIfInBounds_toArray, List.set_cons_zero, List.set_cons_succ]
            refine take_at (i := 10) (v := .int .i64 e0.k) rfl rfl (by kernel_rfl) (by kernel_rfl) (by kernel_rfl) (fun _ _ _ h => h) (Or.inl ⟨by rfl, fun X hX => by obtain ⟨c0, c1, c2, c3⟩ := hev'.out.keep (hX.1.block qb hqb); go_simp⟩) hHeld ?_
            try simp only [Act.put, List.setIfInBounds_toArray, List.set_cons_zero, List.set_cons_succ]
            refine take_at (i := 12) (v := .slice (some ⟨qb, off, none⟩) len cap) rfl rfl (by kernel_rfl) (by kernel_rfl) (by kernel_rfl) (fun _ _ _ h => h) (Or.inl ⟨by rfl, fun X _ => by go_simp⟩) hHeld ?_
            try simp only [Act.put, List.setIfInBounds_toArray, List.set_cons_zero, List.set_cons_succ]
            refine take_at (i := 13) (v := .int .i64 (j : Int)) rfl rfl (by kernel_rfl) (by kernel_rfl) (by kernel_rfl) (fun _ _ _ h => h) (Or.inl ⟨by rfl, fun X _ => by go_simp⟩) hHeld ?_
            try simp only [Act.put, List.setIfInBounds_toArray, List.set_cons_zero, List.set_cons_succ]
            refine take_at (i := 14) (v := .pointer (some ⟨qb, off + j * 4, none⟩)) rfl rfl (by kernel_rfl) (by kernel_rfl) (by kernel_rfl) (fun _ _ _ h => h) (Or.inl ⟨by rfl, fun X _ => by go_simp⟩) hHeld ?_
            try simp only [Act.put, List.setIfInBounds_toArray, List.set_cons_zero, List.set_cons_succ]
            refine take_at (i := 15) (v := .pointer (some ⟨qb, off + j * 4 + 2, none⟩)) rfl rfl (by kernel_rfl) (by kernel_rfl) (by kernel_rfl) (fun _ _ _ h => h) (Or.inl ⟨by rfl, fun X _ => by go_simp⟩) hHeld ?_
            try simp only [Act.put, List.setIfInBounds_toArray, List.set_cons_zero, List.set_cons_succ]
            refine take_at (i := 16) (v := .int .i64 e0.v) rfl rfl (by kernel_rfl) (by kernel_rfl) (by kernel_rfl) (fun _ _ _ h => h) (Or.inl ⟨by rfl, fun X hX => by obtain ⟨c0, c1, c2, c3⟩ := hev'.out.keep (hX.1.block qb hqb); go_simp⟩) hHeld ?_
            try simp only [Act.put, List.setIfInBounds_toArray, List.set_cons_zero, List.set_cons_succ]
            refine wpAnyH_ready (rs := [5, 18]) (by kernel_rfl) (by simp) ?_
            refine AllReadyH.cons rfl (fun KK hK => ?_) (AllReadyH.cons rfl (fun KK hK => ?_) (AllReadyH.nil))
            · rw [if_pos (by rfl)]
              go_wp2_with fail
              refine (within_any _ 0 200 _ (by omega) (by omega) (by omega)).mono ?_
              rintro e V' ⟨⟨t, _, _, rfl⟩, he⟩; obtain rfl := he.symm; clear he
              go_wp2_with fail
              refine hK.out _ _ (hHeld) (fun hHeld => ?_)
              clear hK KK
              try simp only [Act.put, List.setIfInBounds_toArray, List.set_cons_zero, List.set_cons_succ]
              refine wpAnyH_ready (rs := [11, 18]) (by kernel_rfl) (by simp) ?_
              refine AllReadyH.cons rfl (fun KK hK => ?_) (AllReadyH.cons rfl (fun KK hK => ?_) (AllReadyH.nil))
              · rw [if_pos (by rfl)]
                go_wp2_with fail
                refine (within_any _ 0 3 _ (by omega) (by omega) (by omega)).mono ?_
                rintro e V' ⟨⟨k, _, _, rfl⟩, he⟩; obtain rfl := he.symm; clear he
                go_wp2_with fail
                refine hK.out _ _ (hHeld) (fun hHeld => ?_)
                clear hK KK
                try simp only [Act.put, List.setIfInBounds_toArray, List.set_cons_zero, List.set_cons_succ]
                refine take_at (i := 17) (v := .agg #[.int .i64 t, .int .i64 k, .int .i64 e0.v, .int .u64 1]) rfl rfl (by kernel_rfl) (by kernel_rfl) (by kernel_rfl) (fun _ _ _ h => h) (Or.inl ⟨by rfl, fun X _ => by go_simp⟩) hHeld ?_
                try simp only [Act.put, List.setIfInBounds_toArray, List.set_cons_zero, List.set_cons_succ]
                refine wpAnyH_ready (rs := [18]) (by kernel_rfl) (by simp) ?_
                refine AllReadyH.cons rfl (fun KK hK => ?_) (AllReadyH.nil)
                rw [if_pos (by rfl)]
                go_simp
                refine hK.out _ _ (⟨hV.1.alloc (by have := hV.2.size; omega) _, hV.2.alloc hV.2.size _⟩) (fun hHeld => ?_)
                clear hK KK
                try simp only [Act.put, List.setIfInBounds_toArray, List.set_cons_zero, List.set_cons_succ]
                refine wpAnyH_ready (rs := [19]) (by kernel_rfl) (by simp) ?_
                refine AllReadyH.cons rfl (fun KK hK => ?_) (AllReadyH.nil)
                rw [if_pos (by rfl)]
                go_simp
                refine hK.out _ _ (⟨hV.1.alloc (by have := hV.2.size; omega) _, hV.2.alloc hV.2.size _⟩) (fun hHeld => ?_)
                clear hK KK
                try simp only [Act.put, List.setIfInBounds_toArray, List.set_cons_zero, List.set_cons_succ]
                refine wpAnyH_done (by kernel_rfl) ?_ _
                go_wp2_with fail
                go_meet
                exact ⟨V.heap.size, ⟨t, k, e0.v, 1⟩, rfl, hV.2.size, evk_new V ⟨t, k, e0.v, 1⟩, rfl, hV.2.alloc hV.2.size _⟩
              · rw [if_pos (by rfl)]
                go_simp
                refine hK.out _ _ (⟨hV.1.alloc (by have := hV.2.size; omega) _, hV.2.alloc hV.2.size _⟩) (fun hHeld => ?_)
                clear hK KK
                try simp only [Act.put, List.setIfInBounds_toArray, List.set_cons_zero, List.set_cons_succ]
                refine wpAnyH_ready (rs := [11]) (by kernel_rfl) (by simp) ?_
                refine AllReadyH.cons rfl (fun KK hK => ?_) (AllReadyH.nil)
                rw [if_pos (by rfl)]
                go_wp2_with fail
                refine (within_any _ 0 3 _ (by omega) (by omega) (by omega)).mono ?_
                rintro e V' ⟨⟨k, _, _, rfl⟩, he⟩; obtain rfl := he.symm; clear he
                go_wp2_with fail
                refine hK.out _ _ (hHeld) (fun hHeld => ?_)
                clear hK KK
                try simp only [Act.put, List.setIfInBounds_toArray, List.set_cons_zero, List.set_cons_succ]
                refine take_at (i := 17) (v := .agg #[.int .i64 t, .int .i64 k, .int .i64 e0.v, .int .u64 1]) rfl rfl (by kernel_rfl) (by kernel_rfl) (by kernel_rfl) (fun _ _ _ h => h) (Or.inl ⟨by rfl, fun X _ => by go_simp⟩) hHeld ?_
                try simp only [Act.put, List.setIfInBounds_toArray, List.set_cons_zero, List.set_cons_succ]
                refine wpAnyH_ready (rs := [19]) (by kernel_rfl) (by simp) ?_
                refine AllReadyH.cons rfl (fun KK hK => ?_) (AllReadyH.nil)
                rw [if_pos (by rfl)]
                go_simp
                refine hK.out _ _ (⟨hV.1.alloc (by have := hV.2.size; omega) _, hV.2.alloc hV.2.size _⟩) (fun hHeld => ?_)
                clear hK KK
                try simp only [Act.put, List.setIfInBounds_toArray, List.set_cons_zero, List.set_cons_succ]
                refine wpAnyH_done (by kernel_rfl) ?_ _
                go_wp2_with fail
                go_meet
                exact ⟨V.heap.size, ⟨t, k, e0.v, 1⟩, rfl, hV.2.size, evk_new V ⟨t, k, e0.v, 1⟩, rfl, hV.2.alloc hV.2.size _⟩
            · rw [if_pos (by rfl)]
              go_simp
              refine hK.out _ _ (⟨hV.1.alloc (by have := hV.2.size; omega) _, hV.2.alloc hV.2.size _⟩) (fun hHeld => ?_)
              clear hK KK
              try simp only [Act.put, List.setIfInBounds_toArray, List.set_cons_zero, List.set_cons_succ]
              refine wpAnyH_ready (rs := [5]) (by kernel_rfl) (by simp) ?_
              refine AllReadyH.cons rfl (fun KK hK => ?_) (AllReadyH.nil)
              rw [if_pos (by rfl)]
              go_wp2_with fail
              refine (within_any _ 0 200 _ (by omega) (by omega) (by omega)).mono ?_
              rintro e V' ⟨⟨t, _, _, rfl⟩, he⟩; obtain rfl := he.symm; clear he
              go_wp2_with fail
              refine hK.out _ _ (hHeld) (fun hHeld => ?_)
              clear hK KK
              try simp only [Act.put, List.setIfInBounds_toArray, List.set_cons_zero, List.set_cons_succ]
              refine wpAnyH_ready (rs := [11]) (by kernel_rfl) (by simp) ?_
              refine AllReadyH.cons rfl (fun KK hK => ?_) (AllReadyH.nil)
              rw [if_pos (by rfl)]
              go_wp2_with fail
              refine (within_any _ 0 3 _ (by omega) (by omega) (by omega)).mono ?_
              rintro e V' ⟨⟨k, _, _, rfl⟩, he⟩; obtain rfl := he.symm; clear he
              go_wp2_with fail
              refine hK.out _ _ (hHeld) (fun hHeld => ?_)
              clear hK KK
              try simp only [Act.put, List.setIfInBounds_toArray, List.set_cons_zero, List.set_cons_succ]
              refine take_at (i := 17) (v := .agg #[.int .i64 t, .int .i64 k, .int .i64 e0.v, .int .u64 1]) rfl rfl (by kernel_rfl) (by kernel_rfl) (by kernel_rfl) (fun _ _ _ h => h) (Or.inl ⟨by rfl, fun X _ => by go_simp⟩) hHeld ?_
              try simp only [Act.put, List.setIfInBounds_toArray, List.set_cons_zero, List.set_cons_succ]
              refine wpAnyH_ready (rs := [19]) (by kernel_rfl) (by simp) ?_
              refine AllReadyH.cons rfl (fun KK hK => ?_) (AllReadyH.nil)
              rw [if_pos (by rfl)]
              go_simp
              refine hK.out _ _ (⟨hV.1.alloc (by have := hV.2.size; omega) _, hV.2.alloc hV.2.size _⟩) (fun hHeld => ?_)
              clear hK KK
              try simp only [Act.put, List.setIfInBounds_toArray, List.set_cons_zero, List.set_cons_succ]
              refine wpAnyH_done (by kernel_rfl) ?_ _
              go_wp2_with fail
              go_meet
              exact ⟨V.heap.size, ⟨t, k, e0.v, 1⟩, rfl, hV.2.size, evk_new V ⟨t, k, e0.v, 1⟩, rfl, hV.2.alloc hV.2.size _⟩
          case rest =>
            obtain ⟨q, e, rfl, hq, hE, hel, hbx⟩ := hcut
            have b1l := hP.out.lt
            have b2l := hQ.out.lt
            have o1l := hP.out.olt
            have o2l := hQ.out.olt
            have hP2 : Hid (Pan wc B o1 n s 2 (putL n s 2 [] es)) := hP.out.below hbx.out
            have hQ2 : Hid (Pan wc b2 o2 n s 2 (putL n s 2 [] es)) := hQ.out.below hbx.out
            have hbc : Hid (Below B w wc) := hbr.out.trans (hbx.out.mono hBr)
            have hqc : q < wc.heap.size := hE.out.lt
            have hLl : (putL n s 2 [] es).length + 8 ≤ 1000000 := by
              have h := putL_len n s 2 es []
              rw [hjj.out] at h
              simp at h
              omega
            have hsn : Hid (putE n s 2 (putL n s 2 [] es) e = putL n s 2 [] (es ++ [e])) := (putL_snoc n s 2 [] es e).symm
            obtain ⟨L, hL⟩ : ∃ L, Hid (putL n s 2 [] es = L) := ⟨_, rfl⟩
            rw [hL.out] at hP2 hQ2 hLl hsn
            clear hP hQ hbr hbx hL
            obtain ⟨c0, c1, c2, c3⟩ := hE.out.c
            go_wp2_with fail
            refine (put_one B o1 n s 2 L e _ hP2.out (by rw [hel.out]; omega) hLl).mono ?_
            rintro r w3 ⟨o1', rfl, hP3, ho1, hch⟩
            have hz3 := hch.sz
            have hP3' : Hid (Pan w3 B o1' n s 2 (putE n s 2 L e)) := hP3
            have hQ3 : Hid (Pan w3 b2 o2 n s 2 L) := hQ2.out.keep hch (by omega) (by omega) (by omega) (by omega)
            have hE3 : Hid (Evk w3 q e) := hE.out.ch hch (by omega) (by omega)
            have hb3 : Hid (Below B w w3) := hbc.out.trans (hch.below (Nat.le_refl _) d4 (by omega))
            clear hP3 hch hP2 hQ2 hE hbc c0 c1 c2 c3
            obtain ⟨c0, c1, c2, c3⟩ := hE3.out.c
            go_wp2_with fail
            refine (put_one b2 o2 n s 2 L e _ hQ3.out (by rw [hel.out]; omega) hLl).mono ?_
            rintro r w4 ⟨o2', rfl, hQ4, ho2, hch⟩
            have hz4 := hch.sz
            have o1l' := hP3'.out.olt
            have hP4 : Hid (Pan w4 B o1' n s 2 (putL n s 2 [] (es ++ [e]))) := by
              have h : Pan w4 B o1' n s 2 (putL n s 2 [] (es ++ [e])) := by
                rw [← hsn.out]
                exact hP3'.out.keep hch (by omega) (by omega) (by omega) (by omega)
              exact h
            have hQ4' : Hid (Pan w4 b2 o2' n s 2 (putL n s 2 [] (es ++ [e]))) := by
              have h : Pan w4 b2 o2' n s 2 (putL n s 2 [] (es ++ [e])) := by
                rw [← hsn.out]
                exact hQ4
              exact h
            have hb4 : Hid (Below B w w4) := hb3.out.trans (hch.below (by omega) d5 (by omega))
            have hel2 : Hid ((es ++ [e]).length = j + 1) := by
              have h : (es ++ [e]).length = j + 1 := by rw [List.length_append, hjj.out]; rfl
              exact h
            clear hQ4 hch hP3' hQ3 hE3 hb3 c0 c1 c2 c3
            go_wp2_with fail
            go_roundw
            case rel => exact ⟨es ++ [e], o1', o2', by rw [hel2.out]; omega, by rw [hel2.out]; go_num, hP4, hQ4', by omega, by omega, by omega, by omega, by omega, hb4⟩
            case measure => simp [intOf]; omega
        · go_wp2_with fail
          go_meet
          exact ⟨es, o1, o2, by rw [hjj.out]; omega, hP, hQ, d1, d2, d3, d4, d5, hbr⟩
      · go_wp2_with fail
        go_meet
        exact ⟨es, o1, o2, by rw [hjj.out]; omega, hP, hQ, d1, d2, d3, d4, d5, hbr⟩
  case rest =>
    obtain ⟨es, o1, o2, hj, hP, hQ, d1, d2, d3, d4, d5, hbr⟩ := hcut
    clear hPp hPq hbw hrd hlab
    obtain ⟨i0, hi, hz0, hz1, hz2⟩ := info_parts Try.info33
    have hok : Hid (Okl n s (putL n s 2 [] es)) := hP.out.okl
    have hLl : Hid ((putL n s 2 [] es).length ≤ 120) := by
      have h := putL_len n s 2 es []
      have h2 : (putL n s 2 [] es).length ≤ 120 := by simp at h; omega
      exact h2
    obtain ⟨L, hL⟩ : ∃ L, Hid (putL n s 2 [] es = L) := ⟨_, rfl⟩
    rw [hL.out] at hP hQ hok hLl
    clear hL
    have p1 := hP.out.lt
    have p2 := hQ.out.lt
    have p3 := hP.out.olt
    have p4 := hQ.out.olt
    obtain ⟨G, hG⟩ : ∃ G, Hid (wc.heap.size = G) := ⟨_, rfl⟩
    rw [hG.out] at p1 p2 p3 p4
    go_wp2_with fail
    refine (open_is B o1 n s 2 L _ hP.out (by have := hLl.out; omega)).mono ?_
    rintro r v1 ⟨ua, rfl, hu, hb⟩
    have A1 : Hid (v1.ownsRow G 33 5 ua L.length (rcs L)) := own_rows hu (by rw [hG.out]; exact Nat.le_refl _)
    have hP1 : Hid (Pan v1 B o1 n s 2 L) := hP.out.below hb
    have hQ1 : Hid (Pan v1 b2 o2 n s 2 L) := hQ.out.below hb
    have hb1 : Hid (Below B w v1) := hbr.out.trans (hb.mono (by rw [hG.out]; omega))
    have hz1' : G ≤ v1.heap.size := by have := hb.size; rw [hG.out] at this; exact this
    clear hu hb hP hQ hbr
    go_wp2_with fail
    refine (within_any ma 0 300 _ (by omega) (by omega) (by omega)).mono ?_
    rintro e w1 ⟨⟨X, hX1, hX2, rfl⟩, he⟩; obtain rfl := he.symm; clear he
    go_wp2_with fail
    refine (within_any mb X 400 _ (by omega) (by omega) (by omega)).mono ?_
    rintro e w1 ⟨⟨Y, hY1, hY2, rfl⟩, he⟩; obtain rfl := he.symm; clear he
    obtain ⟨N1, hN1⟩ : ∃ N, Hid (endN n X L = N) := ⟨_, rfl⟩
    obtain ⟨M1, hM1⟩ : ∃ M, Hid (L.drop N1 = M) := ⟨_, rfl⟩
    obtain ⟨N2, hN2⟩ : ∃ N, Hid (endN n Y M1 = N) := ⟨_, rfl⟩
    obtain ⟨M2, hM2⟩ : ∃ M, Hid (M1.drop N2 = M) := ⟨_, rfl⟩
    obtain ⟨N3, hN3⟩ : ∃ N, Hid (endN n Y L = N) := ⟨_, rfl⟩
    obtain ⟨L1, hL1⟩ : ∃ M, Hid (L.take N1 = M) := ⟨_, rfl⟩
    obtain ⟨L2, hL2⟩ : ∃ M, Hid (M1.take N2 = M) := ⟨_, rfl⟩
    obtain ⟨L3, hL3⟩ : ∃ M, Hid (L.take N3 = M) := ⟨_, rfl⟩
    have f1 : Hid (L1 ++ L2 = L3) := by
      have h : L1 ++ L2 = L3 := by rw [← hL1.out, ← hL2.out, ← hL3.out, ← hN2.out, ← hM1.out, ← hN1.out, ← hN3.out]; exact close_two n X Y hY1 L
      exact h
    have f2 : Hid (M2 = L.drop N3) := by
      have h : M2 = L.drop N3 := by rw [← hM2.out, ← hN2.out, ← hM1.out, ← hN1.out, ← hN3.out]; exact drop_two n X Y hY1 L
      exact h
    have f3 : Hid (L3 ++ M2 = L) := by
      have h : L3 ++ M2 = L := by rw [f2.out, ← hL3.out]; exact List.take_append_drop _ _
      exact h
    have f4 : Hid (endN n Y M2 = 0) := by
      have h : endN n Y M2 = 0 := by rw [f2.out, ← hN3.out]; exact endN_zero n Y _ (endN_drop n Y L hok.out.1)
      exact h
    have f5 : Hid (endN n (-1) M2 = 0) := by
      have h : endN n (-1) M2 = 0 := endN_zero n _ _ fun p hp => by
        rw [f2.out] at hp
        have := (hok.out.2 p (List.mem_of_mem_drop hp)).1.1
        omega
      exact h
    have f6 : Hid (∀ p ∈ L1, (0 ≤ p.s ∧ p.s ≤ 1099511627776) ∧ p.s + n ≤ X) := fun p hp => by
      rw [← hL1.out] at hp
      have h1 := (hok.out.2 p (List.mem_of_mem_take hp)).1
      rw [← hN1.out] at hp
      exact ⟨⟨h1.1, h1.2.1⟩, endN_take n X L p hp⟩
    have f7 : Hid (∀ p ∈ L2, (0 ≤ p.s ∧ p.s ≤ 1099511627776) ∧ X < p.s + n ∧ p.s + n ≤ Y) := fun p hp => by
      rw [← hL2.out] at hp
      have hp1 := List.mem_of_mem_take hp
      rw [← hM1.out] at hp1
      have h1 := (hok.out.2 p (List.mem_of_mem_drop hp1)).1
      rw [← hN1.out] at hp1
      rw [← hN2.out] at hp
      exact ⟨⟨h1.1, h1.2.1⟩, endN_drop n X L hok.out.1 p hp1, endN_take n Y M1 p hp⟩
    have l1 : L1.length ≤ 120 := by have := hLl.out; rw [← hL1.out, List.length_take]; omega
    have lM1 : Hid (M1.length ≤ 120) := by
      have h : M1.length ≤ 120 := by have := hLl.out; rw [← hM1.out, List.length_drop]; omega
      exact h
    have l2 : L2.length ≤ 120 := by have := lM1.out; rw [← hL2.out, List.length_take]; omega
    have l3 : L3.length ≤ 120 := by have := hLl.out; rw [← hL3.out, List.length_take]; omega
    have lM2 : Hid (M2.length ≤ 120) := by
      have h : M2.length ≤ 120 := by have := lM1.out; rw [← hM2.out, List.length_drop]; omega
      exact h
    go_wp2_with fail
    refine (close_is B o1 n s 2 X L N1 _ hP1.out hN1.out (by have := hLl.out; omega)).mono ?_
    rintro r v2 ⟨u1, rfl, hu, hP2, hch⟩
    rw [hL1.out] at hu
    rw [hM1.out] at hP2
    have hz2' : G ≤ v2.heap.size := by have := hch.sz; omega
    have A2 : Hid (v2.ownsRow G 33 5 ua L.length (rcs L)) := own_ch A1.out hch p1 p3
    have C2 : Hid (v2.ownsRow G 33 5 u1 L1.length (rcs L1)) := own_rows hu hz1'
    have hP2' : Hid (Pan v2 B o1 n s 2 M1) := hP2
    have hQ2 : Hid (Pan v2 b2 o2 n s 2 L) := hQ1.out.keep hch (by omega) (by omega) (by omega) (by omega)
    have hb2 : Hid (Below B w v2) := hb1.out.trans (hch.below (Nat.le_refl _) d4 (by omega))
    clear hu hP2 hch A1 hP1 hQ1 hb1 hz1'
    go_wp2_with fail
    refine (close_is B o1 n s 2 Y M1 N2 _ hP2'.out hN2.out (by have := lM1.out; omega)).mono ?_
    rintro r v3 ⟨u2, rfl, hu, hP3, hch⟩
    rw [hL2.out] at hu
    rw [hM2.out] at hP3
    have hz3' : G ≤ v3.heap.size := by have := hch.sz; omega
    have A3 : Hid (v3.ownsRow G 33 5 ua L.length (rcs L)) := own_ch A2.out hch p1 p3
    have C3 : Hid (v3.ownsRow G 33 5 u1 L1.length (rcs L1)) := own_ch C2.out hch p1 p3
    have D3 : Hid (v3.ownsRow G 33 5 u2 L2.length (rcs L2)) := own_rows hu hz2'
    have hP3' : Hid (Pan v3 B o1 n s 2 M2) := hP3
    have hQ3 : Hid (Pan v3 b2 o2 n s 2 L) := hQ2.out.keep hch (by omega) (by omega) (by omega) (by omega)
    have hb3 : Hid (Below B w v3) := hb2.out.trans (hch.below (Nat.le_refl _) d4 (by omega))
    clear hu hP3 hch A2 C2 hP2' hQ2 hb2 hz2'
    go_wp2_with fail
    refine (close_is b2 o2 n s 2 Y L N3 _ hQ3.out hN3.out (by have := hLl.out; omega)).mono ?_
    rintro r v4 ⟨u3, rfl, hu, _, hch⟩
    rw [hL3.out] at hu
    have hz4' : G ≤ v4.heap.size := by have := hch.sz; omega
    have A4 : Hid (v4.ownsRow G 33 5 ua L.length (rcs L)) := own_ch A3.out hch p2 p4
    have C4 : Hid (v4.ownsRow G 33 5 u1 L1.length (rcs L1)) := own_ch C3.out hch p2 p4
    have D4 : Hid (v4.ownsRow G 33 5 u2 L2.length (rcs L2)) := own_ch D3.out hch p2 p4
    have E4 : Hid (v4.ownsRow G 33 5 u3 L3.length (rcs L3)) := own_rows hu hz3'
    have hP4 : Hid (Pan v4 B o1 n s 2 M2) := hP3'.out.keep hch (by omega) (by omega) (by omega) (by omega)
    have hb4 : Hid (Below B w v4) := hb3.out.trans (hch.below (by omega) d5 (by omega))
    clear hu hch A3 C3 D3 hP3' hQ3 hb3 hz3' hN1 hM1 hN2 hM2 hN3 hL1 hL2 hL3 hok f2 lM1
    obtain ⟨_, a1, cp1, rfl, _, _, hc1⟩ := rdr_own C4.out
    obtain ⟨_, a2, cp2, rfl, _, _, hc2⟩ := rdr_own D4.out
    have hc1' : Hid (L1.length ≠ 0 → ∃ b off, a1 = some ⟨b, off, none⟩ ∧ b < v4.heap.size ∧ ∀ j, j < L1.length → RwAt v4 b (off + j * 5) (pAt L1 j)) := hc1
    have hc2' : Hid (L2.length ≠ 0 → ∃ b off, a2 = some ⟨b, off, none⟩ ∧ b < v4.heap.size ∧ ∀ j, j < L2.length → RwAt v4 b (off + j * 5) (pAt L2 j)) := hc2
    clear hc1 hc2
    obtain ⟨m1, hm1⟩ : ∃ m, Hid (L1.length = m) := ⟨_, rfl⟩
    obtain ⟨m2, hm2⟩ : ∃ m, Hid (L2.length = m) := ⟨_, rfl⟩
    rw [hm1.out] at hc1' C4 l1 ⊢
    rw [hm2.out] at hc2' D4 l2 ⊢
    go_wp2_with fail
    go_loopw [100] (fun i wr => ∃ k : Nat, k ≤ m1 ∧ i = .int .i64 k ∧ Hid (Below v4.heap.size v4 wr)) (fun i _ => m1 - (intOf i).toNat)
    case atStart => exact ⟨0, Nat.zero_le _, rfl, Below.refl _ _⟩
    case round =>
      obtain ⟨k, hk, rfl, hbk⟩ := hrel
      by_cases hkm : k < m1
      · obtain ⟨bb, off, rfl, hbb, hcell⟩ := hc1'.out (by omega)
        obtain ⟨c0, c1, c2, c3, c4⟩ := (hcell k hkm).keep (hbk.out.block bb hbb)
        obtain ⟨⟨g1, g2⟩, g3⟩ := f6.out (pAt L1 k) (pAt_mem L1 k (by rw [hm1.out]; exact hkm))
        clear hcell
        obtain ⟨⟨x1, x2, x3, x4, x5⟩, hee⟩ : ∃ x, pAt L1 k = x := ⟨_, rfl⟩
        rw [hee] at c0 c1 c2 c3 c4 g1 g2 g3
        clear hee
        simp only at c0 c1 c2 c3 c4 g1 g2 g3
        go_wp2_with fail
        go_roundw
        case rel => exact ⟨k + 1, by omega, by go_num, hbk.out.alloc hbk.out.size _⟩
        case measure => simp [intOf]; omega
      · obtain rfl : k = m1 := by omega
        have A5 : Hid (wr.ownsRow G 33 5 ua L.length (rcs L)) := own_below A4.out hbk.out
        have C5 : Hid (wr.ownsRow G 33 5 (.slice a1 k cp1) k (rcs L1)) := own_below C4.out hbk.out
        have D5 : Hid (wr.ownsRow G 33 5 (.slice a2 m2 cp2) m2 (rcs L2)) := own_below D4.out hbk.out
        have E5 : Hid (wr.ownsRow G 33 5 u3 L3.length (rcs L3)) := own_below E4.out hbk.out
        have hP5 : Hid (Pan wr B o1 n s 2 M2) := hP4.out.below hbk.out
        have hb5 : Hid (Below B w wr) := hb4.out.trans (hbk.out.mono (by omega))
        have hz5 : G ≤ wr.heap.size := by have := hbk.out.size; omega
        have hc3 : Hid (m2 ≠ 0 → ∃ b off, a2 = some ⟨b, off, none⟩ ∧ b < wr.heap.size ∧ ∀ j, j < m2 → RwAt wr b (off + j * 5) (pAt L2 j)) := fun h => by
          obtain ⟨b, off, e1, e2, e3⟩ := hc2'.out h
          exact ⟨b, off, e1, Nat.lt_of_lt_of_le e2 hbk.out.size, fun j hj => (e3 j hj).keep (hbk.out.block b e2)⟩
        clear A4 C4 D4 E4 hP4 hb4 hz4' hbk hc1' hc2' f6
        obtain ⟨v5, hv5⟩ : ∃ v5, v5 = wr := ⟨_, rfl⟩
        subst hv5
        go_wp2_with fail
        go_loopw [113] (fun i wx => ∃ t : Nat, t ≤ m2 ∧ i = .int .i64 t ∧ Hid (Below v5.heap.size v5 wx)) (fun i _ => m2 - (intOf i).toNat)
        case atStart => exact ⟨0, Nat.zero_le _, rfl, Below.refl _ _⟩
        case round =>
          obtain ⟨t, ht, rfl, hbk⟩ := hrel
          by_cases hkm : t < m2
          · obtain ⟨bb, off, rfl, hbb, hcell⟩ := hc3.out (by omega)
            obtain ⟨c0, c1, c2, c3, c4⟩ := (hcell t hkm).keep (hbk.out.block bb hbb)
            obtain ⟨⟨g1, g2⟩, g3, g4⟩ := f7.out (pAt L2 t) (pAt_mem L2 t (by rw [hm2.out]; exact hkm))
            clear hcell
            obtain ⟨⟨x1, x2, x3, x4, x5⟩, hee⟩ : ∃ x, pAt L2 t = x := ⟨_, rfl⟩
            rw [hee] at c0 c1 c2 c3 c4 g1 g2 g3 g4
            clear hee
            simp only at c0 c1 c2 c3 c4 g1 g2 g3 g4
            go_wp2_with fail
            go_roundw
            case rel => exact ⟨t + 1, by omega, by go_num, hbk.out.alloc hbk.out.size _⟩
            case measure => simp [intOf]; omega
          · obtain rfl : t = m2 := by omega
            have A6 : Hid (RdR wr ua L) := (rdr_own A5.out).below hbk.out
            have C6 : Hid (SrcN 5 wr (.slice a1 k cp1) k (rcs L1)) := (srcN_own C5.out).below hbk.out
            have D6 : Hid (SrcN 5 wr (.slice a2 t cp2) t (rcs L2)) := (srcN_own D5.out).below hbk.out
            have E6 : Hid (wr.ownsRow G 33 5 u3 L3.length (rcs L3)) := own_below E5.out hbk.out
            have hP6 : Hid (Pan wr B o1 n s 2 M2) := hP5.out.below hbk.out
            have hb6 : Hid (Below B w wr) := hb5.out.trans (hbk.out.mono (by omega))
            have hz6 : G ≤ wr.heap.size := by have := hbk.out.size; omega
            clear A5 C5 D5 E5 hP5 hb5 hz5 hbk hc3 f7
            have hown0 : (wr.alloc (.cells #[] 33)).ownsRow wr.heap.size 33 5 (.slice (some ⟨wr.heap.size, 0, none⟩) 0 0) 0 [] :=
              World.ownsRow_lit wr #[] 0 (Nat.le_refl _) (by unfold maxLen; omega) (by simp)
            go_wp2_with (at_builtin; refine wpList_append_srcN _ (by rfl) _ _ 29 rfl 5 wr.heap.size 33 i0 rzero 40 Try.underlying29 hi hz0 hz1 hz2 rfl (by decide) _ 0 [] rfl hown0 _ k (rcs L1) rfl (C6.out.below (below_alloc _ _)) (rcs_one _) (by unfold maxLen; omega) (by omega) (by simp) ?_)
            intro q1 x1 hq1 hx1
            have hx1' : Hid (Below wr.heap.size wr x1) := (below_alloc wr _).trans hx1
            have hq1' : Hid (x1.ownsRow wr.heap.size 33 5 q1 k (rcs L1)) := show x1.ownsRow wr.heap.size 33 5 q1 k (rcs L1) from by simpa using hq1
            have hs1 := hx1'.out.size
            clear hq1 hx1 hown0 C6
            go_wp2_with (at_builtin; refine wpList_append_srcN _ (by rfl) _ _ 29 rfl 5 wr.heap.size 33 i0 rzero 40 Try.underlying29 hi hz0 hz1 hz2 rfl (by decide) _ k (rcs L1) rfl hq1'.out _ t (rcs L2) rfl (D6.out.below hx1'.out) (rcs_one _) (by unfold maxLen; omega) (by omega) hs1 ?_)
            intro q2 x2 hq2 hx2
            have hx2' : Hid (Below wr.heap.size wr x2) := hx1'.out.trans hx2
            have hq2' : Hid (RdR x2 q2 L3) := by
              have h : RdR x2 q2 L3 := by
                rw [← rcs_append, f1.out] at hq2
                exact rdr_own (own_rows hq2 (Nat.le_refl _))
              exact h
            clear hq2 hx2 hx1' hq1' D6 hs1
            go_wp2_with fail
            refine (same_r q2 u3 L3 _ hq2'.out ((rdr_own E6.out).below hx2'.out)).mono ?_
            rintro r x3 ⟨rfl, hx3⟩
            have hx3' : Hid (Below wr.heap.size wr x3) := below_call hx2'.out hx3
            have E7 : Hid (SrcN 5 x3 u3 L3.length (rcs L3)) := (srcN_own E6.out).below hx3'.out
            have A7 : Hid (RdR x3 ua L) := A6.out.below hx3'.out
            have hP7 : Hid (Pan x3 B o1 n s 2 M2) := hP6.out.below hx3'.out
            have hb7 : Hid (Below B w x3) := hb6.out.trans (hx3'.out.mono (by omega))
            have hz7 : G ≤ x3.heap.size := by have := hx3'.out.size; omega
            clear hx3 hx3' hx2' hq2' A6 E6 hP6 hb6 hz6
            have hown0 : (x3.alloc (.cells #[] 33)).ownsRow x3.heap.size 33 5 (.slice (some ⟨x3.heap.size, 0, none⟩) 0 0) 0 [] :=
              World.ownsRow_lit x3 #[] 0 (Nat.le_refl _) (by unfold maxLen; omega) (by simp)
            go_wp2_with (at_builtin; refine wpList_append_srcN _ (by rfl) _ _ 29 rfl 5 x3.heap.size 33 i0 rzero 40 Try.underlying29 hi hz0 hz1 hz2 rfl (by decide) _ 0 [] rfl hown0 _ L3.length (rcs L3) rfl (E7.out.below (below_alloc _ _)) (rcs_one _) (by unfold maxLen; omega) (by omega) (by simp) ?_)
            intro q3 x4 hq3 hx4
            have hx4' : Hid (Below x3.heap.size x3 x4) := (below_alloc x3 _).trans hx4
            have hq3' : Hid (x4.ownsRow x3.heap.size 33 5 q3 L3.length (rcs L3)) := show x4.ownsRow x3.heap.size 33 5 q3 L3.length (rcs L3) from by simpa using hq3
            have hs4 := hx4'.out.size
            clear hq3 hx4 hown0 E7
            go_wp2_with fail
            refine (open_is B o1 n s 2 M2 _ (hP7.out.below hx4'.out) (by have := lM2.out; omega)).mono ?_
            rintro r x5 ⟨uo, rfl, hu, hx5⟩
            have hx5' : Hid (Below x3.heap.size x3 x5) := below_call hx4'.out hx5
            have hq5 : Hid (x5.ownsRow x3.heap.size 33 5 q3 L3.length (rcs L3)) := own_below hq3'.out hx5
            have hs5 := hx5'.out.size
            have hu5 : Hid (SrcN 5 x5 uo M2.length (rcs M2)) := srcN_own hu
            have lM2' := lM2.out
            clear hx4' hq3' hx5 hu hs4
            go_wp2_with (at_builtin; refine wpList_append_srcN _ (by rfl) _ _ 29 rfl 5 x3.heap.size 33 i0 rzero 40 Try.underlying29 hi hz0 hz1 hz2 rfl (by decide) _ L3.length (rcs L3) rfl hq5.out _ M2.length (rcs M2) rfl hu5.out (rcs_one _) (by unfold maxLen; omega) (by omega) hs5 ?_)
            intro q6 x6 hq6 hx6
            have hx6' : Hid (Below x3.heap.size x3 x6) := hx5'.out.trans hx6
            have hq6' : Hid (RdR x6 q6 L) := by
              have h : RdR x6 q6 L := by
                rw [← rcs_append, f3.out] at hq6
                exact rdr_own (own_rows hq6 (Nat.le_refl _))
              exact h
            clear hq6 hx6 hx5' hq5 hu5 hs5
            go_wp2_with fail
            refine (same_r q6 ua L _ hq6'.out (A7.out.below hx6'.out)).mono ?_
            rintro r x7 ⟨rfl, hx7⟩
            have hx7' : Hid (Below x3.heap.size x3 x7) := below_call hx6'.out hx7
            have hP8 : Hid (Pan x7 B o1 n s 2 M2) := hP7.out.below hx7'.out
            have hb8 : Hid (Below B w x7) := hb7.out.trans (hx7'.out.mono (by omega))
            have hz8 : G ≤ x7.heap.size := by have := hx7'.out.size; omega
            clear hx7 hx7' hx6' hq6' A7 hP7 hb7 hz7
            go_wp2_with fail
            refine (close_is B o1 n s 2 Y M2 0 _ hP8.out f4.out (by omega)).mono ?_
            rintro r x8 ⟨u8, rfl, hu, hP9, hch⟩
            have hP9' : Hid (Pan x8 B o1 n s 2 M2) := hP9
            have hb9 : Hid (Below B w x8) := hb8.out.trans (hch.below (Nat.le_refl _) d4 (by omega))
            have hz9 : G ≤ x8.heap.size := by have := hch.sz; omega
            obtain ⟨_, ao8, cp8, rfl, _, _, _⟩ := rdr_own (L := []) (by simpa [rcs] using hu)
            clear hu hP9 hch hP8 hb8 hz8
            go_wp2_with fail
            refine (close_is B o1 n s 2 (-1) M2 0 _ hP9'.out f5.out (by omega)).mono ?_
            rintro r x9 ⟨u9, rfl, hu, hP10, hch⟩
            have hb10 : Hid (Below B w x9) := hb9.out.trans (hch.below (Nat.le_refl _) d4 (by omega))
            have hz10 : G ≤ x9.heap.size := by have := hch.sz; omega
            obtain ⟨_, ao9, cp9, rfl, _, _, _⟩ := rdr_own (L := []) (by simpa [rcs] using hu)
            clear hu hP10 hch hP9' hb9 hz9
            go_wp2_with fail
            refine (runs_is _).mono ?_
            rintro r x10 ⟨rfl, hx10⟩
            have hb11 : Hid (Below B w x10) := hb10.out.trans (hx10.mono (by omega))
            clear hx10 hb10
            go_wp2_with fail
            go_ret
            exact ⟨rfl, by rw [hB.out]; exact hb11.out⟩
end Go.Proofs.Ythnkhijabfnndaa
