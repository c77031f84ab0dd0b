/- PanesKeys, walked: of any sizes, any kind, any key, any events it returns true, and nothing that was there is written. -/
import Derived.Test.YthnkhijabfnndaaSet
namespace Go.Proofs.Ythnkhijabfnndaa
open Go.RowKit M
set_option linter.unusedVariables false
set_option linter.unusedSimpArgs false
attribute [local go_sem ↓] Go.wp_at_zero Go.wp_at_succ
open Go.Maps (keyOf_int_mk)

theorem wf_small {a : Int} (h0 : 0 ≤ a) (h1 : a ≤ 9223372036854775807) : (Lit.int .i64 a).wf = true := WalkArith.wf_i64 (by omega)
set_option maxHeartbeats 8000000 in
set_option maxRecDepth 100000 in
theorem panesKeys_walk (size slide kind key : Int) (a : Option Addr) (len cap : Nat) (z : List Ev) (w : World) {p1 p2 p3 p4 : Prop} (_ : p1) (_ : p2) (_ : p3) (_ : p4) (hrow : IsRowE w a len cap z) :
    Calls Try.prog 7 #[.int .i64 size, .int .i64 slide, .int .i64 kind, .int .i64 key, .slice a len cap] w fun e w' => e = .returned (.bool true) ∧ Below w.heap.size w w' := by
  obtain ⟨hlen, qb, es0, hes0, hlab0, hrd0⟩ := row_at hrow
  have hrd : Hid (∀ j, j < len → ∃ off, a = some ⟨qb, off, none⟩ ∧ qb < w.heap.size ∧ EvAt w qb (off + j * 4) (eAt es0 j)) := hrd0
  clear hrow hlab0 hrd0 hes0
  have hmm := @run_makeMap Try.prog
  go_enter Try.func7, Try.ntmps7
  go_wp2_with fail
  refine (within_any slide 1 20 _ (by omega) (by omega) (by omega)).mono ?_
  rintro e w1 ⟨⟨s, hs1, hs2, rfl⟩, he⟩; obtain rfl := he.symm; clear he
  go_wp2_with fail
  refine (within_any size s (6 * s) _ (by omega) (by omega) (by omega)).mono ?_
  rintro e w1 ⟨⟨n, hn1, hn2, rfl⟩, he⟩; obtain rfl := he.symm; clear he
  go_wp2_with fail
  refine (within_any kind 1 4 _ (by omega) (by omega) (by omega)).mono ?_
  rintro e w1 ⟨⟨K, hK1, hK2, rfl⟩, he⟩; obtain rfl := he.symm; clear he
  go_wp2_with fail
  refine (within_any key 0 3 _ (by omega) (by omega) (by omega)).mono ?_
  rintro e w1 ⟨⟨one, ho1, ho2, rfl⟩, he⟩; obtain rfl := he.symm; clear he
  go_wp2_with fail
  refine (pnew_is n s K _).mono ?_
  rintro e w1 ⟨rfl, hP, hb⟩
  obtain ⟨B, hB⟩ : ∃ B, Hid (w.heap.size = B) := ⟨_, rfl⟩
  have hP1 : Hid (Pan w1 B B n s K []) := by rw [← hB.out]; exact hP
  have hb1 : Hid (Below B w w1) := by rw [← hB.out]; exact hb
  rw [hB.out]
  clear hP hb
  go_wp2_with fail
  refine (pnew_is n s K _).mono ?_
  rintro e w2 ⟨rfl, hP, hb⟩
  obtain ⟨b2, hb2⟩ : ∃ b, Hid (w1.heap.size = b) := ⟨_, rfl⟩
  have hBb : B < b2 := by rw [← hb2.out]; exact hP1.out.lt
  have hPp : Hid (Pan w2 B B n s K []) := hP1.out.below hb
  have hPq : Hid (Pan w2 b2 b2 n s K []) := by rw [← hb2.out]; exact hP
  have hbw : Hid (Below B w w2) := hb1.out.trans (hb.mono (by rw [hb2.out]; omega))
  have hb2l : b2 < w2.heap.size := hPq.out.lt
  rw [hb2.out]
  clear hP hb hP1 hb1 hb2
  go_upto_block 0 with fail
  have hmk : Hid ((w2.alloc (.map #[] 0)).ownsMap Try.prog 3 (plainElem (H := Unit) Try.prog 4) w2.heap.size 0 (setB [])) := World.ownsMap_made w2 Try.prog 3 (plainElem (H := Unit) Try.prog 4)
  have hP3 : Hid (Pan (w2.alloc (.map #[] 0)) B B n s K []) := hPp.out.below (below_alloc _ _)
  have hQ3 : Hid (Pan (w2.alloc (.map #[] 0)) b2 b2 n s K []) := hPq.out.below (below_alloc _ _)
  have hb3 : Hid (Below B w (w2.alloc (.map #[] 0))) := hbw.out.alloc (by omega) _
  obtain ⟨bm, hbm⟩ : ∃ b, Hid (w2.heap.size = b) := ⟨_, rfl⟩
  rw [hbm.out] at hmk hb2l ⊢
  clear hPp hPq hbw
  generalize w2.alloc (.map #[] 0) = w3 at hmk hP3 hQ3 hb3 ⊢
  go_cut [18] (fun i wx => ∃ (es : List Ev) (o1 o2 : Nat), es.length ≤ 15 ∧ Hid (Pan wx B o1 n s K (putL n s K [] es)) ∧ Hid (Pan wx b2 o2 n s K (putL n s K [] (ofK one es))) ∧ Hid (wx.ownsMap Try.prog 3 (plainElem (H := Unit) Try.prog 4) bm es.length (setB (es.map (·.k)))) ∧ (o1 = B ∨ bm < o1) ∧ (o2 = b2 ∨ bm < o2) ∧ o1 ≠ o2 ∧ Hid (∀ e ∈ es, (0 ≤ e.t ∧ e.t ≤ 200) ∧ (0 ≤ e.k ∧ e.k ≤ 3) ∧ e.l < 18446744073709551616) ∧ Hid (Below B w wx))
  case first =>
    go_wp2_with fail
    go_loopw [18] (fun i wr => ∃ (es : List Ev) (o1 o2 : Nat), es.length ≤ 15 ∧ i = .int .i64 es.length ∧ Hid (Pan wr B o1 n s K (putL n s K [] es)) ∧ Hid (Pan wr b2 o2 n s K (putL n s K [] (ofK one es))) ∧ Hid (wr.ownsMap Try.prog 3 (plainElem (H := Unit) Try.prog 4) bm es.length (setB (es.map (·.k)))) ∧ (o1 = B ∨ bm < o1) ∧ (o2 = b2 ∨ bm < o2) ∧ o1 ≠ o2 ∧ Hid (∀ e ∈ es, (0 ≤ e.t ∧ e.t ≤ 200) ∧ (0 ≤ e.k ∧ e.k ≤ 3) ∧ e.l < 18446744073709551616) ∧ Hid (Below B w wr)) (fun i _ => 15 - (intOf i).toNat)
    case atStart => exact ⟨[], B, b2, by simp, rfl, hP3, hQ3, hmk, .inl rfl, .inl rfl, by omega, fun e he => absurd he (by simp), hb3⟩
    case round =>
      obtain ⟨es, o1, o2, hj, rfl, hP, hQ, hM, d1, d2, d3, hevb, hbr⟩ := hrel
      clear hP3 hQ3 hmk hb3
      obtain ⟨j, hjj⟩ : ∃ j, Hid (es.length = j) := ⟨_, rfl⟩
      rw [hjj.out] at hj hM ⊢
      by_cases hl1 : j < len
      · by_cases hl2 : j < 15
        · obtain ⟨off, rfl, hqb, hev⟩ := hrd.out j hl1
          obtain ⟨e0, he0⟩ : ∃ e0, Hid (eAt es0 j = e0) := ⟨_, rfl⟩
          have hev' : Hid (EvAt w qb (off + j * 4) e0) := by
            have h := hev
            rw [he0.out] at h
            exact h
          clear hev he0
          rw [hB.out] at hqb
          have hBr : B ≤ wr.heap.size := by have := hP.out.lt; omega
          go_upto_region 12 with fail
          go_cut [19] (fun p wx => ∃ (q : Nat) (e : Ev), p = .pointer (some ⟨q, 0, none⟩) ∧ wr.heap.size ≤ q ∧ Hid (Evk wx q e) ∧ Hid ((0 ≤ e.t ∧ e.t ≤ 200) ∧ (0 ≤ e.k ∧ e.k ≤ 3) ∧ e.l = 1) ∧ Hid (Below wr.heap.size wr wx))
          case first =>
            have hnl : ¬ len ≤ j := by omega
            refine wp_region_held_drew (S := fun X => Below B w X ∧ Below wr.heap.size wr X) (by kernel_rfl) ⟨hbr.out.drew, (Below.refl _ _).drew⟩ (fun hHeld => ?_)
            generalize wr.drew = V at hHeld ⊢
            have hV := hHeld
            refine take_at (i := 0) (v := .slice (some ⟨qb, off, none⟩) len cap) rfl rfl (by kernel_rfl) (by kernel_rfl) (by kernel_rfl) (fun _ _ _ h => h) (Or.inl ⟨by rfl, fun X _ => by go_simp⟩) hHeld ?_
            try simp only [Act.put, List.setIfInBounds_toArray, List.set_cons_zero, List.set_cons_succ]
            refine take_at (i := 1) (v := .int .i64 (j : Int)) rfl rfl (by kernel_rfl) (by kernel_rfl) (by kernel_rfl) (fun _ _ _ h => h) (Or.inl ⟨by rfl, fun X _ => by go_simp⟩) hHeld ?_
            try simp only [Act.put, List.setIfInBounds_toArray, List.set_cons_zero, List.set_cons_succ]
            refine take_at (i := 2) (v := .pointer (some ⟨qb, off + j * 4, none⟩)) rfl rfl (by kernel_rfl) (by kernel_rfl) (by kernel_rfl) (fun _ _ _ h => h) (Or.inl ⟨by rfl, fun X _ => by go_simp⟩) hHeld ?_
            try simp only [Act.put, List.setIfInBounds_toArray, List.set_cons_zero, List.set_cons_succ]
            refine take_at (i := 3) (v := .pointer (some ⟨qb, off + j * 4, none⟩)) rfl rfl (by kernel_rfl) (by kernel_rfl) (by kernel_rfl) (fun _ _ _ h => h) (Or.inl ⟨by rfl, fun X _ => by go_simp⟩) hHeld ?_
            try simp only [Act.put, List.setIfInBounds_toArray, List.set_cons_zero, List.set_cons_succ]
            refine take_at (i := 4) (v := .int .i64 e0.t) rfl rfl (by kernel_rfl) (by kernel_rfl) (by kernel_rfl) (fun _ _ _ h => h) (Or.inl ⟨by rfl, fun X hX => by obtain ⟨c0, c1, c2, c3⟩ := hev'.out.keep (hX.1.block qb hqb); go_simp⟩) hHeld ?_
            try simp only [Act.put, List.setIfInBounds_toArray, List.set_cons_zero, List.set_cons_succ]
            refine take_at (i := 6) (v := .slice (some ⟨qb, off, none⟩) len cap) rfl rfl (by kernel_rfl) (by kernel_rfl) (by kernel_rfl) (fun _ _ _ h => h) (Or.inl ⟨by rfl, fun X _ => by go_simp⟩) hHeld ?_
            try simp only [Act.put, List.setIfInBounds_toArray, List.set_cons_zero, List.set_cons_succ]
            refine take_at (i := 7) (v := .int .i64 (j : Int)) rfl rfl (by kernel_rfl) (by kernel_rfl) (by kernel_rfl) (fun _ _ _ h => h) (Or.inl ⟨by rfl, fun X _ => by go_simp⟩) hHeld ?_
            try simp only [Act.put, List.setIfInBounds_toArray, List.set_cons_zero, List.set_cons_succ]
            refine take_at (i := 8) (v := .pointer (some ⟨qb, off + j * 4, none⟩)) rfl rfl (by kernel_rfl) (by kernel_rfl) (by kernel_rfl) (fun _ _ _ h => h) (Or.inl ⟨by rfl, fun X _ => by go_simp⟩) hHeld ?_
            try simp only [Act.put, List.setIfInBounds_toArray, List.set_cons_zero, List.set_cons_succ]
            refine take_at (i := 9) (v := .pointer (some ⟨qb, off + j * 4 + 1, none⟩)) rfl rfl (by kernel_rfl) (by kernel_rfl) (by kernel_rfl) (fun _ _ _ h => h) (Or.inl ⟨by rfl, fun X _ => by go_simp⟩) hHeld ?_
            try simp only [Act.put, List.setIfInBounds_toArray, List.set_cons_zero, List.set_cons_succ]
            refine take_at (i := 10) (v := .int .i64 e0.k) rfl rfl (by kernel_rfl) (by kernel_rfl) (by kernel_rfl) (fun _ _ _ h => h) (Or.inl ⟨by rfl, fun X hX => by obtain ⟨c0, c1, c2, c3⟩ := hev'.out.keep (hX.1.block qb hqb); go_simp⟩) hHeld ?_
            try simp only [Act.put, List.setIfInBounds_toArray, List.set_cons_zero, List.set_cons_succ]
            refine take_at (i := 12) (v := .slice (some ⟨qb, off, none⟩) len cap) rfl rfl (by kernel_rfl) (by kernel_rfl) (by kernel_rfl) (fun _ _ _ h => h) (Or.inl ⟨by rfl, fun X _ => by go_simp⟩) hHeld ?_
            try simp only [Act.put, List.setIfInBounds_toArray, List.set_cons_zero, List.set_cons_succ]
            refine take_at (i := 13) (v := .int .i64 (j : Int)) rfl rfl (by kernel_rfl) (by kernel_rfl) (by kernel_rfl) (fun _ _ _ h => h) (Or.inl ⟨by rfl, fun X _ => by go_simp⟩) hHeld ?_
            try simp only [Act.put, List.setIfInBounds_toArray, List.set_cons_zero, List.set_cons_succ]
            refine take_at (i := 14) (v := .pointer (some ⟨qb, off + j * 4, none⟩)) rfl rfl (by kernel_rfl) (by kernel_rfl) (by kernel_rfl) (fun _ _ _ h => h) (Or.inl ⟨by rfl, fun X _ => by go_simp⟩) hHeld ?_
            try simp only [Act.put, List.setIfInBounds_toArray, List.set_cons_zero, List.set_cons_succ]
            refine take_at (i := 15) (v := .pointer (some ⟨qb, off + j * 4 + 2, none⟩)) rfl rfl (by kernel_rfl) (by kernel_rfl) (by kernel_rfl) (fun _ _ _ h => h) (Or.inl ⟨by rfl, fun X _ => by go_simp⟩) hHeld ?_
            try simp only [Act.put, List.setIfInBounds_toArray, List.set_cons_zero, List.set_cons_succ]
            refine take_at (i := 16) (v := .int .i64 e0.v) rfl rfl (by kernel_rfl) (by kernel_rfl) (by kernel_rfl) (fun _ _ _ h => h) (Or.inl ⟨by rfl, fun X hX => by obtain ⟨c0, c1, c2, c3⟩ := hev'.out.keep (hX.1.block qb hqb); go_simp⟩) hHeld ?_
            try simp only [Act.put, List.setIfInBounds_toArray, List.set_cons_zero, List.set_cons_succ]
            refine wpAnyH_ready (rs := [5, 18]) (by kernel_rfl) (by simp) ?_
            refine AllReadyH.cons rfl (fun KK hK => ?_) (AllReadyH.cons rfl (fun KK hK => ?_) (AllReadyH.nil))
            · rw [if_pos (by rfl)]
              go_wp2_with fail
              refine (within_any _ 0 200 _ (by omega) (by omega) (by omega)).mono ?_
              rintro e V' ⟨⟨t, ht1, ht2, rfl⟩, he⟩; obtain rfl := he.symm; clear he
              go_wp2_with fail
              refine hK.out _ _ (hHeld) (fun hHeld => ?_)
              clear hK KK
              try simp only [Act.put, List.setIfInBounds_toArray, List.set_cons_zero, List.set_cons_succ]
              refine wpAnyH_ready (rs := [11, 18]) (by kernel_rfl) (by simp) ?_
              refine AllReadyH.cons rfl (fun KK hK => ?_) (AllReadyH.cons rfl (fun KK hK => ?_) (AllReadyH.nil))
              · rw [if_pos (by rfl)]
                go_wp2_with fail
                refine (within_any _ 0 3 _ (by omega) (by omega) (by omega)).mono ?_
                rintro e V' ⟨⟨k, hk1, hk2, rfl⟩, he⟩; obtain rfl := he.symm; clear he
                go_wp2_with fail
                refine hK.out _ _ (hHeld) (fun hHeld => ?_)
                clear hK KK
                try simp only [Act.put, List.setIfInBounds_toArray, List.set_cons_zero, List.set_cons_succ]
                refine take_at (i := 17) (v := .agg #[.int .i64 t, .int .i64 k, .int .i64 e0.v, .int .u64 1]) rfl rfl (by kernel_rfl) (by kernel_rfl) (by kernel_rfl) (fun _ _ _ h => h) (Or.inl ⟨by rfl, fun X _ => by go_simp⟩) hHeld ?_
                try simp only [Act.put, List.setIfInBounds_toArray, List.set_cons_zero, List.set_cons_succ]
                refine wpAnyH_ready (rs := [18]) (by kernel_rfl) (by simp) ?_
                refine AllReadyH.cons rfl (fun KK hK => ?_) (AllReadyH.nil)
                rw [if_pos (by rfl)]
                go_simp
                refine hK.out _ _ (⟨hV.1.alloc (by have := hV.2.size; omega) _, hV.2.alloc hV.2.size _⟩) (fun hHeld => ?_)
                clear hK KK
                try simp only [Act.put, List.setIfInBounds_toArray, List.set_cons_zero, List.set_cons_succ]
                refine wpAnyH_ready (rs := [19]) (by kernel_rfl) (by simp) ?_
                refine AllReadyH.cons rfl (fun KK hK => ?_) (AllReadyH.nil)
                rw [if_pos (by rfl)]
                go_simp
                refine hK.out _ _ (⟨hV.1.alloc (by have := hV.2.size; omega) _, hV.2.alloc hV.2.size _⟩) (fun hHeld => ?_)
                clear hK KK
                try simp only [Act.put, List.setIfInBounds_toArray, List.set_cons_zero, List.set_cons_succ]
                refine wpAnyH_done (by kernel_rfl) ?_ _
                go_wp2_with fail
                go_meet
                exact ⟨V.heap.size, ⟨t, k, e0.v, 1⟩, rfl, hV.2.size, evk_new V ⟨t, k, e0.v, 1⟩, ⟨⟨ht1, ht2⟩, ⟨hk1, hk2⟩, rfl⟩, hV.2.alloc hV.2.size _⟩
              · rw [if_pos (by rfl)]
                go_simp
                refine hK.out _ _ (⟨hV.1.alloc (by have := hV.2.size; omega) _, hV.2.alloc hV.2.size _⟩) (fun hHeld => ?_)
                clear hK KK
                try simp only [Act.put, List.setIfInBounds_toArray, List.set_cons_zero, List.set_cons_succ]
                refine wpAnyH_ready (rs := [11]) (by kernel_rfl) (by simp) ?_
                refine AllReadyH.cons rfl (fun KK hK => ?_) (AllReadyH.nil)
                rw [if_pos (by rfl)]
                go_wp2_with fail
                refine (within_any _ 0 3 _ (by omega) (by omega) (by omega)).mono ?_
                rintro e V' ⟨⟨k, hk1, hk2, rfl⟩, he⟩; obtain rfl := he.symm; clear he
                go_wp2_with fail
                refine hK.out _ _ (hHeld) (fun hHeld => ?_)
                clear hK KK
                try simp only [Act.put, List.setIfInBounds_toArray, List.set_cons_zero, List.set_cons_succ]
                refine take_at (i := 17) (v := .agg #[.int .i64 t, .int .i64 k, .int .i64 e0.v, .int .u64 1]) rfl rfl (by kernel_rfl) (by kernel_rfl) (by kernel_rfl) (fun _ _ _ h => h) (Or.inl ⟨by rfl, fun X _ => by go_simp⟩) hHeld ?_
                try simp only [Act.put, List.setIfInBounds_toArray, List.set_cons_zero, List.set_cons_succ]
                refine wpAnyH_ready (rs := [19]) (by kernel_rfl) (by simp) ?_
                refine AllReadyH.cons rfl (fun KK hK => ?_) (AllReadyH.nil)
                rw [if_pos (by rfl)]
                go_simp
                refine hK.out _ _ (⟨hV.1.alloc (by have := hV.2.size; omega) _, hV.2.alloc hV.2.size _⟩) (fun hHeld => ?_)
                clear hK KK
                try simp only [Act.put, List.setIfInBounds_toArray, List.set_cons_zero, List.set_cons_succ]
                refine wpAnyH_done (by kernel_rfl) ?_ _
                go_wp2_with fail
                go_meet
                exact ⟨V.heap.size, ⟨t, k, e0.v, 1⟩, rfl, hV.2.size, evk_new V ⟨t, k, e0.v, 1⟩, ⟨⟨ht1, ht2⟩, ⟨hk1, hk2⟩, rfl⟩, hV.2.alloc hV.2.size _⟩
            · rw [if_pos (by rfl)]
              go_simp
              refine hK.out _ _ (⟨hV.1.alloc (by have := hV.2.size; omega) _, hV.2.alloc hV.2.size _⟩) (fun hHeld => ?_)
              clear hK KK
              try simp only [Act.put, List.setIfInBounds_toArray, List.set_cons_zero, List.set_cons_succ]
              refine wpAnyH_ready (rs := [5]) (by kernel_rfl) (by simp) ?_
              refine AllReadyH.cons rfl (fun KK hK => ?_) (AllReadyH.nil)
              rw [if_pos (by rfl)]
              go_wp2_with fail
              refine (within_any _ 0 200 _ (by omega) (by omega) (by omega)).mono ?_
              rintro e V' ⟨⟨t, ht1, ht2, rfl⟩, he⟩; obtain rfl := he.symm; clear he
              go_wp2_with fail
              refine hK.out _ _ (hHeld) (fun hHeld => ?_)
              clear hK KK
              try simp only [Act.put, List.setIfInBounds_toArray, List.set_cons_zero, List.set_cons_succ]
              refine wpAnyH_ready (rs := [11]) (by kernel_rfl) (by simp) ?_
              refine AllReadyH.cons rfl (fun KK hK => ?_) (AllReadyH.nil)
              rw [if_pos (by rfl)]
              go_wp2_with fail
              refine (within_any _ 0 3 _ (by omega) (by omega) (by omega)).mono ?_
              rintro e V' ⟨⟨k, hk1, hk2, rfl⟩, he⟩; obtain rfl := he.symm; clear he
              go_wp2_with fail
              refine hK.out _ _ (hHeld) (fun hHeld => ?_)
              clear hK KK
              try simp only [Act.put, List.setIfInBounds_toArray, List.set_cons_zero, List.set_cons_succ]
              refine take_at (i := 17) (v := .agg #[.int .i64 t, .int .i64 k, .int .i64 e0.v, .int .u64 1]) rfl rfl (by kernel_rfl) (by kernel_rfl) (by kernel_rfl) (fun _ _ _ h => h) (Or.inl ⟨by rfl, fun X _ => by go_simp⟩) hHeld ?_
              try simp only [Act.put, List.setIfInBounds_toArray, List.set_cons_zero, List.set_cons_succ]
              refine wpAnyH_ready (rs := [19]) (by kernel_rfl) (by simp) ?_
              refine AllReadyH.cons rfl (fun KK hK => ?_) (AllReadyH.nil)
              rw [if_pos (by rfl)]
              go_simp
              refine hK.out _ _ (⟨hV.1.alloc (by have := hV.2.size; omega) _, hV.2.alloc hV.2.size _⟩) (fun hHeld => ?_)
              clear hK KK
              try simp only [Act.put, List.setIfInBounds_toArray, List.set_cons_zero, List.set_cons_succ]
              refine wpAnyH_done (by kernel_rfl) ?_ _
              go_wp2_with fail
              go_meet
              exact ⟨V.heap.size, ⟨t, k, e0.v, 1⟩, rfl, hV.2.size, evk_new V ⟨t, k, e0.v, 1⟩, ⟨⟨ht1, ht2⟩, ⟨hk1, hk2⟩, rfl⟩, hV.2.alloc hV.2.size _⟩
          case rest =>
            obtain ⟨q, e, rfl, hq, hE, heb, hbx⟩ := hcut
            have b1l := hP.out.lt
            have b2l := hQ.out.lt
            have o1l := hP.out.olt
            have o2l := hQ.out.olt
            have bml : bm < wr.heap.size := hM.out.lt
            have hP2 : Hid (Pan wc B o1 n s K (putL n s K [] es)) := hP.out.below hbx.out
            have hQ2 : Hid (Pan wc b2 o2 n s K (putL n s K [] (ofK one es))) := hQ.out.below hbx.out
            have hM2 : Hid (wc.ownsMap Try.prog 3 (plainElem (H := Unit) Try.prog 4) bm j (setB (es.map (·.k)))) := ownsMap_keep hM.out (hbx.out.block bm bml)
            have hbc : Hid (Below B w wc) := hbr.out.trans (hbx.out.mono hBr)
            have hqc : q < wc.heap.size := hE.out.lt
            have hLl : (putL n s K [] es).length + 8 ≤ 1000000 := by
              have h := putL_len n s K es []
              rw [hjj.out] at h
              simp at h
              omega
            have hLl2 : (putL n s K [] (ofK one es)).length + 8 ≤ 1000000 := by
              have h := putL_len n s K (ofK one es) []
              have h2 : (ofK one es).length ≤ es.length := List.length_filter_le _ _
              rw [hjj.out] at h2
              simp at h
              omega
            have hevb2 : Hid (∀ x ∈ es ++ [e], (0 ≤ x.t ∧ x.t ≤ 200) ∧ (0 ≤ x.k ∧ x.k ≤ 3) ∧ x.l < 18446744073709551616) := fun x hx => by
              rcases List.mem_append.1 hx with hx | hx
              · exact hevb.out x hx
              · rw [List.mem_singleton.1 hx]; have := heb.out; omega
            have hel : e.l < 18446744073709551616 := by have := heb.out; omega
            have hek : 0 ≤ e.k ∧ e.k ≤ 3 := heb.out.2.1
            have hsn : Hid (putE n s K (putL n s K [] es) e = putL n s K [] (es ++ [e])) := (putL_snoc n s K [] es e).symm
            have hsm : Hid (setB ((es ++ [e]).map (·.k)) = (setB (es.map (·.k))).put (.int .i64 e.k) (.lit (.bool true))) := by
              have h : setB ((es ++ [e]).map (·.k)) = (setB (es.map (·.k))).put (.int .i64 e.k) (.lit (.bool true)) := by
                rw [List.map_append]; exact setB_snoc _ _
              exact h
            have hsq : Hid (putL n s K [] (ofK one (es ++ [e])) = if e.k = one then putE n s K (putL n s K [] (ofK one es)) e else putL n s K [] (ofK one es)) := by
              have h : putL n s K [] (ofK one (es ++ [e])) = if e.k = one then putE n s K (putL n s K [] (ofK one es)) e else putL n s K [] (ofK one es) := by
                rw [ofK_snoc]
                by_cases hc : e.k = one
                · rw [if_pos hc, if_pos hc, putL_snoc]
                · rw [if_neg hc, if_neg hc]
              exact h
            obtain ⟨L, hL⟩ : ∃ L, Hid (putL n s K [] es = L) := ⟨_, rfl⟩
            obtain ⟨M, hMM⟩ : ∃ M, Hid (putL n s K [] (ofK one es) = M) := ⟨_, rfl⟩
            rw [hL.out] at hP2 hLl hsn
            rw [hMM.out] at hQ2 hLl2 hsq
            have hel2 : Hid ((es ++ [e]).length = j + 1) := by
              have h : (es ++ [e]).length = j + 1 := by rw [List.length_append, hjj.out]; rfl
              exact h
            clear hP hQ hM hbr hbx hL hMM hevb heb
            obtain ⟨c0, c1, c2, c3⟩ := hE.out.c
            go_wp2_with fail
            refine (put_one B o1 n s K L e _ hP2.out hel hLl).mono ?_
            rintro r v3 ⟨o1', rfl, hP3, ho1', hch⟩
            have hz3 := hch.sz
            have hP3' : Hid (Pan v3 B o1' n s K (putL n s K [] (es ++ [e]))) := by
              have h : Pan v3 B o1' n s K (putL n s K [] (es ++ [e])) := by rw [← hsn.out]; exact hP3
              exact h
            have hQ3 : Hid (Pan v3 b2 o2 n s K M) := hQ2.out.keep hch (by omega) (by omega) (by omega) (by omega)
            have hE3 : Hid (Evk v3 q e) := hE.out.ch hch (by omega) (by omega)
            have hM3 : Hid (v3.ownsMap Try.prog 3 (plainElem (H := Unit) Try.prog 4) bm j (setB (es.map (·.k)))) := ownsMap_keep hM2.out (hch.other bm (by omega) (by omega) (by omega))
            have hb3 : Hid (Below B w v3) := hbc.out.trans (hch.below (Nat.le_refl _) (by omega) (by omega))
            have o1l' := hP3.olt
            have d1' : o1' = B ∨ bm < o1' := by omega
            have d3' : o1' ≠ o2 := by omega
            clear hP3 hch hP2 hQ2 hE hM2 hbc c0 c1 c2 c3
            obtain ⟨c0, c1, c2, c3⟩ := hE3.out.c
            go_wp2_with (at_mapUpdate; refine wpList_mapUpdate_own _ rfl _ _ _ 55 rfl 3 4 keyLaw Try.underlying55 _ bm j _ rfl hM3.out (by unfold maxLen; omega) _ _ _ rfl rfl (keyOf_int_mk Try.underlying3 (wf_small hek.1 (by omega))) _ [] (plainElem_bool Try.underlying4 true) ?_)
            intro v4 hM4 hg4
            have hM4' : Hid (v4.ownsMap Try.prog 3 (plainElem (H := Unit) Try.prog 4) bm (j + 1) (setB ((es ++ [e]).map (·.k)))) := by
              have h : v4.ownsMap Try.prog 3 (plainElem (H := Unit) Try.prog 4) bm (j + 1) (setB ((es ++ [e]).map (·.k))) := by rw [hsm.out]; exact hM4
              exact h
            have hch4 : Ch bm bm v3 v4 := ⟨hg4.os, hg4.tape, hg4.output, hg4.size, fun g hg h1 _ => hg4.block g hg (by intro h; injection h with h; exact h1 h)⟩
            have hz4 := hch4.sz
            have hP4 : Hid (Pan v4 B o1' n s K (putL n s K [] (es ++ [e]))) := hP3'.out.keep hch4 (by omega) (by omega) (by omega) (by omega)
            have hQ4 : Hid (Pan v4 b2 o2 n s K M) := hQ3.out.keep hch4 (by omega) (by omega) (by omega) (by omega)
            have hE4 : Hid (Evk v4 q e) := hE3.out.ch hch4 (by omega) (by omega)
            have hb4 : Hid (Below B w v4) := hb3.out.trans (hch4.below (by omega) (by omega) (by omega))
            clear hM4 hg4 hch4 hP3' hQ3 hE3 hM3 hb3 c0 c1 c2 c3
            obtain ⟨c0, c1, c2, c3⟩ := hE4.out.c
            by_cases hko : e.k = one
            · have hsq2 : Hid (putE n s K M e = putL n s K [] (ofK one (es ++ [e]))) := by
                have h := hsq.out
                rw [if_pos hko] at h
                exact h.symm
              have hko2 : (e.k == one) = true := by simpa using hko
              clear hsq hko
              go_wp2_with fail
              refine (put_one b2 o2 n s K M e _ hQ4.out hel hLl2).mono ?_
              rintro r v5 ⟨o2', rfl, hQ5, ho2', hch⟩
              have hz5 := hch.sz
              have hQ5' : Hid (Pan v5 b2 o2' n s K (putL n s K [] (ofK one (es ++ [e])))) := by
                have h : Pan v5 b2 o2' n s K (putL n s K [] (ofK one (es ++ [e]))) := by rw [← hsq2.out]; exact hQ5
                exact h
              have o1l2 := hP4.out.olt
              have hP5 : Hid (Pan v5 B o1' n s K (putL n s K [] (es ++ [e]))) := hP4.out.keep hch (by omega) (by omega) (by omega) (by omega)
              have hM5 : Hid (v5.ownsMap Try.prog 3 (plainElem (H := Unit) Try.prog 4) bm (j + 1) (setB ((es ++ [e]).map (·.k)))) := ownsMap_keep hM4'.out (hch.other bm (by omega) (by omega) (by omega))
              have hb5 : Hid (Below B w v5) := hb4.out.trans (hch.below (by omega) (by omega) (by omega))
              have d2' : o2' = b2 ∨ bm < o2' := by omega
              have d3'' : o1' ≠ o2' := by omega
              clear hQ5 hch hQ4 hP4 hM4' hb4 hE4 c0 c1 c2 c3 hko2
              go_wp2_with fail
              go_roundw
              case rel => exact ⟨es ++ [e], o1', o2', by rw [hel2.out]; omega, by rw [hel2.out]; go_num, hP5, hQ5', by rw [hel2.out]; exact hM5, d1', d2', d3'', hevb2, hb5⟩
              case measure => simp [intOf]; omega
            · have hsq2 : Hid (M = putL n s K [] (ofK one (es ++ [e]))) := by
                have h := hsq.out
                rw [if_neg hko] at h
                exact h.symm
              have hko2 : (e.k == one) = false := by simpa using hko
              rw [hsq2.out] at hQ4
              clear hsq hko
              go_wp2_with fail
              go_roundw
              case rel => exact ⟨es ++ [e], o1', o2, by rw [hel2.out]; omega, by rw [hel2.out]; go_num, hP4, hQ4, by rw [hel2.out]; exact hM4', d1', d2, d3', hevb2, hb4⟩
              case measure => simp [intOf]; omega
        · go_wp2_with fail
          go_meet
          exact ⟨es, o1, o2, by rw [hjj.out]; omega, hP, hQ, by rw [hjj.out]; exact hM, d1, d2, d3, hevb, hbr⟩
      · go_wp2_with fail
        go_meet
        exact ⟨es, o1, o2, by rw [hjj.out]; omega, hP, hQ, by rw [hjj.out]; exact hM, d1, d2, d3, hevb, hbr⟩
  case rest =>
    obtain ⟨es, o1, o2, hj, hP, hQ, hM, d1, d2, d3, hevb, hbr⟩ := hcut
    clear hP3 hQ3 hmk hb3 hrd
    obtain ⟨i0, hi, hz0, hz1, hz2⟩ := info_parts Try.info33
    have hkr : Hid (putL n s K [] (ofK one es) = rowsK one (putL n s K [] es)) := keys_rows n s K one es (by omega)
    have hka : Hid (∀ x, x ∈ (putL n s K [] es).map (·.k) ↔ x ∈ es.map (·.k)) := keys_all n s K es (by omega) (right_mk hs1 hn1 (by omega) (by omega)) (fun e he => by have := (hevb.out e he).1; omega)
    have hLl : (putL n s K [] es).length ≤ 120 := by
      have h := putL_len n s K es []
      simp at h
      omega
    have hkb : Hid (∀ p ∈ putL n s K [] es, 0 ≤ p.k ∧ p.k ≤ 3) := fun p hp => by
      have h := (hka.out p.k).1 (List.mem_map.2 ⟨p, hp, rfl⟩)
      obtain ⟨e, he, h2⟩ := List.mem_map.1 h
      have := (hevb.out e he).2.1
      omega
    obtain ⟨M, hMM⟩ : ∃ M, Hid (putL n s K [] (ofK one es) = M) := ⟨_, rfl⟩
    obtain ⟨L, hL⟩ : ∃ L, Hid (putL n s K [] es = L) := ⟨_, rfl⟩
    rw [hMM.out] at hQ hkr
    rw [hL.out] at hP hkr hka hLl hkb
    obtain ⟨j, hjj⟩ : ∃ j, Hid (es.length = j) := ⟨_, rfl⟩
    rw [hjj.out] at hj hM
    have b1l := hP.out.lt
    have b2l := hQ.out.lt
    have o1l := hP.out.olt
    have o2l := hQ.out.olt
    have bml : bm < wc.heap.size := hM.out.lt
    clear hMM hL hevb
    go_wp2_with fail
    have hmk : Hid ((wc.alloc (.map #[] 0)).ownsMap Try.prog 3 (plainElem (H := Unit) Try.prog 4) wc.heap.size 0 (setB [])) := World.ownsMap_made wc Try.prog 3 (plainElem (H := Unit) Try.prog 4)
    have hbA := below_alloc wc (.map #[] 0)
    refine (open_is B o1 n s K L _ (hP.out.below hbA) (by omega)).mono ?_
    rintro r v1 ⟨ur, rfl, hur, hb1⟩
    have hb1' : Hid (Below wc.heap.size wc v1) := below_call hbA hb1
    have hQ1 : Hid (Pan v1 b2 o2 n s K M) := hQ.out.below hb1'.out
    have hM1 : Hid (v1.ownsMap Try.prog 3 (plainElem (H := Unit) Try.prog 4) bm j (setB (es.map (·.k)))) := ownsMap_keep hM.out (hb1'.out.block bm bml)
    have hmk1 : Hid (v1.ownsMap Try.prog 3 (plainElem (H := Unit) Try.prog 4) wc.heap.size 0 (setB [])) := ownsMap_keep hmk.out (hb1.block _ (by simp))
    have hbw1 : Hid (Below B w v1) := hbr.out.trans (hb1'.out.mono (by omega))
    have hz1' : wc.heap.size < v1.heap.size := by have := hb1.size; simp at this; omega
    obtain ⟨_, ra, rc, rfl, hrc1, hrc2, hrcell⟩ := rdr_own hur
    have hrcell' : Hid (L.length ≠ 0 → ∃ b off, ra = some ⟨b, off, none⟩ ∧ wc.heap.size < b ∧ b < v1.heap.size ∧ ∀ k, k < L.length → RwAt v1 b (off + k * 5) (pAt L k)) := fun h => by
      obtain ⟨b, off, e1, e2, e3⟩ := hrcell h
      refine ⟨b, off, e1, ?_, e2, e3⟩
      obtain ⟨_, h0 | ⟨g, cap, cur, e4, hg, _⟩⟩ := hur
      · exact absurd h0.2 h
      · rw [e1] at e4
        injection e4 with e4
        injection e4 with e4
        injection e4 with e4
        subst e4
        simp at hg
        omega
    obtain ⟨b3, hb3⟩ : ∃ b, Hid (wc.heap.size = b) := ⟨_, rfl⟩
    rw [hb3.out] at b1l b2l o1l o2l bml hmk1 hz1' hrcell' ⊢
    clear hur hrcell hb1 hb1' hbA hmk hP hQ hM hbr
    obtain ⟨N, hN⟩ : ∃ N, Hid (L.length = N) := ⟨_, rfl⟩
    rw [hN.out] at hLl hrc1 hrcell' ⊢
    go_wp2_with fail
    go_loopw [20, 98] (fun v i wr => ∃ k : Nat, k ≤ N ∧ i = .int .i64 k ∧ Hid (wr.ownsRow v1.heap.size 33 5 v (rowsK one (L.take k)).length (rcs (rowsK one (L.take k)))) ∧ Hid (wr.ownsMap Try.prog 3 (plainElem (H := Unit) Try.prog 4) b3 k (setB ((L.take k).map (·.k)))) ∧ Hid (Ch b3 b3 v1 wr)) (fun _ i _ => N - (intOf i).toNat)
    case atStart => exact ⟨0, Nat.zero_le _, rfl, World.ownsRow_nil _ _ _ _, hmk1, Ch.refl _ _ _⟩
    case round =>
      obtain ⟨k, hk, rfl, hown, hmp, hch⟩ := hrel
      clear hmk1
      by_cases hkN : k < N
      · obtain ⟨rb, roff, rfl, hrb0, hrb, hrcs⟩ := hrcell'.out (by omega)
        have hkL : k < L.length := by rw [hN.out]; exact hkN
        obtain ⟨c0, c1, c2, c3, c4⟩ := (hrcs k hkN).keep (hch.out.other rb hrb (by omega) (by omega))
        have hpk := hkb.out (pAt L k) (pAt_mem L k hkL)
        have hsn : Hid (rowsK one (L.take (k + 1)) = if (pAt L k).k = one then rowsK one (L.take k) ++ [pAt L k] else rowsK one (L.take k)) := by
          have h : rowsK one (L.take (k + 1)) = if (pAt L k).k = one then rowsK one (L.take k) ++ [pAt L k] else rowsK one (L.take k) := by
            rw [take_pn L k hkL, rowsK_snoc]
          exact h
        have hsm : Hid (setB ((L.take (k + 1)).map (·.k)) = (setB ((L.take k).map (·.k))).put (.int .i64 (pAt L k).k) (.lit (.bool true))) := by
          have h : setB ((L.take (k + 1)).map (·.k)) = (setB ((L.take k).map (·.k))).put (.int .i64 (pAt L k).k) (.lit (.bool true)) := by
            rw [take_pn L k hkL, List.map_append]; exact setB_snoc _ _
          exact h
        have hlenk : (rowsK one (L.take k)).length ≤ 120 := by
          have h1 : (rowsK one (L.take k)).length ≤ (L.take k).length := List.length_filter_le _ _
          rw [List.length_take] at h1
          omega
        obtain ⟨p, hpe⟩ : ∃ p, Hid (pAt L k = p) := ⟨_, rfl⟩
        rw [hpe.out] at c0 c1 c2 c3 c4 hpk hsn hsm
        obtain ⟨A, hA⟩ : ∃ A, Hid (rowsK one (L.take k) = A) := ⟨_, rfl⟩
        rw [hA.out] at hown hsn hlenk
        obtain ⟨Dk, hDk⟩ : ∃ D, Hid (setB ((L.take k).map (·.k)) = D) := ⟨_, rfl⟩
        rw [hDk.out] at hmp hsm
        clear hpe hA hrcs hkL hDk
        go_upto_region 22 with fail
        clear c0 c1 c2 c3 c4
        have hzr := hch.out.sz
        refine world_gen (fun W => Hid (Rwk W wr.heap.size p) ∧ Hid (W.ownsRow v1.heap.size 33 5 u20 A.length (rcs A)) ∧ Hid (W.ownsMap Try.prog 3 (plainElem (H := Unit) Try.prog 4) b3 k Dk) ∧ Hid (Ch b3 b3 v1 W) ∧ wr.heap.size < W.heap.size ∧ Hid (∀ g, u20.ownBlock = some g → g < wr.heap.size)) ⟨rwk_new wr p, hown.out.alloc _, ownsMap_keep hmp.out ((below_alloc wr _).block b3 (by omega)), hch.out.alloc _, by simp, fun g hg => (hown.out.lt g hg).2⟩ ?_
        clear hown hmp hch
        rintro W ⟨hR, hown, hmp, hch, hWz, hgl⟩
        generalize wr.heap.size = q at hR hWz hgl hzr ⊢
        obtain ⟨c0, c1, c2, c3, c4⟩ := hR.out.c
        go_wp2_with (at_mapUpdate; refine wpList_mapUpdate_own _ rfl _ _ _ 55 rfl 3 4 keyLaw Try.underlying55 _ b3 k _ rfl hmp.out (by unfold maxLen; omega) _ _ _ rfl rfl (keyOf_int_mk Try.underlying3 (wf_small hpk.1 (by omega))) _ [] (plainElem_bool Try.underlying4 true) ?_)
        intro W2 hM2 hg2
        have hM2' : Hid (W2.ownsMap Try.prog 3 (plainElem (H := Unit) Try.prog 4) b3 (k + 1) (setB ((L.take (k + 1)).map (·.k)))) := by
          have h : W2.ownsMap Try.prog 3 (plainElem (H := Unit) Try.prog 4) b3 (k + 1) (setB ((L.take (k + 1)).map (·.k))) := by rw [hsm.out]; exact hM2
          exact h
        have hc2 : Ch b3 b3 W W2 := ⟨hg2.os, hg2.tape, hg2.output, hg2.size, fun g hg h1 _ => hg2.block g hg (by intro h; injection h with h; exact h1 h)⟩
        have hR2 : Hid (Rwk W2 q p) := (hc2.other q hWz (by omega) (by omega)).trans hR.out
        have hown2 : Hid (W2.ownsRow v1.heap.size 33 5 u20 A.length (rcs A)) := own_keep hown.out fun g hg => hc2.other g (by have := hgl.out g hg; omega) (by have := (hown.out.lt g hg).1; omega) (by have := (hown.out.lt g hg).1; omega)
        have hch2 : Hid (Ch b3 b3 v1 W2) := hch.out.trans hc2 (.inl rfl)
        have hzz := hc2.sz
        clear hM2 hg2 hc2 hR hown hmp hch c0 c1 c2 c3 c4
        obtain ⟨c0, c1, c2, c3, c4⟩ := hR2.out.c
        by_cases hko : p.k = one
        · have hko2 : (p.k == one) = true := by simpa using hko
          have hsn2 : Hid (rowsK one (L.take (k + 1)) = A ++ [p]) := by
            have h := hsn.out
            rw [if_pos hko] at h
            exact h
          clear hko hsn
          go_wp2_with (at_builtin; refine wpList_append_own _ rfl _ _ 29 rfl v1.heap.size 33 i0 rzero 5 40 Try.underlying29 hi hz0 hz1 hz2 rfl (by decide) _ _ _ rfl (hown2.out.alloc _) ⟨W2.heap.size, 0, none⟩ 1 1 (rcell p) rfl rfl ?c1 ?c2 ?c3 ?c4 ?c5 ?_)
          case c1 => exact src_cells (cs := (rcell p).toArray) (e := 33) (by show (W2.heap.push _)[W2.heap.size]? = _; simp [rcell])
          case c2 => rw [← rcs_single]; exact rcs_one [p]
          case c3 => unfold maxLen; omega
          case c4 => omega
          case c5 => simp; omega
          intro u' W3 hown' hg3 _
          have hown3 : Hid (W3.ownsRow v1.heap.size 33 5 u' (rowsK one (L.take (k + 1))).length (rcs (rowsK one (L.take (k + 1))))) := by
            have h : W3.ownsRow v1.heap.size 33 5 u' (rowsK one (L.take (k + 1))).length (rcs (rowsK one (L.take (k + 1)))) := by
              rw [hsn2.out, rcs_append, rcs_single]
              rw [List.length_append]
              exact hown'
            exact h
          have hbe : Below v1.heap.size (W2.alloc (.cells (rcell p).toArray 33)) W3 := (Below.refl _ _).grown hg3 (by simp; omega) (fun k hk => (hown2.out.lt k hk).1)
          have hch3 : Hid (Ch b3 b3 v1 W3) := by
            have h1 : Ch b3 b3 v1 (W2.alloc (.cells (rcell p).toArray 33)) := hch2.out.alloc _
            exact ⟨hbe.os.trans h1.os, hbe.tape.trans h1.tape, hbe.output.trans h1.output, Nat.le_trans h1.size hbe.size, fun g hg e1 e2 => (hbe.block g hg).trans (h1.other g hg e1 e2)⟩
          have hM3 : Hid (W3.ownsMap Try.prog 3 (plainElem (H := Unit) Try.prog 4) b3 (k + 1) (setB ((L.take (k + 1)).map (·.k)))) := ownsMap_keep hM2'.out ((hbe.block b3 hz1').trans ((below_alloc W2 _).block b3 (by omega)))
          clear hown' hg3 hbe hown2 hch2 hM2' hR2 c0 c1 c2 c3 c4 hko2
          go_wp2_with fail
          go_roundw
          case rel => exact ⟨k + 1, by omega, by go_num, hown3, hM3, hch3⟩
          case measure => simp [intOf]; omega
        · have hko2 : (p.k == one) = false := by simpa using hko
          have hsn2 : Hid (rowsK one (L.take (k + 1)) = A) := by
            have h := hsn.out
            rw [if_neg hko] at h
            exact h
          have hown3 : Hid (W2.ownsRow v1.heap.size 33 5 u20 (rowsK one (L.take (k + 1))).length (rcs (rowsK one (L.take (k + 1))))) := by
            have h := hown2.out
            rw [← hsn2.out] at h
            exact h
          clear hko hsn
          go_wp2_with fail
          go_roundw
          case rel => exact ⟨k + 1, by omega, by go_num, hown3, hM2', hch2⟩
          case measure => simp [intOf]; omega
      · obtain rfl : k = N := by omega
        have hown2 : Hid (RdR wr u20 M) := by
          have h := hown.out
          rw [List.take_of_length_le (by rw [hN.out]; exact Nat.le_refl _), ← hkr.out] at h
          exact rdr_own h
        have hmp2 : Hid (wr.ownsMap Try.prog 3 (plainElem (H := Unit) Try.prog 4) b3 k (setB (L.map (·.k)))) := by
          have h := hmp.out
          rw [List.take_of_length_le (by rw [hN.out]; exact Nat.le_refl _)] at h
          exact h
        have hQ2 : Hid (Pan wr b2 o2 n s K M) := hQ1.out.keep hch.out (by omega) (by omega) (by omega) (by omega)
        have hM2 : Hid (wr.ownsMap Try.prog 3 (plainElem (H := Unit) Try.prog 4) bm j (setB (es.map (·.k)))) := ownsMap_keep hM1.out (hch.out.other bm (by omega) (by omega) (by omega))
        have hbw2 : Hid (Below B w wr) := hbw1.out.trans (hch.out.below (by omega) (by omega) (by omega))
        have hans : Hid (∀ x : Int, (setB (L.map (·.k))).atKey (.int .i64 x) (.lit (.bool false)) = .lit (.bool (decide (x ∈ es.map (·.k))))) := fun x => by
          rw [setB_at]
          congr 2
          exact decide_eq_decide.2 (hka.out x)
        obtain ⟨D1, hD1⟩ : ∃ D, Hid (setB (L.map (·.k)) = D) := ⟨_, rfl⟩
        obtain ⟨D2, hD2⟩ : ∃ D, Hid (setB (es.map (·.k)) = D) := ⟨_, rfl⟩
        have hans2 : Hid (∀ x : Int, D2.atKey (.int .i64 x) (.lit (.bool false)) = .lit (.bool (decide (x ∈ es.map (·.k))))) := fun x => by
          rw [← hD2.out]
          exact setB_at (es.map (·.k)) x
        rw [hD1.out] at hmp2 hans
        rw [hD2.out] at hM2
        clear hD1 hD2
        have hzr := hch.out.sz
        have hMl : M.length ≤ 120 := by
          rw [hkr.out]
          have h1 : (rowsK one L).length ≤ L.length := List.length_filter_le _ _
          rw [hN.out] at h1
          omega
        clear hown hmp hQ1 hM1 hbw1 hch
        obtain ⟨v2, hv2⟩ : ∃ v2, v2 = wr := ⟨_, rfl⟩
        subst hv2
        go_wp2_with fail
        go_loop [114] (fun i => ∃ x : Nat, x ≤ 4 ∧ i = .int .i64 x) (fun i => 4 - (intOf i).toNat)
        case atStart => exact ⟨0, by omega, rfl⟩
        case round =>
          obtain ⟨x, hx, rfl⟩ := hrel
          by_cases hx4 : x < 4
          · obtain ⟨an, han⟩ : ∃ b, Hid (decide ((x : Int) ∈ es.map (·.k)) = b) := ⟨_, rfl⟩
            have hp1 : Hid (D1.atKey (.int .i64 (x : Int)) (.lit (.bool false)) = .lit (.bool an)) := by
              have h := hans.out x
              rw [han.out] at h
              exact h
            have hp2 : Hid (D2.atKey (.int .i64 (x : Int)) (.lit (.bool false)) = .lit (.bool an)) := by
              have h := hans2.out (x : Int)
              rw [han.out] at h
              exact h
            go_wp2_with (at_lookup; first | refine wpList_lookup_own_bool _ rfl _ _ 55 rfl 3 4 keyLaw Try.underlying55 Try.underlying4 (zeroB _) b3 k _ rfl hmp2.out _ _ rfl (keyOf_int_mk Try.underlying3 (wf_small (by omega) (by omega))) an hp1.out ?_ | refine wpList_lookup_own_bool _ rfl _ _ 55 rfl 3 4 keyLaw Try.underlying55 Try.underlying4 (zeroB _) bm j _ rfl hM2.out _ _ rfl (keyOf_int_mk Try.underlying3 (wf_small (by omega) (by omega))) an hp2.out ?_)
            go_round
            case rel => exact ⟨x + 1, by omega, by go_num⟩
            case measure => simp [intOf]; omega
          · go_wp2_with fail
            refine (open_is b2 o2 n s K M _ hQ2.out (by omega)).mono ?_
            rintro r x1 ⟨uq, rfl, hu, hx1⟩
            have hu1 : Hid (RdR x1 uq M) := rdr_own hu
            have ho1' : Hid (RdR x1 u20 M) := hown2.out.below hx1
            have hb8 : Hid (Below B w x1) := hbw2.out.trans (hx1.mono (by omega))
            have hz8 : B ≤ x1.heap.size := by have := hx1.size; omega
            clear hu hx1 hown2 hQ2 hbw2
            go_wp2_with fail
            refine (same_r u20 uq M _ ho1'.out hu1.out).mono ?_
            rintro r x2 ⟨rfl, hx2⟩
            have hb9 : Hid (Below B w x2) := hb8.out.trans (hx2.mono hz8)
            have hz9 : B ≤ x2.heap.size := by have := hx2.size; omega
            clear hx2 hu1 ho1' hb8 hz8
            go_wp2_with fail
            refine (runs_is _).mono ?_
            rintro r x4 ⟨rfl, hx4'⟩
            have hb10 : Hid (Below B w x4) := hb9.out.trans (hx4'.mono hz9)
            clear hx4' hb9
            go_wp2_with fail
            go_ret
            exact ⟨rfl, by rw [hB.out]; exact hb10.out⟩
end Go.Proofs.Ythnkhijabfnndaa
