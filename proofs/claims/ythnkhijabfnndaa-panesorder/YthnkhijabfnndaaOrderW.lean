/- PanesOrder, walked: of any sizes, any kind, any events it returns true, and nothing that was there is written. -/
import Derived.Test.YthnkhijabfnndaaTurn
namespace Go.Proofs.Ythnkhijabfnndaa
open Go.RowKit M
set_option linter.unusedVariables false
set_option linter.unusedSimpArgs false
attribute [local go_sem ↓] Go.wp_at_zero Go.wp_at_succ

theorem Try.info27 : (Try.prog.info? 27).map (fun i => (i.zero, i.size, i.bytes)) = some (some (.agg #[.int .i64 0, .int .i64 0, .int .i64 0, .int .u64 0]), 4, 32) := by kernel_rfl
set_option maxHeartbeats 16000000 in
set_option maxRecDepth 100000 in
theorem panesOrder_walk (size slide kind : Int) (a : Option Addr) (len cap : Nat) (z : List Ev) (cut : Int) (w : World) {p1 p2 p3 p5 : Prop} (_ : p1) (_ : p2) (_ : p3) (hrow : IsRowE w a len cap z) (_ : p5) :
    Calls Try.prog 5 #[.int .i64 size, .int .i64 slide, .int .i64 kind, .slice a len cap, .int .i64 cut] w fun e w' => e = .returned (.bool true) ∧ Below w.heap.size w w' := by
  obtain ⟨hlen, qb, es0, hes0, hlab0, hrd0⟩ := row_at hrow
  obtain ⟨i0, hi, hz0, hz1, hz2⟩ := info_parts Try.info27
  have hlab : Hid (∀ j, j < len → (eAt es0 j).l < 18446744073709551616) := hlab0
  have hrd : Hid (∀ j, j < len → ∃ off, a = some ⟨qb, off, none⟩ ∧ qb < w.heap.size ∧ EvAt w qb (off + j * 4) (eAt es0 j)) := hrd0
  clear hrow hlab0 hrd0 hes0
  go_enter Try.func5, Try.ntmps5
  go_wp2_with fail
  refine (within_any slide 1 20 _ (by omega) (by omega) (by omega)).mono ?_
  rintro e w1 ⟨⟨s, hs1, hs2, rfl⟩, he⟩; obtain rfl := he.symm; clear he
  go_wp2_with fail
  refine (within_any size s (6 * s) _ (by omega) (by omega) (by omega)).mono ?_
  rintro e w1 ⟨⟨n, hn1, hn2, rfl⟩, he⟩; obtain rfl := he.symm; clear he
  go_wp2_with fail
  refine (within_any kind 1 4 _ (by omega) (by omega) (by omega)).mono ?_
  rintro e w1 ⟨⟨K, hK1, hK2, rfl⟩, he⟩; obtain rfl := he.symm; clear he
  obtain ⟨B, hB⟩ : ∃ B, Hid (w.heap.size = B) := ⟨_, rfl⟩
  go_upto_block 0 with fail
  go_cut [14, 15] (fun v c wx => ∃ es : List Ev, es.length ≤ 15 ∧ c = .int .i64 (upl n s es).length ∧ Hid (wx.ownsRow B 27 4 v es.length (evs es)) ∧ Hid (∀ e ∈ es, (0 ≤ e.t ∧ e.t ≤ 200) ∧ (0 ≤ e.k ∧ e.k ≤ 3) ∧ e.l < 18446744073709551616) ∧ Hid (Below B w wx))
  case first =>
    as_aux_lemma =>
      go_wp2_with fail
      go_loopw [14, 15, 16] (fun v c i wr => ∃ es : List Ev, es.length ≤ 15 ∧ i = .int .i64 es.length ∧ c = .int .i64 (upl n s es).length ∧ Hid (wr.ownsRow B 27 4 v es.length (evs es)) ∧ Hid (∀ e ∈ es, (0 ≤ e.t ∧ e.t ≤ 200) ∧ (0 ≤ e.k ∧ e.k ≤ 3) ∧ e.l < 18446744073709551616) ∧ Hid (Below B w wr)) (fun _ _ i _ => 15 - (intOf i).toNat)
      case atStart => exact ⟨[], by simp, rfl, rfl, World.ownsRow_nil _ _ _ _, fun e he => absurd he (by simp), Below.refl _ _⟩
      case round =>
        obtain ⟨es, hj, rfl, rfl, hown, hevb, hbr⟩ := hrel
        obtain ⟨j, hjj⟩ : ∃ j, Hid (es.length = j) := ⟨_, rfl⟩
        rw [hjj.out] at hj hown ⊢
        have hul : (upl n s es).length ≤ 120 := by have := upl_len n s es; rw [hjj.out] at this; omega
        obtain ⟨U, hU⟩ : ∃ U, Hid ((upl n s es).length = U) := ⟨_, rfl⟩
        rw [hU.out] at hul ⊢
        by_cases hl1 : j < len
        · by_cases hl2 : j < 15
          · obtain ⟨off, rfl, hqb, hev⟩ := hrd.out j hl1
            have hel := hlab.out j hl1
            obtain ⟨e0, he0⟩ : ∃ e0, Hid (eAt es0 j = e0) := ⟨_, rfl⟩
            have hev' : Hid (EvAt w qb (off + j * 4) e0) := by
              have h := hev
              rw [he0.out] at h
              exact h
            rw [he0.out] at hel
            have hor : Hid (e0.l ||| 1 < 18446744073709551616) := or_lt hel (by omega)
            clear hev he0
            rw [hB.out] at hqb
            have hBr : B ≤ wr.heap.size := by have := hbr.out.size; rw [hB.out] at this; exact this
            go_upto_region 9 with fail
            go_cut [17] (fun p wx => ∃ (q : Nat) (e : Ev), p = .pointer (some ⟨q, 0, none⟩) ∧ wr.heap.size ≤ q ∧ Hid (Evk wx q e) ∧ Hid ((0 ≤ e.t ∧ e.t ≤ 200) ∧ (0 ≤ e.k ∧ e.k ≤ 3) ∧ e.l < 18446744073709551616) ∧ Hid (Below wr.heap.size wr wx))
            case first =>
              have hnl : ¬ len ≤ j := by omega
              refine wp_region_held_drew (S := fun X => Below B w X ∧ Below wr.heap.size wr X) (by kernel_rfl) ⟨hbr.out.drew, (Below.refl _ _).drew⟩ (fun hHeld => ?_)
              generalize wr.drew = V at hHeld ⊢
              have hV := hHeld
              refine take_at (i := 0) (v := .slice (some ⟨qb, off, none⟩) len cap) rfl rfl (by kernel_rfl) (by kernel_rfl) (by kernel_rfl) (fun _ _ _ h => h) (Or.inl ⟨by rfl, fun X _ => by go_simp⟩) hHeld ?_
              try simp only [Act.put, List.setIfInBounds_toArray, List.set_cons_zero, List.set_cons_succ]
              refine take_at (i := 1) (v := .int .i64 (j : Int)) rfl rfl (by kernel_rfl) (by kernel_rfl) (by kernel_rfl) (fun _ _ _ h => h) (Or.inl ⟨by rfl, fun X _ => by go_simp⟩) hHeld ?_
              try simp only [Act.put, List.setIfInBounds_toArray, List.set_cons_zero, List.set_cons_succ]
              refine take_at (i := 2) (v := .pointer (some ⟨qb, off + j * 4, none⟩)) rfl rfl (by kernel_rfl) (by kernel_rfl) (by kernel_rfl) (fun _ _ _ h => h) (Or.inl ⟨by rfl, fun X _ => by go_simp⟩) hHeld ?_
              try simp only [Act.put, List.setIfInBounds_toArray, List.set_cons_zero, List.set_cons_succ]
              refine take_at (i := 3) (v := .pointer (some ⟨qb, off + j * 4, none⟩)) rfl rfl (by kernel_rfl) (by kernel_rfl) (by kernel_rfl) (fun _ _ _ h => h) (Or.inl ⟨by rfl, fun X _ => by go_simp⟩) hHeld ?_
              try simp only [Act.put, List.setIfInBounds_toArray, List.set_cons_zero, List.set_cons_succ]
              refine take_at (i := 4) (v := .int .i64 e0.t) rfl rfl (by kernel_rfl) (by kernel_rfl) (by kernel_rfl) (fun _ _ _ h => h) (Or.inl ⟨by rfl, fun X hX => by obtain ⟨c0, c1, c2, c3⟩ := hev'.out.keep (hX.1.block qb hqb); go_simp⟩) hHeld ?_
              try simp only [Act.put, List.setIfInBounds_toArray, List.set_cons_zero, List.set_cons_succ]
              refine take_at (i := 6) (v := .slice (some ⟨qb, off, none⟩) len cap) rfl rfl (by kernel_rfl) (by kernel_rfl) (by kernel_rfl) (fun _ _ _ h => h) (Or.inl ⟨by rfl, fun X _ => by go_simp⟩) hHeld ?_
              try simp only [Act.put, List.setIfInBounds_toArray, List.set_cons_zero, List.set_cons_succ]
              refine take_at (i := 7) (v := .int .i64 (j : Int)) rfl rfl (by kernel_rfl) (by kernel_rfl) (by kernel_rfl) (fun _ _ _ h => h) (Or.inl ⟨by rfl, fun X _ => by go_simp⟩) hHeld ?_
              try simp only [Act.put, List.setIfInBounds_toArray, List.set_cons_zero, List.set_cons_succ]
              refine take_at (i := 8) (v := .pointer (some ⟨qb, off + j * 4, none⟩)) rfl rfl (by kernel_rfl) (by kernel_rfl) (by kernel_rfl) (fun _ _ _ h => h) (Or.inl ⟨by rfl, fun X _ => by go_simp⟩) hHeld ?_
              try simp only [Act.put, List.setIfInBounds_toArray, List.set_cons_zero, List.set_cons_succ]
              refine take_at (i := 9) (v := .pointer (some ⟨qb, off + j * 4 + 1, none⟩)) rfl rfl (by kernel_rfl) (by kernel_rfl) (by kernel_rfl) (fun _ _ _ h => h) (Or.inl ⟨by rfl, fun X _ => by go_simp⟩) hHeld ?_
              try simp only [Act.put, List.setIfInBounds_toArray, List.set_cons_zero, List.set_cons_succ]
              refine take_at (i := 10) (v := .int .i64 e0.k) rfl rfl (by kernel_rfl) (by kernel_rfl) (by kernel_rfl) (fun _ _ _ h => h) (Or.inl ⟨by rfl, fun X hX => by obtain ⟨c0, c1, c2, c3⟩ := hev'.out.keep (hX.1.block qb hqb); go_simp⟩) hHeld ?_
              try simp only [Act.put, List.setIfInBounds_toArray, List.set_cons_zero, List.set_cons_succ]
              refine take_at (i := 12) (v := .slice (some ⟨qb, off, none⟩) len cap) rfl rfl (by kernel_rfl) (by kernel_rfl) (by kernel_rfl) (fun _ _ _ h => h) (Or.inl ⟨by rfl, fun X _ => by go_simp⟩) hHeld ?_
              try simp only [Act.put, List.setIfInBounds_toArray, List.set_cons_zero, List.set_cons_succ]
              refine take_at (i := 13) (v := .int .i64 (j : Int)) rfl rfl (by kernel_rfl) (by kernel_rfl) (by kernel_rfl) (fun _ _ _ h => h) (Or.inl ⟨by rfl, fun X _ => by go_simp⟩) hHeld ?_
              try simp only [Act.put, List.setIfInBounds_toArray, List.set_cons_zero, List.set_cons_succ]
              refine take_at (i := 14) (v := .pointer (some ⟨qb, off + j * 4, none⟩)) rfl rfl (by kernel_rfl) (by kernel_rfl) (by kernel_rfl) (fun _ _ _ h => h) (Or.inl ⟨by rfl, fun X _ => by go_simp⟩) hHeld ?_
              try simp only [Act.put, List.setIfInBounds_toArray, List.set_cons_zero, List.set_cons_succ]
              refine take_at (i := 15) (v := .pointer (some ⟨qb, off + j * 4 + 2, none⟩)) rfl rfl (by kernel_rfl) (by kernel_rfl) (by kernel_rfl) (fun _ _ _ h => h) (Or.inl ⟨by rfl, fun X _ => by go_simp⟩) hHeld ?_
              try simp only [Act.put, List.setIfInBounds_toArray, List.set_cons_zero, List.set_cons_succ]
              refine take_at (i := 16) (v := .int .i64 e0.v) rfl rfl (by kernel_rfl) (by kernel_rfl) (by kernel_rfl) (fun _ _ _ h => h) (Or.inl ⟨by rfl, fun X hX => by obtain ⟨c0, c1, c2, c3⟩ := hev'.out.keep (hX.1.block qb hqb); go_simp⟩) hHeld ?_
              try simp only [Act.put, List.setIfInBounds_toArray, List.set_cons_zero, List.set_cons_succ]
              refine take_at (i := 17) (v := .slice (some ⟨qb, off, none⟩) len cap) rfl rfl (by kernel_rfl) (by kernel_rfl) (by kernel_rfl) (fun _ _ _ h => h) (Or.inl ⟨by rfl, fun X _ => by go_simp⟩) hHeld ?_
              try simp only [Act.put, List.setIfInBounds_toArray, List.set_cons_zero, List.set_cons_succ]
              refine take_at (i := 18) (v := .int .i64 (j : Int)) rfl rfl (by kernel_rfl) (by kernel_rfl) (by kernel_rfl) (fun _ _ _ h => h) (Or.inl ⟨by rfl, fun X _ => by go_simp⟩) hHeld ?_
              try simp only [Act.put, List.setIfInBounds_toArray, List.set_cons_zero, List.set_cons_succ]
              refine take_at (i := 19) (v := .pointer (some ⟨qb, off + j * 4, none⟩)) rfl rfl (by kernel_rfl) (by kernel_rfl) (by kernel_rfl) (fun _ _ _ h => h) (Or.inl ⟨by rfl, fun X _ => by go_simp⟩) hHeld ?_
              try simp only [Act.put, List.setIfInBounds_toArray, List.set_cons_zero, List.set_cons_succ]
              refine take_at (i := 20) (v := .pointer (some ⟨qb, off + j * 4 + 3, none⟩)) rfl rfl (by kernel_rfl) (by kernel_rfl) (by kernel_rfl) (fun _ _ _ h => h) (Or.inl ⟨by rfl, fun X _ => by go_simp⟩) hHeld ?_
              try simp only [Act.put, List.setIfInBounds_toArray, List.set_cons_zero, List.set_cons_succ]
              refine take_at (i := 21) (v := .int .u64 e0.l) rfl rfl (by kernel_rfl) (by kernel_rfl) (by kernel_rfl) (fun _ _ _ h => h) (Or.inl ⟨by rfl, fun X hX => by obtain ⟨c0, c1, c2, c3⟩ := hev'.out.keep (hX.1.block qb hqb); go_simp⟩) hHeld ?_
              try simp only [Act.put, List.setIfInBounds_toArray, List.set_cons_zero, List.set_cons_succ]
              refine take_at (i := 22) (v := .int .u64 ((e0.l ||| 1 : Nat) : Int)) rfl rfl (by kernel_rfl) (by kernel_rfl) (by kernel_rfl) (fun _ _ _ h => h) (Or.inl ⟨by rfl, fun X _ => by go_simp; exact u64_or_nat e0.l 1 hel (by decide)⟩) hHeld ?_
              try simp only [Act.put, List.setIfInBounds_toArray, List.set_cons_zero, List.set_cons_succ]
              refine wpAnyH_ready (rs := [5, 24]) (by kernel_rfl) (by simp) ?_
              refine AllReadyH.cons rfl (fun KK hK => ?_) (AllReadyH.cons rfl (fun KK hK => ?_) (AllReadyH.nil))
              · rw [if_pos (by rfl)]
                go_wp2_with fail
                refine (within_any _ 0 200 _ (by omega) (by omega) (by omega)).mono ?_
                rintro e V' ⟨⟨t, ht1, ht2, rfl⟩, he⟩; obtain rfl := he.symm; clear he
                go_wp2_with fail
                refine hK.out _ _ (hHeld) (fun hHeld => ?_)
                clear hK KK
                try simp only [Act.put, List.setIfInBounds_toArray, List.set_cons_zero, List.set_cons_succ]
                refine wpAnyH_ready (rs := [11, 24]) (by kernel_rfl) (by simp) ?_
                refine AllReadyH.cons rfl (fun KK hK => ?_) (AllReadyH.cons rfl (fun KK hK => ?_) (AllReadyH.nil))
                · rw [if_pos (by rfl)]
                  go_wp2_with fail
                  refine (within_any _ 0 3 _ (by omega) (by omega) (by omega)).mono ?_
                  rintro e V' ⟨⟨k, hk1, hk2, rfl⟩, he⟩; obtain rfl := he.symm; clear he
                  go_wp2_with fail
                  refine hK.out _ _ (hHeld) (fun hHeld => ?_)
                  clear hK KK
                  try simp only [Act.put, List.setIfInBounds_toArray, List.set_cons_zero, List.set_cons_succ]
                  refine take_at (i := 23) (v := .agg #[.int .i64 t, .int .i64 k, .int .i64 e0.v, .int .u64 ((e0.l ||| 1 : Nat) : Int)]) rfl rfl (by kernel_rfl) (by kernel_rfl) (by kernel_rfl) (fun _ _ _ h => h) (Or.inl ⟨by rfl, fun X _ => by go_simp⟩) hHeld ?_
                  try simp only [Act.put, List.setIfInBounds_toArray, List.set_cons_zero, List.set_cons_succ]
                  refine wpAnyH_ready (rs := [24]) (by kernel_rfl) (by simp) ?_
                  refine AllReadyH.cons rfl (fun KK hK => ?_) (AllReadyH.nil)
                  rw [if_pos (by rfl)]
                  go_simp
                  refine hK.out _ _ (⟨hV.1.alloc (by have := hV.2.size; omega) _, hV.2.alloc hV.2.size _⟩) (fun hHeld => ?_)
                  clear hK KK
                  try simp only [Act.put, List.setIfInBounds_toArray, List.set_cons_zero, List.set_cons_succ]
                  refine wpAnyH_ready (rs := [25]) (by kernel_rfl) (by simp) ?_
                  refine AllReadyH.cons rfl (fun KK hK => ?_) (AllReadyH.nil)
                  rw [if_pos (by rfl)]
                  go_simp
                  refine hK.out _ _ (⟨hV.1.alloc (by have := hV.2.size; omega) _, hV.2.alloc hV.2.size _⟩) (fun hHeld => ?_)
                  clear hK KK
                  try simp only [Act.put, List.setIfInBounds_toArray, List.set_cons_zero, List.set_cons_succ]
                  refine wpAnyH_done (by kernel_rfl) ?_ _
                  go_wp2_with fail
                  go_meet
                  exact ⟨V.heap.size, ⟨t, k, e0.v, e0.l ||| 1⟩, rfl, hV.2.size, evk_new V ⟨t, k, e0.v, e0.l ||| 1⟩, ⟨⟨ht1, ht2⟩, ⟨hk1, hk2⟩, hor.out⟩, hV.2.alloc hV.2.size _⟩
                · rw [if_pos (by rfl)]
                  go_simp
                  refine hK.out _ _ (⟨hV.1.alloc (by have := hV.2.size; omega) _, hV.2.alloc hV.2.size _⟩) (fun hHeld => ?_)
                  clear hK KK
                  try simp only [Act.put, List.setIfInBounds_toArray, List.set_cons_zero, List.set_cons_succ]
                  refine wpAnyH_ready (rs := [11]) (by kernel_rfl) (by simp) ?_
                  refine AllReadyH.cons rfl (fun KK hK => ?_) (AllReadyH.nil)
                  rw [if_pos (by rfl)]
                  go_wp2_with fail
                  refine (within_any _ 0 3 _ (by omega) (by omega) (by omega)).mono ?_
                  rintro e V' ⟨⟨k, hk1, hk2, rfl⟩, he⟩; obtain rfl := he.symm; clear he
                  go_wp2_with fail
                  refine hK.out _ _ (hHeld) (fun hHeld => ?_)
                  clear hK KK
                  try simp only [Act.put, List.setIfInBounds_toArray, List.set_cons_zero, List.set_cons_succ]
                  refine take_at (i := 23) (v := .agg #[.int .i64 t, .int .i64 k, .int .i64 e0.v, .int .u64 ((e0.l ||| 1 : Nat) : Int)]) rfl rfl (by kernel_rfl) (by kernel_rfl) (by kernel_rfl) (fun _ _ _ h => h) (Or.inl ⟨by rfl, fun X _ => by go_simp⟩) hHeld ?_
                  try simp only [Act.put, List.setIfInBounds_toArray, List.set_cons_zero, List.set_cons_succ]
                  refine wpAnyH_ready (rs := [25]) (by kernel_rfl) (by simp) ?_
                  refine AllReadyH.cons rfl (fun KK hK => ?_) (AllReadyH.nil)
                  rw [if_pos (by rfl)]
                  go_simp
                  refine hK.out _ _ (⟨hV.1.alloc (by have := hV.2.size; omega) _, hV.2.alloc hV.2.size _⟩) (fun hHeld => ?_)
                  clear hK KK
                  try simp only [Act.put, List.setIfInBounds_toArray, List.set_cons_zero, List.set_cons_succ]
                  refine wpAnyH_done (by kernel_rfl) ?_ _
                  go_wp2_with fail
                  go_meet
                  exact ⟨V.heap.size, ⟨t, k, e0.v, e0.l ||| 1⟩, rfl, hV.2.size, evk_new V ⟨t, k, e0.v, e0.l ||| 1⟩, ⟨⟨ht1, ht2⟩, ⟨hk1, hk2⟩, hor.out⟩, hV.2.alloc hV.2.size _⟩
              · rw [if_pos (by rfl)]
                go_simp
                refine hK.out _ _ (⟨hV.1.alloc (by have := hV.2.size; omega) _, hV.2.alloc hV.2.size _⟩) (fun hHeld => ?_)
                clear hK KK
                try simp only [Act.put, List.setIfInBounds_toArray, List.set_cons_zero, List.set_cons_succ]
                refine wpAnyH_ready (rs := [5]) (by kernel_rfl) (by simp) ?_
                refine AllReadyH.cons rfl (fun KK hK => ?_) (AllReadyH.nil)
                rw [if_pos (by rfl)]
                go_wp2_with fail
                refine (within_any _ 0 200 _ (by omega) (by omega) (by omega)).mono ?_
                rintro e V' ⟨⟨t, ht1, ht2, rfl⟩, he⟩; obtain rfl := he.symm; clear he
                go_wp2_with fail
                refine hK.out _ _ (hHeld) (fun hHeld => ?_)
                clear hK KK
                try simp only [Act.put, List.setIfInBounds_toArray, List.set_cons_zero, List.set_cons_succ]
                refine wpAnyH_ready (rs := [11]) (by kernel_rfl) (by simp) ?_
                refine AllReadyH.cons rfl (fun KK hK => ?_) (AllReadyH.nil)
                rw [if_pos (by rfl)]
                go_wp2_with fail
                refine (within_any _ 0 3 _ (by omega) (by omega) (by omega)).mono ?_
                rintro e V' ⟨⟨k, hk1, hk2, rfl⟩, he⟩; obtain rfl := he.symm; clear he
                go_wp2_with fail
                refine hK.out _ _ (hHeld) (fun hHeld => ?_)
                clear hK KK
                try simp only [Act.put, List.setIfInBounds_toArray, List.set_cons_zero, List.set_cons_succ]
                refine take_at (i := 23) (v := .agg #[.int .i64 t, .int .i64 k, .int .i64 e0.v, .int .u64 ((e0.l ||| 1 : Nat) : Int)]) rfl rfl (by kernel_rfl) (by kernel_rfl) (by kernel_rfl) (fun _ _ _ h => h) (Or.inl ⟨by rfl, fun X _ => by go_simp⟩) hHeld ?_
                try simp only [Act.put, List.setIfInBounds_toArray, List.set_cons_zero, List.set_cons_succ]
                refine wpAnyH_ready (rs := [25]) (by kernel_rfl) (by simp) ?_
                refine AllReadyH.cons rfl (fun KK hK => ?_) (AllReadyH.nil)
                rw [if_pos (by rfl)]
                go_simp
                refine hK.out _ _ (⟨hV.1.alloc (by have := hV.2.size; omega) _, hV.2.alloc hV.2.size _⟩) (fun hHeld => ?_)
                clear hK KK
                try simp only [Act.put, List.setIfInBounds_toArray, List.set_cons_zero, List.set_cons_succ]
                refine wpAnyH_done (by kernel_rfl) ?_ _
                go_wp2_with fail
                go_meet
                exact ⟨V.heap.size, ⟨t, k, e0.v, e0.l ||| 1⟩, rfl, hV.2.size, evk_new V ⟨t, k, e0.v, e0.l ||| 1⟩, ⟨⟨ht1, ht2⟩, ⟨hk1, hk2⟩, hor.out⟩, hV.2.alloc hV.2.size _⟩
            case rest =>
              obtain ⟨q, e, rfl, hq, hE, heb, hbx⟩ := hcut
              have hown2 : Hid (wc.ownsRow B 27 4 u14 j (evs es)) := own_below hown.out hbx.out
              have hbc : Hid (Below B w wc) := hbr.out.trans (hbx.out.mono hBr)
              have hqc : q < wc.heap.size := hE.out.lt
              have hevb2 : Hid (∀ x ∈ es ++ [e], (0 ≤ x.t ∧ x.t ≤ 200) ∧ (0 ≤ x.k ∧ x.k ≤ 3) ∧ x.l < 18446744073709551616) := fun x hx => by
                rcases List.mem_append.1 hx with hx | hx
                · exact hevb.out x hx
                · rw [List.mem_singleton.1 hx]; exact heb.out
              have hBc : B ≤ wc.heap.size := by omega
              have hgl : Hid (∀ k, u14.ownBlock = some k → k < wr.heap.size) := fun k hk => (hown.out.lt k hk).2
              clear hown hbr hbx hevb
              obtain ⟨c0, c1, c2, c3⟩ := hE.out.c
              go_wp2_with (at_builtin; refine wpList_append_own _ rfl _ _ 41 rfl B 27 i0 (.agg #[.int .i64 0, .int .i64 0, .int .i64 0, .int .u64 0]) 4 32 Try.underlying41 hi hz0 hz1 hz2 rfl (by decide) _ _ _ rfl (hown2.out.alloc _) ⟨wc.heap.size, 0, none⟩ 1 1 (evCells e) rfl rfl ?c1 ?c2 ?c3 ?c4 ?c5 ?_)
              case c1 => exact src_cells (cs := (evCells e).toArray) (e := 27) (by show (wc.heap.push _)[wc.heap.size]? = _; simp [evCells])
              case c2 => rw [← evs_single]; exact evs_one [e]
              case c3 => unfold maxLen; omega
              case c4 => omega
              case c5 => simp; omega
              intro u' w3 hown' hg3 _
              have hb3 : Hid (Below B w w3) := (hbc.out.alloc hBc _).grown hg3 (by simp; omega) (fun k hk => (hown2.out.lt k hk).1)
              have hE3 : Hid (Evk w3 q e) := (hE.out.below (below_alloc _ _)).keep (hg3.block q (by simp; omega) (by
                intro h
                have := hgl.out q h.symm
                omega))
              have hown3 : Hid (w3.ownsRow B 27 4 u' (j + 1) (evs (es ++ [e]))) := by
                have h : w3.ownsRow B 27 4 u' (j + 1) (evs (es ++ [e])) := by rw [evs_append, evs_single]; exact hown'
                exact h
              have hz3 : B ≤ w3.heap.size := by have := hg3.size; simp at this; omega
              clear hown' hg3 hown2 hbc hE hgl c0 c1 c2 c3
              obtain ⟨c0, c1, c2, c3⟩ := hE3.out.c
              go_wp2_with fail
              refine (starts_new e.t n s _).mono ?_
              rintro r w4 ⟨sa, cs, rfl, hs1', hs2', _, hb4⟩
              have hown4 : Hid (w4.ownsRow B 27 4 u' (j + 1) (evs (es ++ [e]))) := own_below hown3.out hb4
              have hb5 : Hid (Below B w w4) := hb3.out.trans (hb4.mono hz3)
              have hsn : Hid ((upl n s (es ++ [e])).length = U + (starts e.t n s).length) := by
                have h : (upl n s (es ++ [e])).length = U + (starts e.t n s).length := by rw [upl_snoc, hU.out]
                exact h
              have hst8 := starts_len e.t n s
              obtain ⟨c, hcl⟩ : ∃ c, Hid ((starts e.t n s).length = c) := ⟨_, rfl⟩
              rw [hcl.out] at hs1' hst8 hsn ⊢
              have hel2 : Hid ((es ++ [e]).length = j + 1) := by
                have h : (es ++ [e]).length = j + 1 := by rw [List.length_append, hjj.out]; rfl
                exact h
              clear hb4 hown3 hb3 hE3 c0 c1 c2 c3
              go_wp2_with fail
              go_roundw
              case rel => exact ⟨es ++ [e], by rw [hel2.out]; omega, by rw [hel2.out]; go_num, by rw [hsn.out]; go_num, by rw [hel2.out]; exact hown4, hevb2, hb5⟩
              case measure => simp [intOf]; omega
          · go_wp2_with fail
            go_meet
            exact ⟨es, by rw [hjj.out]; omega, by rw [hU.out], by rw [hjj.out]; exact hown, hevb, hbr⟩
        · go_wp2_with fail
          go_meet
          exact ⟨es, by rw [hjj.out]; omega, by rw [hU.out], by rw [hjj.out]; exact hown, hevb, hbr⟩
  case rest =>
    obtain ⟨es, hj, rfl, hown, hevb, hbr⟩ := hcut
    clear hrd hlab
    have hlt : Hid (∀ x ∈ es, x.l < 18446744073709551616) := fun x hx => (hevb.out x hx).2.2
    have hul : (upl n s es).length ≤ 120 := by have := upl_len n s es; omega
    obtain ⟨U, hU⟩ : ∃ U, Hid ((upl n s es).length = U) := ⟨_, rfl⟩
    rw [hU.out] at hul ⊢
    obtain ⟨m, hm⟩ : ∃ m, Hid (es.length = m) := ⟨_, rfl⟩
    rw [hm.out] at hj hown
    have hBc : B ≤ wc.heap.size := by have := hbr.out.size; rw [hB.out] at this; exact this
    obtain ⟨ev, hevv⟩ : ∃ v, v = u14 := ⟨_, rfl⟩
    subst hevv
    have hform : ∃ g cp, ev = .slice g m cp ∧ m ≤ cp ∧ cp ≤ 9223372036854775807 := by
      obtain ⟨_, h0 | ⟨g, cp, cur, e1, _, _, h2, h3, _⟩⟩ := hown.out
      · exact ⟨none, 0, by rw [h0.1, h0.2], by omega, by omega⟩
      · exact ⟨_, cp, e1, h2, by unfold maxLen at h3; omega⟩
    obtain ⟨ga, cp, rfl, hcp1, hcp2⟩ := hform
    go_wp2_with fail
    refine (within_any cut 0 m _ (by omega) (by omega) (by omega)).mono ?_
    rintro e w1 ⟨⟨C, hC1, hC2, rfl⟩, he⟩; obtain rfl := he.symm; clear he
    obtain ⟨c, rfl⟩ : ∃ c : Nat, C = (c : Int) := ⟨C.toNat, by omega⟩
    go_wp2_with fail
    refine (pnew_is n s K _).mono ?_
    rintro e w1 ⟨rfl, hP, hb⟩
    obtain ⟨b1, hb1⟩ : ∃ b, Hid (wc.heap.size = b) := ⟨_, rfl⟩
    rw [hb1.out] at hBc hP ⊢
    have hP1 : Hid (Pan w1 b1 b1 n s K []) := hP
    have hown1 : Hid (w1.ownsRow B 27 4 (.slice ga m cp) m (evs es)) := own_below hown.out hb
    have hgl : Hid (∀ k, (Value.slice ga m cp).ownBlock = some k → k < b1) := fun k hk => by
      have := (hown.out.lt k hk).2
      rw [hb1.out] at this
      exact this
    have hbw1 : Hid (Below B w w1) := hbr.out.trans (hb.mono (by rw [hb1.out]; exact hBc))
    clear hP hb hbr hown
    go_wp2_with fail
    refine (pnew_is n s K _).mono ?_
    rintro e w2 ⟨rfl, hP, hb⟩
    obtain ⟨b2, hb2⟩ : ∃ b, Hid (w1.heap.size = b) := ⟨_, rfl⟩
    have hbb : b1 < b2 := by rw [← hb2.out]; exact hP1.out.lt
    rw [hb2.out] at hP ⊢
    have hP2 : Hid (Pan w2 b1 b1 n s K []) := hP1.out.below hb
    have hQ2 : Hid (Pan w2 b2 b2 n s K []) := hP
    have hown2 : Hid (w2.ownsRow B 27 4 (.slice ga m cp) m (evs es)) := own_below hown1.out hb
    have hbw2 : Hid (Below B w w2) := hbw1.out.trans (hb.mono (by rw [hb2.out]; omega))
    have hb2l : b2 < w2.heap.size := hQ2.out.lt
    clear hP hb hbw1 hown1 hP1 hb1 hb2
    obtain ⟨qe, hRd, hqe⟩ := rde_own2 hown2.out hlt.out hgl.out
    go_wp2_with fail
    refine (put_is b1 b1 n s K [] _ qe es _ hP2.out hRd (by omega) (by omega) (by rw [hm.out]; simp; omega)).mono ?_
    rintro r w3 ⟨o1, rfl, hP3, ho1, hch⟩
    have hP3' : Hid (Pan w3 b1 o1 n s K (putL n s K [] es)) := hP3
    have hQ3 : Hid (Pan w3 b2 b2 n s K []) := hQ2.out.keep hch (by omega) (by omega) (by omega) (by omega)
    have hown3 : Hid (w3.ownsRow B 27 4 (.slice ga m cp) m (evs es)) := own_keep hown2.out fun k hk => by
      have := hgl.out k hk
      exact hch.other k (by omega) (by omega) (by omega)
    have hbw3 : Hid (Below B w w3) := hbw2.out.trans (hch.below hBc hBc (by omega))
    have hz3 := hch.sz
    have ho1b : o1 = b1 ∨ b2 < o1 := by omega
    have o1l := hP3.olt
    clear hP3 hch hRd hP2 hQ2 hown2 hbw2 hqe ho1
    go_upto_region 17 with fail
    have hcm : c ≤ m := by omega
    go_cut [115, 116, 117] (fun v l i wx => i = .int .i64 0 ∧ l = .int .i64 m ∧ ∃ gv, v = gv ∧ Hid (wx.ownsRow w3.heap.size 27 4 gv m (evs (es.drop c ++ es.take c))) ∧ Hid (Below w3.heap.size w3 wx))
    case first =>
      as_aux_lemma =>
        obtain ⟨_, h0 | ⟨g, cp', cur, e1, hgB, hh, hmc, hcm2, hcs, hct⟩⟩ := id hown3.out
        · obtain ⟨h0, h00⟩ := h0
          injection h0 with e1 e2 e3
          subst e1 e2 e3
          obtain rfl : c = 0 := by omega
          have hes : es = [] := List.eq_nil_of_length_eq_zero hm.out
          have hsrc1 : Hid (SrcN 4 (w3.drew.alloc (.cells #[] 27)) (.slice none 0 0) (0 - 0) (evs (es.drop 0))) := .inl ⟨rfl, rfl, by rw [hes]; rfl⟩
          have hsrc2 : Hid (SrcN 4 w3 (.slice none 0 0) 0 (evs (es.take 0))) := .inl ⟨rfl, rfl, by simp [evs]⟩
          refine wp_region_held_drew (S := fun _ => True) (by kernel_rfl) trivial (fun hHeld => ?_)
          refine take_at (i := 1) (v := .slice none 0 0) rfl rfl (by kernel_rfl) (by kernel_rfl) (by kernel_rfl) (fun _ _ _ h => h) (Or.inl ⟨by rfl, fun X _ => by go_simp⟩) hHeld ?_
          try simp only [Act.put, List.setIfInBounds_toArray, List.set_cons_zero, List.set_cons_succ]
          refine take_at (i := 2) (v := .int .i64 (0 : Int)) rfl rfl (by kernel_rfl) (by kernel_rfl) (by kernel_rfl) (fun _ _ _ h => h) (Or.inl ⟨by rfl, fun X _ => by go_simp⟩) hHeld ?_
          try simp only [Act.put, List.setIfInBounds_toArray, List.set_cons_zero, List.set_cons_succ]
          refine take_at (i := 3) (v := .slice none 0 0) rfl rfl (by kernel_rfl) (by kernel_rfl) (by kernel_rfl) (fun _ _ _ h => h) (Or.inl ⟨by rfl, fun X _ => by go_simp⟩) hHeld ?_
          try simp only [Act.put, List.setIfInBounds_toArray, List.set_cons_zero, List.set_cons_succ]
          refine take_at (i := 5) (v := .slice none 0 0) rfl rfl (by kernel_rfl) (by kernel_rfl) (by kernel_rfl) (fun _ _ _ h => h) (Or.inl ⟨by rfl, fun X _ => by go_simp⟩) hHeld ?_
          try simp only [Act.put, List.setIfInBounds_toArray, List.set_cons_zero, List.set_cons_succ]
          refine take_at (i := 6) (v := .int .i64 (0 : Int)) rfl rfl (by kernel_rfl) (by kernel_rfl) (by kernel_rfl) (fun _ _ _ h => h) (Or.inl ⟨by rfl, fun X _ => by go_simp⟩) hHeld ?_
          try simp only [Act.put, List.setIfInBounds_toArray, List.set_cons_zero, List.set_cons_succ]
          refine take_at (i := 7) (v := .slice none 0 0) rfl rfl (by kernel_rfl) (by kernel_rfl) (by kernel_rfl) (fun _ _ _ h => h) (Or.inl ⟨by rfl, fun X _ => by go_simp⟩) hHeld ?_
          try simp only [Act.put, List.setIfInBounds_toArray, List.set_cons_zero, List.set_cons_succ]
          refine take_at (i := 10) (v := .int .i64 0) rfl rfl (by kernel_rfl) (by kernel_rfl) (by kernel_rfl) (fun _ _ _ h => h) (Or.inl ⟨by rfl, fun X _ => by go_simp⟩) hHeld ?_
          try simp only [Act.put, List.setIfInBounds_toArray, List.set_cons_zero, List.set_cons_succ]
          refine wpAnyH_ready (rs := [0]) (by kernel_rfl) (by simp) ?_
          refine AllReadyH.cons rfl (fun KK hK => ?_) AllReadyH.nil
          rw [if_pos (by rfl)]
          go_simp
          refine hK.out _ _ (trivial) (fun hHeld => ?_)
          clear hK KK
          try simp only [Act.put, List.setIfInBounds_toArray, List.set_cons_zero, List.set_cons_succ]
          have hown0 : (w3.drew.alloc (.cells #[] 27)).ownsRow w3.heap.size 27 4 (.slice (some ⟨w3.heap.size, 0, none⟩) 0 0) 0 [] :=
            World.ownsRow_lit w3.drew #[] 0 (Nat.le_refl _) (by unfold maxLen; omega) (by simp)
          obtain ⟨q1, x1, hr1, ho1, hx1, _⟩ := run_append_srcN (P := Try.prog) (w3.drew.alloc (.cells #[] 27)) 4 w3.heap.size 41 41 27 i0 (.agg #[.int .i64 0, .int .i64 0, .int .i64 0, .int .u64 0]) 32 Try.underlying41 hi hz0 hz1 hz2 rfl (by decide) _ 0 [] hown0 _ (0 - 0) (evs (es.drop 0)) (hsrc1.out) (evs_one _) (by unfold maxLen; omega) (by omega) (by show w3.heap.size ≤ (w3.drew.heap.push _).size; rw [Array.size_push]; exact Nat.le_succ _)
          rw [Nat.zero_add, List.nil_append] at ho1
          have hx1' : Below w3.heap.size w3 x1 := ((Below.refl _ _).drew.alloc (Nat.le_refl _) _).trans hx1
          obtain ⟨q2, x2, hr2, ho2, hx2, _⟩ := run_append_srcN (P := Try.prog) x1 4 w3.heap.size 41 41 27 i0 (.agg #[.int .i64 0, .int .i64 0, .int .i64 0, .int .u64 0]) 32 Try.underlying41 hi hz0 hz1 hz2 rfl (by decide) _ (0 - 0) (evs (es.drop 0)) ho1 _ 0 (evs (es.take 0)) ((hsrc2.out).below hx1') (evs_one _) (by unfold maxLen; omega) (by omega) hx1'.size
          have hx2' : Hid (Below w3.heap.size w3 x2) := hx1'.trans hx2
          have ho2' : Hid (x2.ownsRow w3.heap.size 27 4 q2 0 (evs (es.drop 0 ++ es.take 0))) := by
            have h : x2.ownsRow w3.heap.size 27 4 q2 0 (evs (es.drop 0 ++ es.take 0)) := by
              rw [evs_append]
              have e : (0 - 0) + 0 = 0 := by omega
              rw [e] at ho2
              exact ho2
            exact h
          have hr1' : Hid _ := hr1
          have hr2' : Hid _ := hr2
          clear hr1 hr2 ho1 ho2 hx1 hx2 hx1' hown0
          refine wpAnyH_ready (rs := [4]) (by kernel_rfl) (by simp) ?_
          refine AllReadyH.cons rfl (fun KK hK => ?_) AllReadyH.nil
          rw [if_pos (by rfl)]
          refine wp_append_any _ _ _ 41 41 rfl _ _ rfl rfl hr1'.out ?_
          refine hK.out _ _ (trivial) (fun hHeld => ?_)
          clear hK KK
          try simp only [Act.put, List.setIfInBounds_toArray, List.set_cons_zero, List.set_cons_succ]
          refine wpAnyH_ready (rs := [8]) (by kernel_rfl) (by simp) ?_
          refine AllReadyH.cons rfl (fun KK hK => ?_) AllReadyH.nil
          rw [if_pos (by rfl)]
          refine wp_append_any _ _ _ 41 41 rfl _ _ rfl rfl hr2'.out ?_
          refine hK.out _ _ (trivial) (fun hHeld => ?_)
          clear hK KK
          try simp only [Act.put, List.setIfInBounds_toArray, List.set_cons_zero, List.set_cons_succ]
          obtain ⟨gq, cq, rfl, hcq⟩ : ∃ g cp, q2 = .slice g 0 cp ∧ cp ≤ 9223372036854775807 := by
            obtain ⟨_, h0 | ⟨g, cp, cur, e1, _, _, h2, h3, _⟩⟩ := ho2'.out
            · exact ⟨none, 0, h0.1.trans (by rw [h0.2]), by omega⟩
            · exact ⟨_, cp, e1, by unfold maxLen at h3; omega⟩
          refine take_at (i := 9) (v := .int .i64 (0 : Int)) rfl rfl (by kernel_rfl) (by kernel_rfl) (by kernel_rfl) (fun _ _ _ h => h) (Or.inl ⟨by rfl, fun X _ => by go_simp⟩) hHeld ?_
          try simp only [Act.put, List.setIfInBounds_toArray, List.set_cons_zero, List.set_cons_succ]
          refine wpAnyH_done (by kernel_rfl) ?_ _
          go_wp2_with fail
          go_meet
          exact ⟨rfl, rfl, _, rfl, ho2', hx2'⟩
        · injection e1 with e1 e2 e3
          subst e1 e3
          have hco : w3.ownsRow B 27 4 (.slice (some ⟨g, 0, none⟩) m cp) m (evs es) := hown3.out
          have hsrc2 : Hid (SrcN 4 w3 (.slice (some ⟨g, 0, none⟩) c cp) c (evs (es.take c))) := src_take_ev hco c hcm
          have hcc : c ≤ cp := by omega
          have hdr : ∀ A, ((cp = c ∧ A = ⟨g, 0, none⟩) ∨ (cp ≠ c ∧ A = ⟨g, c * 4, none⟩)) → Hid (SrcN 4 (w3.drew.alloc (.cells #[] 27)) (.slice (some A) (m - c) (cp - c)) (m - c) (evs (es.drop c))) := fun A hA => (src_drop_ev hco c hcm A hA hcp1).below ((Below.refl _ _).drew.alloc (Nat.le_refl _) _)
          clear hco hh hcs hct
          by_cases hcc2 : cp = c
          · have hsrc1 := hdr ⟨g, 0, none⟩ (.inl ⟨hcc2, rfl⟩)
            clear hdr
            subst hcc2
            obtain rfl : m = cp := by omega
            rw [Nat.sub_self] at hsrc1
            refine wp_region_held_drew (S := fun _ => True) (by kernel_rfl) trivial (fun hHeld => ?_)
            refine take_at (i := 1) (v := .slice (some ⟨g, 0, none⟩) m m) rfl rfl (by kernel_rfl) (by kernel_rfl) (by kernel_rfl) (fun _ _ _ h => h) (Or.inl ⟨by rfl, fun X _ => by go_simp⟩) hHeld ?_
            try simp only [Act.put, List.setIfInBounds_toArray, List.set_cons_zero, List.set_cons_succ]
            refine take_at (i := 2) (v := .int .i64 (m : Int)) rfl rfl (by kernel_rfl) (by kernel_rfl) (by kernel_rfl) (fun _ _ _ h => h) (Or.inl ⟨by rfl, fun X _ => by go_simp⟩) hHeld ?_
            try simp only [Act.put, List.setIfInBounds_toArray, List.set_cons_zero, List.set_cons_succ]
            refine take_at (i := 3) (v := .slice (some ⟨g, 0, none⟩) 0 0) rfl rfl (by kernel_rfl) (by kernel_rfl) (by kernel_rfl) (fun _ _ _ h => h) (Or.inl ⟨by rfl, fun X _ => by go_simp⟩) hHeld ?_
            try simp only [Act.put, List.setIfInBounds_toArray, List.set_cons_zero, List.set_cons_succ]
            refine take_at (i := 5) (v := .slice (some ⟨g, 0, none⟩) m m) rfl rfl (by kernel_rfl) (by kernel_rfl) (by kernel_rfl) (fun _ _ _ h => h) (Or.inl ⟨by rfl, fun X _ => by go_simp⟩) hHeld ?_
            try simp only [Act.put, List.setIfInBounds_toArray, List.set_cons_zero, List.set_cons_succ]
            refine take_at (i := 6) (v := .int .i64 (m : Int)) rfl rfl (by kernel_rfl) (by kernel_rfl) (by kernel_rfl) (fun _ _ _ h => h) (Or.inl ⟨by rfl, fun X _ => by go_simp⟩) hHeld ?_
            try simp only [Act.put, List.setIfInBounds_toArray, List.set_cons_zero, List.set_cons_succ]
            refine take_at (i := 7) (v := .slice (some ⟨g, 0, none⟩) m m) rfl rfl (by kernel_rfl) (by kernel_rfl) (by kernel_rfl) (fun _ _ _ h => h) (Or.inl ⟨by rfl, fun X _ => by go_simp⟩) hHeld ?_
            try simp only [Act.put, List.setIfInBounds_toArray, List.set_cons_zero, List.set_cons_succ]
            refine take_at (i := 10) (v := .int .i64 0) rfl rfl (by kernel_rfl) (by kernel_rfl) (by kernel_rfl) (fun _ _ _ h => h) (Or.inl ⟨by rfl, fun X _ => by go_simp⟩) hHeld ?_
            try simp only [Act.put, List.setIfInBounds_toArray, List.set_cons_zero, List.set_cons_succ]
            refine wpAnyH_ready (rs := [0]) (by kernel_rfl) (by simp) ?_
            refine AllReadyH.cons rfl (fun KK hK => ?_) AllReadyH.nil
            rw [if_pos (by rfl)]
            go_simp
            refine hK.out _ _ (trivial) (fun hHeld => ?_)
            clear hK KK
            try simp only [Act.put, List.setIfInBounds_toArray, List.set_cons_zero, List.set_cons_succ]
            have hown0 : (w3.drew.alloc (.cells #[] 27)).ownsRow w3.heap.size 27 4 (.slice (some ⟨w3.heap.size, 0, none⟩) 0 0) 0 [] :=
              World.ownsRow_lit w3.drew #[] 0 (Nat.le_refl _) (by unfold maxLen; omega) (by simp)
            obtain ⟨q1, x1, hr1, ho1, hx1, _⟩ := run_append_srcN (P := Try.prog) (w3.drew.alloc (.cells #[] 27)) 4 w3.heap.size 41 41 27 i0 (.agg #[.int .i64 0, .int .i64 0, .int .i64 0, .int .u64 0]) 32 Try.underlying41 hi hz0 hz1 hz2 rfl (by decide) _ 0 [] hown0 _ 0 (evs (es.drop m)) (hsrc1.out) (evs_one _) (by unfold maxLen; omega) (by omega) (by show w3.heap.size ≤ (w3.drew.heap.push _).size; rw [Array.size_push]; exact Nat.le_succ _)
            rw [Nat.zero_add, List.nil_append] at ho1
            have hx1' : Below w3.heap.size w3 x1 := ((Below.refl _ _).drew.alloc (Nat.le_refl _) _).trans hx1
            obtain ⟨q2, x2, hr2, ho2, hx2, _⟩ := run_append_srcN (P := Try.prog) x1 4 w3.heap.size 41 41 27 i0 (.agg #[.int .i64 0, .int .i64 0, .int .i64 0, .int .u64 0]) 32 Try.underlying41 hi hz0 hz1 hz2 rfl (by decide) _ 0 (evs (es.drop m)) ho1 _ m (evs (es.take m)) ((hsrc2.out).below hx1') (evs_one _) (by unfold maxLen; omega) (by omega) hx1'.size
            have hx2' : Hid (Below w3.heap.size w3 x2) := hx1'.trans hx2
            have ho2' : Hid (x2.ownsRow w3.heap.size 27 4 q2 m (evs (es.drop m ++ es.take m))) := by
              have h : x2.ownsRow w3.heap.size 27 4 q2 m (evs (es.drop m ++ es.take m)) := by
                rw [evs_append]
                have e : 0 + m = m := by omega
                rw [e] at ho2
                exact ho2
              exact h
            have hr1' : Hid _ := hr1
            have hr2' : Hid _ := hr2
            clear hr1 hr2 ho1 ho2 hx1 hx2 hx1' hown0
            refine wpAnyH_ready (rs := [4]) (by kernel_rfl) (by simp) ?_
            refine AllReadyH.cons rfl (fun KK hK => ?_) AllReadyH.nil
            rw [if_pos (by rfl)]
            refine wp_append_any _ _ _ 41 41 rfl _ _ rfl rfl hr1'.out ?_
            refine hK.out _ _ (trivial) (fun hHeld => ?_)
            clear hK KK
            try simp only [Act.put, List.setIfInBounds_toArray, List.set_cons_zero, List.set_cons_succ]
            refine wpAnyH_ready (rs := [8]) (by kernel_rfl) (by simp) ?_
            refine AllReadyH.cons rfl (fun KK hK => ?_) AllReadyH.nil
            rw [if_pos (by rfl)]
            refine wp_append_any _ _ _ 41 41 rfl _ _ rfl rfl hr2'.out ?_
            refine hK.out _ _ (trivial) (fun hHeld => ?_)
            clear hK KK
            try simp only [Act.put, List.setIfInBounds_toArray, List.set_cons_zero, List.set_cons_succ]
            obtain ⟨gq, cq, rfl, hcq⟩ : ∃ g cp, q2 = .slice g m cp ∧ cp ≤ 9223372036854775807 := by
              obtain ⟨_, h0 | ⟨g, cp, cur, e1, _, _, h2, h3, _⟩⟩ := ho2'.out
              · exact ⟨none, 0, h0.1.trans (by rw [h0.2]), by omega⟩
              · exact ⟨_, cp, e1, by unfold maxLen at h3; omega⟩
            refine take_at (i := 9) (v := .int .i64 (m : Int)) rfl rfl (by kernel_rfl) (by kernel_rfl) (by kernel_rfl) (fun _ _ _ h => h) (Or.inl ⟨by rfl, fun X _ => by go_simp⟩) hHeld ?_
            try simp only [Act.put, List.setIfInBounds_toArray, List.set_cons_zero, List.set_cons_succ]
            refine wpAnyH_done (by kernel_rfl) ?_ _
            go_wp2_with fail
            go_meet
            exact ⟨rfl, rfl, _, rfl, ho2', hx2'⟩
          · have hsrc1 := hdr ⟨g, c * 4, none⟩ (.inr ⟨hcc2, rfl⟩)
            clear hdr
            refine wp_region_held_drew (S := fun _ => True) (by kernel_rfl) trivial (fun hHeld => ?_)
            refine take_at (i := 1) (v := .slice (some ⟨g, 0, none⟩) m cp) rfl rfl (by kernel_rfl) (by kernel_rfl) (by kernel_rfl) (fun _ _ _ h => h) (Or.inl ⟨by rfl, fun X _ => by go_simp⟩) hHeld ?_
            try simp only [Act.put, List.setIfInBounds_toArray, List.set_cons_zero, List.set_cons_succ]
            refine take_at (i := 2) (v := .int .i64 (c : Int)) rfl rfl (by kernel_rfl) (by kernel_rfl) (by kernel_rfl) (fun _ _ _ h => h) (Or.inl ⟨by rfl, fun X _ => by go_simp⟩) hHeld ?_
            try simp only [Act.put, List.setIfInBounds_toArray, List.set_cons_zero, List.set_cons_succ]
            refine take_at (i := 3) (v := .slice (some ⟨g, c * 4, none⟩) (m - c) (cp - c)) rfl rfl (by kernel_rfl) (by kernel_rfl) (by kernel_rfl) (fun _ _ _ h => h) (Or.inl ⟨by rfl, fun X _ => by go_simp⟩) hHeld ?_
            try simp only [Act.put, List.setIfInBounds_toArray, List.set_cons_zero, List.set_cons_succ]
            refine take_at (i := 5) (v := .slice (some ⟨g, 0, none⟩) m cp) rfl rfl (by kernel_rfl) (by kernel_rfl) (by kernel_rfl) (fun _ _ _ h => h) (Or.inl ⟨by rfl, fun X _ => by go_simp⟩) hHeld ?_
            try simp only [Act.put, List.setIfInBounds_toArray, List.set_cons_zero, List.set_cons_succ]
            refine take_at (i := 6) (v := .int .i64 (c : Int)) rfl rfl (by kernel_rfl) (by kernel_rfl) (by kernel_rfl) (fun _ _ _ h => h) (Or.inl ⟨by rfl, fun X _ => by go_simp⟩) hHeld ?_
            try simp only [Act.put, List.setIfInBounds_toArray, List.set_cons_zero, List.set_cons_succ]
            refine take_at (i := 7) (v := .slice (some ⟨g, 0, none⟩) c cp) rfl rfl (by kernel_rfl) (by kernel_rfl) (by kernel_rfl) (fun _ _ _ h => h) (Or.inl ⟨by rfl, fun X _ => by go_simp⟩) hHeld ?_
            try simp only [Act.put, List.setIfInBounds_toArray, List.set_cons_zero, List.set_cons_succ]
            refine take_at (i := 10) (v := .int .i64 0) rfl rfl (by kernel_rfl) (by kernel_rfl) (by kernel_rfl) (fun _ _ _ h => h) (Or.inl ⟨by rfl, fun X _ => by go_simp⟩) hHeld ?_
            try simp only [Act.put, List.setIfInBounds_toArray, List.set_cons_zero, List.set_cons_succ]
            refine wpAnyH_ready (rs := [0]) (by kernel_rfl) (by simp) ?_
            refine AllReadyH.cons rfl (fun KK hK => ?_) AllReadyH.nil
            rw [if_pos (by rfl)]
            go_simp
            refine hK.out _ _ (trivial) (fun hHeld => ?_)
            clear hK KK
            try simp only [Act.put, List.setIfInBounds_toArray, List.set_cons_zero, List.set_cons_succ]
            have hown0 : (w3.drew.alloc (.cells #[] 27)).ownsRow w3.heap.size 27 4 (.slice (some ⟨w3.heap.size, 0, none⟩) 0 0) 0 [] :=
              World.ownsRow_lit w3.drew #[] 0 (Nat.le_refl _) (by unfold maxLen; omega) (by simp)
            obtain ⟨q1, x1, hr1, ho1, hx1, _⟩ := run_append_srcN (P := Try.prog) (w3.drew.alloc (.cells #[] 27)) 4 w3.heap.size 41 41 27 i0 (.agg #[.int .i64 0, .int .i64 0, .int .i64 0, .int .u64 0]) 32 Try.underlying41 hi hz0 hz1 hz2 rfl (by decide) _ 0 [] hown0 _ (m - c) (evs (es.drop c)) (hsrc1.out) (evs_one _) (by unfold maxLen; omega) (by omega) (by show w3.heap.size ≤ (w3.drew.heap.push _).size; rw [Array.size_push]; exact Nat.le_succ _)
            rw [Nat.zero_add, List.nil_append] at ho1
            have hx1' : Below w3.heap.size w3 x1 := ((Below.refl _ _).drew.alloc (Nat.le_refl _) _).trans hx1
            obtain ⟨q2, x2, hr2, ho2, hx2, _⟩ := run_append_srcN (P := Try.prog) x1 4 w3.heap.size 41 41 27 i0 (.agg #[.int .i64 0, .int .i64 0, .int .i64 0, .int .u64 0]) 32 Try.underlying41 hi hz0 hz1 hz2 rfl (by decide) _ (m - c) (evs (es.drop c)) ho1 _ c (evs (es.take c)) ((hsrc2.out).below hx1') (evs_one _) (by unfold maxLen; omega) (by omega) hx1'.size
            have hx2' : Hid (Below w3.heap.size w3 x2) := hx1'.trans hx2
            have ho2' : Hid (x2.ownsRow w3.heap.size 27 4 q2 m (evs (es.drop c ++ es.take c))) := by
              have h : x2.ownsRow w3.heap.size 27 4 q2 m (evs (es.drop c ++ es.take c)) := by
                rw [evs_append]
                have e : (m - c) + c = m := by omega
                rw [e] at ho2
                exact ho2
              exact h
            have hr1' : Hid _ := hr1
            have hr2' : Hid _ := hr2
            clear hr1 hr2 ho1 ho2 hx1 hx2 hx1' hown0
            refine wpAnyH_ready (rs := [4]) (by kernel_rfl) (by simp) ?_
            refine AllReadyH.cons rfl (fun KK hK => ?_) AllReadyH.nil
            rw [if_pos (by rfl)]
            refine wp_append_any _ _ _ 41 41 rfl _ _ rfl rfl hr1'.out ?_
            refine hK.out _ _ (trivial) (fun hHeld => ?_)
            clear hK KK
            try simp only [Act.put, List.setIfInBounds_toArray, List.set_cons_zero, List.set_cons_succ]
            refine wpAnyH_ready (rs := [8]) (by kernel_rfl) (by simp) ?_
            refine AllReadyH.cons rfl (fun KK hK => ?_) AllReadyH.nil
            rw [if_pos (by rfl)]
            refine wp_append_any _ _ _ 41 41 rfl _ _ rfl rfl hr2'.out ?_
            refine hK.out _ _ (trivial) (fun hHeld => ?_)
            clear hK KK
            try simp only [Act.put, List.setIfInBounds_toArray, List.set_cons_zero, List.set_cons_succ]
            obtain ⟨gq, cq, rfl, hcq⟩ : ∃ g cp, q2 = .slice g m cp ∧ cp ≤ 9223372036854775807 := by
              obtain ⟨_, h0 | ⟨g, cp, cur, e1, _, _, h2, h3, _⟩⟩ := ho2'.out
              · exact ⟨none, 0, h0.1.trans (by rw [h0.2]), by omega⟩
              · exact ⟨_, cp, e1, by unfold maxLen at h3; omega⟩
            refine take_at (i := 9) (v := .int .i64 (m : Int)) rfl rfl (by kernel_rfl) (by kernel_rfl) (by kernel_rfl) (fun _ _ _ h => h) (Or.inl ⟨by rfl, fun X _ => by go_simp⟩) hHeld ?_
            try simp only [Act.put, List.setIfInBounds_toArray, List.set_cons_zero, List.set_cons_succ]
            refine wpAnyH_done (by kernel_rfl) ?_ _
            go_wp2_with fail
            go_meet
            exact ⟨rfl, rfl, _, rfl, ho2', hx2'⟩
    case rest =>
      obtain ⟨rfl, rfl, gv, rfl, hrot, hbx⟩ := hcut
      obtain ⟨rot, hrote⟩ : ∃ r, Hid (es.drop c ++ es.take c = r) := ⟨_, rfl⟩
      rw [hrote.out] at hrot
      have hrl : Hid (rot.length = m) := by
        have h : rot.length = m := by rw [← hrote.out, List.length_append, List.length_drop, List.length_take, hm.out]; omega
        exact h
      have hrlt : Hid (∀ x ∈ rot, x.l < 18446744073709551616) := fun x hx => by
        rw [← hrote.out] at hx
        rcases List.mem_append.1 hx with hx | hx
        · exact hlt.out x (List.mem_of_mem_drop hx)
        · exact hlt.out x (List.mem_of_mem_take hx)
      have hturn : Hid (putL n s K [] rot = putL n s K [] es) := by
        have h : putL n s K [] rot = putL n s K [] es := by rw [← hrote.out]; exact putL_turn n s K es c (by rw [hm.out]; omega)
        exact h
      have hP4 : Hid (Pan wc b1 o1 n s K (putL n s K [] es)) := hP3'.out.below hbx.out
      have hQ4 : Hid (Pan wc b2 b2 n s K (putL n s K [] (rot.take 0))) := by
        have h : Pan wc b2 b2 n s K (putL n s K [] (rot.take 0)) := by simpa [putL] using hQ3.out.below hbx.out
        exact h
      have hown4 : Hid (wc.ownsRow B 27 4 (.slice ga m cp) m (evs es)) := own_below hown3.out hbx.out
      have hbw4 : Hid (Below B w wc) := hbw3.out.trans (hbx.out.mono (by omega))
      have hzc : b2 < wc.heap.size := hQ4.out.lt
      have o1c : o1 < wc.heap.size := hP4.out.olt
      obtain ⟨gr, cr, hgv, hcr⟩ : ∃ g cp, u115 = .slice g m cp ∧ cp ≤ 9223372036854775807 := by
        obtain ⟨_, h0 | ⟨g, cp, cur, e1, _, _, h2, h3, _⟩⟩ := hrot.out
        · exact ⟨none, 0, h0.1.trans (by rw [h0.2]), by omega⟩
        · exact ⟨_, cp, e1, by unfold maxLen at h3; omega⟩
      have hrc : Hid (∀ t, t < m → ∃ g, gr = some ⟨g, 0, none⟩ ∧ b2 < g ∧ g < wc.heap.size ∧ EvAt wc g (t * 4) (eAt rot t)) := fun t ht => by
        have h := hrot.out
        obtain ⟨_, h0 | ⟨g, cp', cur, e1, hg, hh, _⟩⟩ := id h
        · omega
        · rw [hgv] at e1
          injection e1 with e1 _ e3
          subst e1
          rw [hgv] at h
          exact ⟨g, rfl, by omega, (Array.getElem?_eq_some_iff.1 hh).1, own_evat h t (by rw [hrl.out]; exact ht)⟩
      subst hgv
      clear hrot hrote hbx hP3' hQ3 hown3 hbw3
      go_wp2_with fail
      go_loopw [117] (fun i wr => ∃ t o2 : Nat, t ≤ m ∧ i = .int .i64 t ∧ Hid (Pan wr b2 o2 n s K (putL n s K [] (rot.take t))) ∧ (o2 = b2 ∨ wc.heap.size ≤ o2) ∧ Hid (Ch b2 b2 wc wr)) (fun i _ => m - (intOf i).toNat)
      case atStart => exact ⟨0, b2, Nat.zero_le _, rfl, hQ4, .inl rfl, Ch.refl _ _ _⟩
      case round =>
        obtain ⟨t, o2, ht, rfl, hQ, ho2, hch⟩ := hrel
        clear hQ4
        by_cases htm : t < m
        · as_aux_lemma =>
            obtain ⟨g, rfl, hg1, hg2, hev⟩ := hrc.out t htm
            have hev2 := hev.keep (hch.out.other g hg2 (by omega) (by omega))
            have hel := hrlt.out _ (eAt_mem rot t (by rw [hrl.out]; exact htm))
            have hsn : Hid (putE n s K (putL n s K [] (rot.take t)) (eAt rot t) = putL n s K [] (rot.take (t + 1))) := by
              have h : putE n s K (putL n s K [] (rot.take t)) (eAt rot t) = putL n s K [] (rot.take (t + 1)) := by
                rw [take_ev rot t (by rw [hrl.out]; exact htm), putL_snoc]
              exact h
            have hLl : (putL n s K [] (rot.take t)).length + 8 ≤ 1000000 := by
              have h := putL_len n s K (rot.take t) []
              rw [List.length_take, hrl.out] at h
              simp at h
              omega
            obtain ⟨e, hee⟩ : ∃ e, Hid (eAt rot t = e) := ⟨_, rfl⟩
            obtain ⟨L1, hL1⟩ : ∃ L1, Hid (putL n s K [] (rot.take t) = L1) := ⟨_, rfl⟩
            rw [hee.out] at hev2 hel hsn
            rw [hL1.out] at hQ hsn hLl
            clear hev hee hL1
            obtain ⟨c0, c1, c2, c3⟩ := hev2
            go_upto_region 20 with fail
            clear c0 c1 c2 c3
            have hwz : wc.heap.size ≤ wr.heap.size := hch.out.sz
            have o2l := hQ.out.olt
            refine world_gen (fun W => Hid (Pan W b2 o2 n s K L1) ∧ Hid (Evk W wr.heap.size e) ∧ Hid (Ch b2 b2 wc W)) ⟨hQ.out.below (below_alloc _ _), evk_new _ _, hch.out.alloc _⟩ ?_
            clear hQ hch
            rintro W ⟨hQ, hE, hch⟩
            generalize wr.heap.size = q at hE hwz o2l ⊢
            obtain ⟨c0, c1, c2, c3⟩ := hE.out.c
            go_wp2_with fail
            refine (put_one b2 o2 n s K L1 e _ hQ.out hel hLl).mono ?_
            rintro r W2 ⟨o3, rfl, hQ3, ho3, hch3⟩
            have hWz := hch.out.sz
            have hQ3' : Hid (Pan W2 b2 o3 n s K (putL n s K [] (rot.take (t + 1)))) := by
              have h : Pan W2 b2 o3 n s K (putL n s K [] (rot.take (t + 1))) := by rw [← hsn.out]; exact hQ3
              exact h
            have hch4 : Hid (Ch b2 b2 wc W2) := hch.out.trans hch3 ho2
            have ho3' : o3 = b2 ∨ wc.heap.size ≤ o3 := by omega
            clear hQ3 hch3 hQ hE hch c0 c1 c2 c3
            go_wp2_with fail
            go_roundw
            case rel => exact ⟨t + 1, o3, by omega, by go_num, hQ3', ho3', hch4⟩
            case measure => simp [intOf]; omega
        · obtain rfl : t = m := by omega
          obtain ⟨L, hL⟩ : ∃ L, Hid (putL n s K [] es = L) := ⟨_, rfl⟩
          have hQ5 : Hid (Pan wr b2 o2 n s K L) := by
            have h := hQ.out
            rw [List.take_of_length_le (by rw [hrl.out]; exact Nat.le_refl _), hturn.out, hL.out] at h
            exact h
          have hP5 : Hid (Pan wr b1 o1 n s K L) := by
            have h := hP4.out.keep hch.out (by omega) (by omega) (by omega) (by omega)
            rw [hL.out] at h
            exact h
          have hown5 : Hid (wr.ownsRow B 27 4 (.slice ga t cp) t (evs es)) := own_keep hown4.out fun k hk => by
            have := hgl.out k hk
            exact hch.out.other k (by omega) (by omega) (by omega)
          have hbw5 : Hid (Below B w wr) := hbw4.out.trans (hch.out.below (by omega) (by omega) (by omega))
          have hzr := hch.out.sz
          have hpane : Hid (∀ p ∈ L, p.c = cntT n p.s p.k es ∧ p.l = labT n p.s p.k es ∧ 1 ≤ p.c ∧ 0 ≤ p.s ∧ p.s ≤ 1099511627776 ∧ p.c ≤ 120) := fun p hp => by
            rw [← hL.out] at hp
            have h1 := pane_of (right_mk hs1 hn1 (by omega) (by omega)) (by rw [hm.out]; omega) (fun e he => by have := (hevb.out e he).1; omega) hp
            have h2 := c_le n s K es (by rw [hm.out]; omega) p hp
            rw [hL.out] at hp
            have h3 := (hP5.out.okl.2 p hp).1
            exact ⟨h1.1, h1.2.1, h1.2.2.1, h3.1, h3.2.1, h2.2⟩
          have hsum : Hid (sumC L = U) := by
            have h : sumC L = U := by rw [← hL.out, sumC_putL n s K es (by rw [hm.out]; omega), hU.out]
            exact h
          have hsrt : Hid (Srt L) := hP5.out.okl.1
          have hLl : L.length ≤ 120 := by
            have h := putL_len n s K es []
            rw [hm.out, hL.out] at h
            simp at h
            omega
          clear hQ hch hP4 hown4 hbw4 hrc hL hturn hrl hrlt
          obtain ⟨v5, hv5⟩ : ∃ v5, v5 = wr := ⟨_, rfl⟩
          subst hv5
          go_wp2_with fail
          refine (open_is b1 o1 n s K L _ hP5.out (by omega)).mono ?_
          rintro r v6 ⟨ur, rfl, hur, hb6⟩
          have hP6 : Hid (Pan v6 b1 o1 n s K L) := hP5.out.below hb6
          have hQ6 : Hid (Pan v6 b2 o2 n s K L) := hQ5.out.below hb6
          have hown6 : Hid (v6.ownsRow B 27 4 (.slice ga t cp) t (evs es)) := own_below hown5.out hb6
          have hbw6 : Hid (Below B w v6) := hbw5.out.trans (hb6.mono (by omega))
          have hrd6 : Hid (RdR v6 ur L) := rdr_own hur
          have hz6 := hb6.size
          clear hur hb6 hP5 hQ5 hown5 hbw5
          obtain ⟨_, ra, rc, rfl, hrc1, hrc2, hrcell⟩ := id hrd6.out
          have hrcell' : Hid (L.length ≠ 0 → ∃ b off, ra = some ⟨b, off, none⟩ ∧ b < v6.heap.size ∧ ∀ j, j < L.length → RwAt v6 b (off + j * 5) (pAt L j)) := hrcell
          have hecell : Hid (∀ j, j < t → ∃ g, ga = some ⟨g, 0, none⟩ ∧ g < v6.heap.size ∧ EvAt v6 g (j * 4) (eAt es j)) := fun j hj => by
            have h := hown6.out
            obtain ⟨_, h0 | ⟨g, cp', cur, e1, hg, hh, _⟩⟩ := id h
            · omega
            · injection e1 with e1 _ e3
              subst e1
              exact ⟨g, rfl, (Array.getElem?_eq_some_iff.1 hh).1, own_evat h j (by rw [hm.out]; exact hj)⟩
          clear hrcell
          obtain ⟨N, hN⟩ : ∃ N, Hid (L.length = N) := ⟨_, rfl⟩
          rw [hN.out] at hLl hrc1 hrcell' ⊢
          go_wp2_with fail
          go_loopw [24, 130] (fun sm i wr => ∃ k : Nat, k ≤ N ∧ i = .int .i64 k ∧ sm = .int .i64 (sumC (L.take k)) ∧ Hid (Below v6.heap.size v6 wr)) (fun _ i _ => N - (intOf i).toNat)
          case atStart => exact ⟨0, Nat.zero_le _, rfl, rfl, Below.refl _ _⟩
          case round =>
            obtain ⟨k, hk, rfl, rfl, hbk⟩ := hrel
            by_cases hkN : k < N
            · as_aux_lemma =>
                obtain ⟨rb, roff, rfl, hrb, hrcs⟩ := hrcell'.out (by omega)
                have hkL : k < L.length := by rw [hN.out]; exact hkN
                obtain ⟨c0, c1, c2, c3, c4⟩ := (hrcs k hkN).keep (hbk.out.block rb hrb)
                obtain ⟨f1, f2, f3, f4, f5, f6⟩ := hpane.out (pAt L k) (pAt_mem L k hkL)
                have hsn : Hid (sumC (L.take (k + 1)) = sumC (L.take k) + (pAt L k).c) := by
                  have h : sumC (L.take (k + 1)) = sumC (L.take k) + (pAt L k).c := by
                    rw [take_pn L k hkL, sumC_append]; simp [sumC]
                  exact h
                have hSb := sumC_take L (fun p hp => by have := hpane.out p hp; omega) k
                have hprev : Hid (0 < k → ∃ k', k = k' + 1 ∧ RwAt v6 rb (roff + k' * 5) (pAt L k') ∧ lt (pAt L k') (pAt L k)) := fun h => ⟨k - 1, by omega, hrcs (k - 1) (by omega), srt_at hsrt.out (by omega) hkL⟩
                obtain ⟨⟨ps, pk, pc, pvv, pl⟩, hpe⟩ : ∃ p, pAt L k = p := ⟨_, rfl⟩
                rw [hpe] at c0 c1 c2 c3 c4 f1 f2 f3 f4 f5 f6 hsn hprev
                simp only at c0 c1 c2 c3 c4 f1 f2 f3 f4 f5 f6 hsn
                have F1 : Hid (pc = cntT n ps pk es) := f1
                have F2 : Hid (pl = labT n ps pk es) := f2
                obtain ⟨S, hS⟩ : ∃ S, Hid (sumC (L.take k) = S) := ⟨_, rfl⟩
                rw [hS.out] at hSb hsn ⊢
                clear hpe f1 f2 hrcs hkL hS
                go_upto_region 28 with fail
                clear c0 c1 c2 c3 c4
                refine world_gen (fun W => Hid (Rwk W wr.heap.size ⟨ps, pk, pc, pvv, pl⟩) ∧ Hid (Below v6.heap.size v6 W)) ⟨rwk_new wr ⟨ps, pk, pc, pvv, pl⟩, hbk.out.alloc hbk.out.size _⟩ ?_
                clear hbk
                rintro W ⟨hR, hbW⟩
                generalize wr.heap.size = q at hR ⊢
                have hzW := hbW.out.size
                have hqW := hR.out.lt
                go_wp2_with fail
                go_loopw [27, 28, 141] (fun lb ow i wx => ∃ j : Nat, j ≤ t ∧ i = .int .i64 j ∧ lb = .int .u64 (labT n ps pk (es.take j) : Nat) ∧ ow = .int .i64 (cntT n ps pk (es.take j) : Nat) ∧ Hid (Below W.heap.size W wx)) (fun _ _ i _ => t - (intOf i).toNat)
                case atStart => exact ⟨0, Nat.zero_le _, rfl, rfl, rfl, Below.refl _ _⟩
                case round =>
                  obtain ⟨j, hjt, rfl, rfl, rfl, hbx⟩ := hrel
                  have hcl : cntT n ps pk (es.take j) ≤ 15 := by
                    have := cntT_le n ps pk (es.take j)
                    rw [List.length_take] at this
                    omega
                  have hll := labT_lt n ps pk (es.take j) (fun e he => hlt.out e (List.mem_of_mem_take he))
                  have d0 := (hR.out.below hbx.out).c
                  obtain ⟨d0, d1, d2, d3, d4⟩ := d0
                  have hqx : q < wr.heap.size := Nat.lt_of_lt_of_le hqW hbx.out.size
                  by_cases hjlt : j < t
                  · as_aux_lemma =>
                      obtain ⟨g, rfl, hg1, hev⟩ := hecell.out j hjlt
                      have hev2 := (hev.keep (hbW.out.block g hg1)).keep (hbx.out.block g (by omega))
                      have hmem := eAt_mem es j (by rw [hm.out]; exact hjlt)
                      have hel := hlt.out _ hmem
                      have heb := (hevb.out _ hmem).1
                      have hs1' : Hid (cntT n ps pk (es.take (j + 1)) = cntT n ps pk (es.take j) + (if inT n ps pk (eAt es j) = true then 1 else 0)) := by
                        have h := cntT_snoc n ps pk (es.take j) (eAt es j)
                        rw [← take_ev es j (by rw [hm.out]; exact hjlt)] at h
                        exact h
                      have hs2' : Hid (labT n ps pk (es.take (j + 1)) = if inT n ps pk (eAt es j) = true then labT n ps pk (es.take j) ||| (eAt es j).l else labT n ps pk (es.take j)) := by
                        have h := labT_snoc n ps pk (es.take j) (eAt es j)
                        rw [← take_ev es j (by rw [hm.out]; exact hjlt)] at h
                        exact h
                      obtain ⟨⟨et, ek, ev, el⟩, hee⟩ : ∃ e, eAt es j = e := ⟨_, rfl⟩
                      rw [hee] at hev2 hel heb hs1' hs2'
                      simp only at hel heb
                      clear hee hev hmem
                      obtain ⟨A, hA⟩ : ∃ A, Hid (cntT n ps pk (es.take j) = A) := ⟨_, rfl⟩
                      obtain ⟨D, hD⟩ : ∃ D, Hid (labT n ps pk (es.take j) = D) := ⟨_, rfl⟩
                      rw [hA.out] at hcl hs1' ⊢
                      rw [hD.out] at hll hs2' ⊢
                      obtain ⟨c0, c1, c2, c3⟩ := hev2
                      simp only at c0 c1 c2 c3
                      by_cases hin : ek = pk ∧ ps ≤ et ∧ et < ps + n
                      · obtain ⟨rfl, h1, h2⟩ := hin
                        have hin' : inT n ps ek ⟨et, ek, ev, el⟩ = true := by unfold inT; exact decide_eq_true ⟨rfl, h1, h2⟩
                        have hs1 : Hid (cntT n ps ek (es.take (j + 1)) = A + 1) := by
                          have h := hs1'.out
                          rw [if_pos hin'] at h
                          exact h
                        have hs2 : Hid (labT n ps ek (es.take (j + 1)) = D ||| el) := by
                          have h := hs2'.out
                          rw [if_pos hin'] at h
                          exact h
                        clear hin' hs1' hs2'
                        go_wp2_with fail
                        go_roundw
                        case rel => exact ⟨j + 1, by omega, by go_num, by rw [hs2.out]; exact val_int (u64_or_nat D el hll hel), by rw [hs1.out]; go_num, hbx.out.alloc hbx.out.size _⟩
                        case measure => simp [intOf]; omega
                      · have hin' : ¬ inT n ps pk ⟨et, ek, ev, el⟩ = true := by unfold inT; rw [decide_eq_true_iff]; exact hin
                        have hs1 : Hid (cntT n ps pk (es.take (j + 1)) = A) := by
                          have h := hs1'.out
                          rw [if_neg hin'] at h
                          exact h
                        have hs2 : Hid (labT n ps pk (es.take (j + 1)) = D) := by
                          have h := hs2'.out
                          rw [if_neg hin'] at h
                          exact h
                        clear hin' hs1' hs2'
                        by_cases hk1 : ek = pk
                        · subst hk1
                          by_cases hk2 : ps ≤ et
                          · have hk3 : ¬ et < ps + n := fun h => hin ⟨rfl, hk2, h⟩
                            clear hin
                            go_wp2_with fail
                            go_roundw
                            case rel => exact ⟨j + 1, by omega, by go_num, by rw [hs2.out], by rw [hs1.out], hbx.out.alloc hbx.out.size _⟩
                            case measure => simp [intOf]; omega
                          · clear hin
                            go_wp2_with fail
                            go_roundw
                            case rel => exact ⟨j + 1, by omega, by go_num, by rw [hs2.out], by rw [hs1.out], hbx.out.alloc hbx.out.size _⟩
                            case measure => simp [intOf]; omega
                        · have hk2 : (ek == pk) = false := by simpa using hk1
                          clear hin
                          go_wp2_with fail
                          go_roundw
                          case rel => exact ⟨j + 1, by omega, by go_num, by rw [hs2.out], by rw [hs1.out], hbx.out.alloc hbx.out.size _⟩
                          case measure => simp [intOf]; omega
                  · obtain rfl : j = t := by omega
                    have hec : Hid ((cntT n ps pk (es.take j) : Int) = pc ∧ labT n ps pk (es.take j) = pl) := by
                      have h : (cntT n ps pk (es.take j) : Int) = pc ∧ labT n ps pk (es.take j) = pl := by
                        rw [List.take_of_length_le (by rw [hm.out]; exact Nat.le_refl _)]
                        exact ⟨F1.out.symm, F2.out.symm⟩
                      exact h
                    rw [hec.out.1, hec.out.2]
                    clear hec hcl hll
                    simp only at d0 d1 d2 d3 d4
                    have hn8 : ¬ pc < 1 := by omega
                    have hn9 : decide (pc < 1) = false := decide_eq_false hn8
                    clear hn8
                    by_cases hk0 : k = 0
                    · as_aux_lemma =>
                        subst hk0
                        go_wp2_with fail
                        go_quiet (fail)
                        go_wp2_with fail
                        go_roundw
                        case rel => exact ⟨1, by omega, by go_num, by rw [hsn.out], below_call hbW.out (below_drewN hbx.out _)⟩
                        case measure => simp [intOf]; omega
                    · obtain ⟨k', rfl, hrw, hlt2⟩ := hprev.out (by omega)
                      have hrw2 := (hrw.keep (hbW.out.block rb hrb)).keep (hbx.out.block rb (by omega))
                      obtain ⟨⟨qs, qk, qc, qv, ql⟩, hqe⟩ : ∃ p, pAt L k' = p := ⟨_, rfl⟩
                      rw [hqe] at hrw2 hlt2
                      clear hqe hrw
                      obtain ⟨g0, g1, _, _, _⟩ := hrw2
                      unfold lt at hlt2
                      simp only at g0 g1 hlt2
                      have hk1 : (((k' + 1 : Nat) : Int) - 1) = (k' : Int) := by omega
                      have hk2 : decide ((0 : Int) < ((k' + 1 : Nat) : Int)) = true := decide_eq_true (by omega)
                      have hk4 : k' < N := by omega
                      have hk5 : IntKind.i64.wrap (k' : Int) = (k' : Int) := by rw [IntKind.wrap_i64]; omega
                      rcases hlt2 with h | ⟨rfl, h⟩
                      · as_aux_lemma =>
                          have h1 : decide (ps < qs) = false := decide_eq_false (by omega)
                          have h2 : (qs == ps) = false := by simp; omega
                          clear h
                          go_wp2_with fail
                          go_quiet (fail)
                          go_wp2_with fail
                          go_roundw
                          case rel => exact ⟨k' + 1 + 1, by omega, by go_num, by rw [hsn.out], below_call hbW.out (below_drewN hbx.out _)⟩
                          case measure => simp [intOf]; omega
                      · as_aux_lemma =>
                          have h1 : decide (pk ≤ qk) = false := decide_eq_false (by omega)
                          have h2 : (qs == qs) = true := by simp
                          clear h
                          go_wp2_with fail
                          go_quiet (fail)
                          go_wp2_with fail
                          go_roundw
                          case rel => exact ⟨k' + 1 + 1, by omega, by go_num, by rw [hsn.out], below_call hbW.out (below_drewN hbx.out _)⟩
                          case measure => simp [intOf]; omega
            · as_aux_lemma =>
                obtain rfl : k = N := by omega
                have hP7 : Hid (Pan wr b1 o1 n s K L) := hP6.out.below hbk.out
                have hQ7 : Hid (Pan wr b2 o2 n s K L) := hQ6.out.below hbk.out
                have hrd7 : Hid (RdR wr (.slice ra k rc) L) := by
                  have h := hrd6.out.below hbk.out
                  rw [hN.out] at h
                  exact h
                have hse : Hid (sumC (L.take k) = (U : Int)) := by
                  have h : sumC (L.take k) = (U : Int) := by rw [List.take_of_length_le (by rw [hN.out]; exact Nat.le_refl _)]; exact hsum.out
                  exact h
                have hb7 : Hid (Below B w wr) := hbw6.out.trans (hbk.out.mono (by omega))
                have hz7 : B ≤ wr.heap.size := by have := hbk.out.size; omega
                rw [hse.out]
                clear hP6 hQ6 hrd6 hbk hbw6 hse
                go_wp2_with fail
                refine (open_is b2 o2 n s K L _ hQ7.out (by have := hN.out; omega)).mono ?_
                rintro r x1 ⟨uq, rfl, hu, hx1⟩
                have hu1 : Hid (RdR x1 uq L) := rdr_own hu
                have hrd8 : Hid (RdR x1 (.slice ra k rc) L) := hrd7.out.below hx1
                have hP8 : Hid (Pan x1 b1 o1 n s K L) := hP7.out.below hx1
                have hb8 : Hid (Below B w x1) := hb7.out.trans (hx1.mono hz7)
                have hz8 : B ≤ x1.heap.size := by have := hx1.size; omega
                clear hu hx1 hrd7 hP7 hb7 hQ7 hz7
                go_wp2_with fail
                refine (same_r uq _ L _ hu1.out hrd8.out).mono ?_
                rintro r x2 ⟨rfl, hx2⟩
                have hP9 : Hid (Pan x2 b1 o1 n s K L) := hP8.out.below hx2
                have hb9 : Hid (Below B w x2) := hb8.out.trans (hx2.mono hz8)
                have hz9 : B ≤ x2.heap.size := by have := hx2.size; omega
                clear hx2 hu1 hrd8 hP8 hb8 hz8
                go_wp2_with fail
                refine (len_is b1 o1 n s K L k _ hP9.out hN.out).mono ?_
                rintro r x3 ⟨rfl, he⟩; obtain rfl := he.symm; clear he
                go_wp2_with fail
                refine (runs_is _).mono ?_
                rintro r x4 ⟨rfl, hx4⟩
                have hb10 : Hid (Below B w x4) := hb9.out.trans (hx4.mono hz9)
                clear hx4 hb9 hP9
                go_wp2_with fail
                go_ret
                exact ⟨rfl, by rw [hB.out]; exact hb10.out⟩

end Go.Proofs.Ythnkhijabfnndaa
