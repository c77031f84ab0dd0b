/- WholeMarks, walked. -/
import Derived.Test.YtombgbdplafooaaWMix
import Derived.Deep.QuietTactic
import Derived.BigQuiet
namespace Go.Proofs.Ytombgbdplafooaa
open Go.RowKit M
open O (RdO Kpk Pik Small Ints)
open O.MO (Oq Pq rightP)
set_option linter.unusedVariables false
set_option linter.unusedSimpArgs false
attribute [local go_sem ↓] Go.wp_at_zero Go.wp_at_succ

/-- Two lists behind the call's own, beside an input's block. -/
theorem mks_lt {p : Pq} {last : Int} {ms ps : List Inp} (h : Mks p last ms ps) : 0 ≤ last ∧ last ≤ 120 := ⟨h.l0, h.sim.l1⟩
theorem lab_two {ms ps : List Inp} {e : Ev} (h : (∀ i ∈ ms, i.e.l < 18446744073709551616) ∧ (∀ i ∈ ps, i.e.l < 18446744073709551616)) (he : e.l < 18446744073709551616) : (∀ i ∈ ms ++ [(⟨false, e⟩ : Inp)], i.e.l < 18446744073709551616) ∧ (∀ i ∈ ps ++ [(⟨false, e⟩ : Inp)], i.e.l < 18446744073709551616) := by
  refine ⟨fun i hi => ?_, fun i hi => ?_⟩
  · rcases List.mem_append.1 hi with h1 | h1
    · exact h.1 i h1
    · rw [List.mem_singleton.1 h1]; exact he
  · rcases List.mem_append.1 hi with h1 | h1
    · exact h.2 i h1
    · rw [List.mem_singleton.1 h1]; exact he

set_option maxHeartbeats 8000000 in
set_option maxRecDepth 100000 in
theorem wholeMarks_walk (k : KeepIn) (la : Option Addr) (ll lc : Nat)  (w : World) (hk : IsKeep w k) (hI : Ins4 w la ll lc)  :
    Calls Try.prog 10 #[kin k, .slice la ll lc] w fun e w' => e = .returned (.bool true) ∧ Below w.heap.size w w' := by
  obtain ⟨ao, lo, co, an, ln, cn, kn, ks, kg, kk, kf⟩ := k
  unfold kin
  obtain ⟨hk1, hk2⟩ := hk
  simp only at hk1 hk2
  have hI' : Hid (Ins4 w la ll lc) := hI
  clear hI
  go_enter Try.func10, Try.ntmps10
  go_upto_region 1 with fail
  refine world_gen (fun W => Hid (Kpk W w.heap.size (.slice ao lo co) (.slice an ln cn) kn ks kg kk kf) ∧ Hid (Ints W ao lo co) ∧ Hid (Ints W an ln cn) ∧ Hid (Below w.heap.size w W)) ⟨O.kpk_new _ _ _ _ _ _ _ _, hk1.call (below_alloc _ _), hk2.call (below_alloc _ _), below_alloc _ _⟩ ?_
  clear hk1 hk2
  rintro W ⟨hK, hk1, hk2, hB⟩
  obtain ⟨g0, hg0⟩ : ∃ x, Hid (w.heap.size = x) := ⟨_, rfl⟩
  rw [hg0.out] at hK hB ⊢
  have c0 := hK.out.c0
  have c1 := hK.out.c1
  have c2 := hK.out.c2
  have c3 := hK.out.c3
  have c4 := hK.out.c4
  have c5 := hK.out.c5
  have c6 := hK.out.c6
  go_wp2_with fail
  refine (O.keep_any ao lo co an ln cn kn ks kg kk kf _ hk1.out hk2.out).mono ?_
  rintro e W1 ⟨⟨os, pn, ps, pa, pk, pf⟩, u, hS, he, ho, hu, b1⟩
  simp only at he ho
  subst he
  obtain ⟨ua, uc, rfl⟩ := own_len ho
  have hS' : Hid (Small ⟨os, pn, ps, pa, pk, pf⟩) := hS
  have hO : Hid (OpsIn W1 (.slice ua os.length uc) os) := ⟨O.own_base ho (Nat.zero_le _), (small_new hS).2.2.1⟩
  have hWz : g0 ≤ W.heap.size := by have := hB.out.size; have := hg0.out; omega
  replace hB : Hid (Below g0 w W1) := hB.out.trans (b1.mono hWz)
  clear hK hk1 hk2 c0 c1 c2 c3 c4 c5 c6 ho hu b1 hS
  go_upto_region 2 with fail
  refine world_gen (fun X => Hid (Pik X W1.heap.size (.slice ua os.length uc) pn ps pa pk pf) ∧ Hid (OpsIn X (.slice ua os.length uc) os) ∧ Hid (Below g0 w X) ∧ W1.heap.size < X.heap.size) ⟨O.pik_new _ _ _ _ _ _ _, hO.out.below (below_alloc _ _), hB.out.alloc (by have := hB.out.size; have := hg0.out; omega) _, by simp⟩ ?_
  have hgw : g0 ≤ W1.heap.size := by have := hB.out.size; have := hg0.out; omega
  clear hO hB
  generalize W1.heap.size = gp at hgw ⊢
  rintro W0 ⟨hP, hO, hB, hgp⟩
  go_wp2_with fail
  refine (inputs_is la ll lc _ (hI'.out.below hB.out (Nat.le_of_eq hg0.out) hB.out.size)).mono ?_
  rintro e W3 ⟨iu, is, rfl, hl25, hG, ho, b3⟩
  obtain ⟨ia, ic, rfl⟩ := own_len ho
  obtain ⟨qi, hrd, hq1, hq3, hq4⟩ := rdi_own ho (fun i hi => (hG i hi).lt) b3.size
  have hG' : Hid (∀ i ∈ is, Good i) := hG
  have hE : Hid (WE w W3 g0 gp (.slice ua os.length uc) ⟨os, pn, ps, pa, pk, pf⟩ qi (.slice ia is.length ic) is) := ⟨hP.out.call b3, hO.out.below b3, hrd, hB.out.trans (b3.mono (by omega)), hgw, by have := b3.size; omega, hq4⟩
  have hown : Hid (W3.ownsRow W0.heap.size 71 5 (.slice ia is.length ic) is.length (ins is)) := ho
  have hz3 : W0.heap.size ≤ W3.heap.size := b3.size
  clear hP hO hB hrd hG ho b3 hq3 hq4
  obtain ⟨m, hm⟩ : ∃ m, Hid (is.length = m) := ⟨_, rfl⟩
  rw [hm.out] at hl25 hE hown ⊢
  obtain ⟨qi', hE1, hqi⟩ := hE.out.some
  replace hE : Hid (WE w W3 g0 gp (.slice ua os.length uc) ⟨os, pn, ps, pa, pk, pf⟩ qi' (.slice ia m ic) is) := hE1
  clear hE1 hown hz3
  obtain ⟨i0, hi, hx0, hx1, hx2⟩ := info_parts Try.info71
  obtain ⟨B, hB⟩ : ∃ B, Hid (W3.heap.size = B) := ⟨_, rfl⟩
  have hBg : gp < B ∧ qi' < B := ⟨by have := hE.out.hp; have := hB.out; omega, by have := hB.out; omega⟩
  have hBu : Hid (∀ k, (Value.slice ua os.length uc).ownBlock = some k → k < B) := fun k hk => by have h := hE.out.O.lt k hk; have := hB.out; omega
  clear hqi hq1
  go_wp2_with fail
  go_loopw [6, 7, 8, 19] (fun l u v i wr => ∃ (j : Nat) (last : Int) (ms ps' : List Inp), j ≤ m ∧ i = .int .i64 j ∧ l = .int .i64 last ∧ ms.length ≤ j ∧ ps'.length ≤ j ∧ Hid (Mks ⟨os, pn, ps, pa, pk, pf⟩ last ms ps') ∧ Hid ((∀ i ∈ ms, i.e.l < 18446744073709551616) ∧ (∀ i ∈ ps', i.e.l < 18446744073709551616)) ∧ Hid (Two wr B 71 5 u v ms.length ps'.length (ins ms) (ins ps')) ∧ Hid (WE w wr g0 gp (.slice ua os.length uc) ⟨os, pn, ps, pa, pk, pf⟩ qi' (.slice ia m ic) is) ∧ B ≤ wr.heap.size) (fun _ _ _ i _ => m - (intOf i).toNat)
  case atStart => exact ⟨0, 0, [], [], Nat.zero_le _, rfl, rfl, Nat.le_refl _, Nat.le_refl _, mks_start _, ⟨(fun i h => by cases h), (fun i h => by cases h)⟩, two_nil _ _ _ _, hE, Nat.le_of_eq hB.out.symm⟩
  case round =>
    obtain ⟨j, last, ms, ps', hj, rfl, rfl, hml, hpl, hM, hlabs, hT, hE, hBz⟩ := hrel
    by_cases hlt : j < m
    · have hjl : j < is.length := by rw [hm.out]; exact hlt
      obtain ⟨hl, _, ao', cap', he', hlc, hcm', hcell⟩ := hE.out.I
      injection he' with he1 he2 he3
      subst he1 he3
      obtain ⟨off, rfl, hgb, hrow⟩ := hcell (by omega)
      have hat := hrow j hjl
      have hgd := hG'.out _ (iAt_mem is j hjl)
      obtain ⟨x, hx⟩ : ∃ x, Hid (iAt is j = x) := ⟨_, rfl⟩
      rw [hx.out] at hat hgd
      have hgd' : Hid (Good x) := hgd
      clear hcell hrow hl hlc hcm' he2 hgb hx hgd hjl
      obtain ⟨d0, d1, d2, d3, d4⟩ := hat
      go_upto_region 7 with fail
      clear d0 d1 d2 d3 d4
      refine world_gen (fun X => Hid (Ink X wr.heap.size x) ∧ Hid (Two X B 71 5 u7 u8 ms.length ps'.length (ins ms) (ins ps')) ∧ Hid (WE w X g0 gp (.slice ua os.length uc) ⟨os, pn, ps, pa, pk, pf⟩ qi' (.slice (some ⟨qi', off, none⟩) m ic) is) ∧ Hid (∀ k, u7.ownBlock = some k → k < wr.heap.size) ∧ Hid (∀ k, u8.ownBlock = some k → k < wr.heap.size) ∧ wr.heap.size < X.heap.size) ⟨ink_new _ _, hT.out.alloc _, hE.out.alloc _, fun k hk => (hT.out.hu.lt k hk).2, fun k hk => (hT.out.hv.lt k hk).2, by simp⟩ ?_
      clear hT hE
      rintro X ⟨hK, hT, hE, hU7, hU8, hXz⟩
      generalize wr.heap.size = gi at hK hBz hXz hU7 hU8 ⊢
      obtain ⟨mk, ⟨et, ek, ev, el⟩⟩ := x
      obtain ⟨c0, c1, c2, c3, c4⟩ := hK.out.c
      simp only at c0 c1 c2 c3 c4
      cases mk with
      | true =>
        go_wp2_with (at_builtin; refine wpList_append_srcF _ (by rfl) _ _ 55 rfl 5 B 71 i0 izero 40 Try.underlying55 hi hx0 hx1 hx2 rfl (by decide) u7 ms.length (ins ms) rfl (hT.out.alloc _).hu (.slice (some ⟨X.heap.size, 0, none⟩) 1 1) 1 (ins [(⟨true, ⟨last, 0, 0, 0⟩⟩ : Inp)]) rfl (in_src X ⟨true, ⟨last, 0, 0, 0⟩⟩ _ rfl) (ins_one _) ?c1 ?c2 ?c3 ?_)
        case c1 => unfold maxLen; omega
        case c2 => omega
        case c3 => first | omega | (simp; omega)
        intro v5 W5 o5 b5 g5 f5
        have hS5 : X.heap.size < W5.heap.size := Nat.lt_of_lt_of_le (by simp) b5.size
        have hE5 : Hid (WE w W5 g0 gp (.slice ua os.length uc) ⟨os, pn, ps, pa, pk, pf⟩ qi' (.slice (some ⟨qi', off, none⟩) m ic) is) := (hE.out.alloc _).keep b5 b5.size hBg.1 hBu.out hBg.2 (by simp; omega)
        have hT5 : Hid (Two W5 B 71 5 v5 u8 (ms ++ [(⟨true, ⟨last, 0, 0, 0⟩⟩ : Inp)]).length ps'.length (ins (ms ++ [(⟨true, ⟨last, 0, 0, 0⟩⟩ : Inp)])) (ins ps')) := (hT.out.alloc _).left (by rw [ins_append, List.length_append]; exact o5) g5 (fun k hk => by have h := f5 k hk; simpa using h)
        have hM5 : Hid (Mks ⟨os, pn, ps, pa, pk, pf⟩ last (ms ++ [(⟨true, ⟨last, 0, 0, 0⟩⟩ : Inp)]) ps') := mks_mark hM.out
        have hl5 : Hid ((∀ i ∈ ms ++ [(⟨true, ⟨last, 0, 0, 0⟩⟩ : Inp)], i.e.l < 18446744073709551616) ∧ (∀ i ∈ ps', i.e.l < 18446744073709551616)) := ⟨fun i hi => by
          rcases List.mem_append.1 hi with h | h
          · exact hlabs.out.1 i h
          · rw [List.mem_singleton.1 h]; show (0 : Nat) < 18446744073709551616; decide, hlabs.out.2⟩
        have hlen5 : (ms ++ [(⟨true, ⟨last, 0, 0, 0⟩⟩ : Inp)]).length ≤ j + 1 := by rw [List.length_append]; simp; omega
        clear o5 b5 g5 f5 hE hT hK hM hlabs c0 c1 c2 c3 c4
        go_wp2_with fail
        go_roundw
        case rel => exact ⟨j + 1, last, _, ps', by omega, by go_num, rfl, hlen5, by omega, hM5, hl5, hT5, hE5, by omega⟩
        case measure => simp [intOf]; omega
      | false =>
        have hgt : 0 ≤ et ∧ et ≤ 120 ∧ el < 18446744073709551616 := by
          have hgl := hgd'.out.lt
          rcases hgd'.out with h | h
          · cases h.1
          · exact ⟨h.2.1, h.2.2.1, hgl⟩
        have hmx := mks_lt hM.out
        obtain ⟨nx, hnx⟩ : ∃ nx, Hid ((if last < et then et else last) = nx) := ⟨_, rfl⟩
        have hnb : nx ≤ 120 ∧ last ≤ nx := by have h := hnx.out; split at h <;> omega
        have hM0 : Hid (MR w X g0 gp gi B (.slice ua os.length uc) ⟨os, pn, ps, pa, pk, pf⟩ qi' (.slice (some ⟨qi', off, none⟩) m ic) is ⟨false, ⟨et, ek, ev, el⟩⟩ u7 u8 ms ps') := ⟨hT.out, hE.out, hK.out, hBz, hXz, (fun k hk e => absurd (hU7.out k hk) (by omega)), (fun k hk e => absurd (hU8.out k hk) (by omega)), hBg.1, hBg.2, hBu.out⟩
        have f1 := hK.out.free 1
        clear hT hE hK hU7 hU8 hXz hBz
        go_upto_region 10 with fail
        rw [hnx.out]
        go_upto_region 11 with fail
        refine world_gen (fun Y => Hid (MR w Y g0 gp gi B (.slice ua os.length uc) ⟨os, pn, ps, pa, pk, pf⟩ qi' (.slice (some ⟨qi', off, none⟩) m ic) is ⟨false, ⟨nx, ek, ev, el⟩⟩ u7 u8 ms ps')) (hM0.out.time nx) ?_
        clear hM0 c0 c1 c2 c3 c4 f1 hnx
        rintro V1 hR
        have hzz := 0
        clear hzz
        have hlenb : ms.length ≤ 30 ∧ ps'.length ≤ 30 := by omega
        refine wp_region_held_drew (S := fun X => Ink X gi ⟨false, ⟨nx, ek, ev, el⟩⟩ ∧ Pik X gp (.slice ua os.length uc) pn ps pa pk pf) (by kernel_rfl) hR.out.held (fun hHeld => ?_)
        have hR0 := hR.out
        clear hR
        have hR : MR w V1.drew g0 gp gi B (.slice ua os.length uc) ⟨os, pn, ps, pa, pk, pf⟩ qi' (.slice (some ⟨qi', off, none⟩) m ic) is ⟨false, ⟨nx, ek, ev, el⟩⟩ u7 u8 ms ps' := hR0.call (Below.refl _ _).drew
        clear hR0
        generalize V1.drew = V at hR hHeld ⊢
        refine take_at (i := 0) (v := u7) rfl rfl (by kernel_rfl) (by kernel_rfl) (by kernel_rfl) (fun _ _ _ h => h) (Or.inl ⟨by rfl, fun X _ => by go_simp⟩) hHeld ?_
        try simp only [Act.put, List.setIfInBounds_toArray, List.set_cons_zero, List.set_cons_succ]
        refine take_at (i := 1) (v := .agg #[.bool false, .int .i64 nx, .int .i64 ek, .int .i64 ev, .int .u64 (el : Int)]) rfl rfl (by kernel_rfl) (by kernel_rfl) (by kernel_rfl) (fun _ _ _ h => h) (Or.inl ⟨by rfl, fun X hX => by obtain ⟨k0, k1, k2, k3, k4⟩ := hX.1.c; simp only at k0 k1 k2 k3 k4; go_simp⟩) hHeld ?_
        try simp only [Act.put, List.setIfInBounds_toArray, List.set_cons_zero, List.set_cons_succ]
        refine take_at (i := 4) (v := u8) rfl rfl (by kernel_rfl) (by kernel_rfl) (by kernel_rfl) (fun _ _ _ h => h) (Or.inl ⟨by rfl, fun X _ => by go_simp⟩) hHeld ?_
        try simp only [Act.put, List.setIfInBounds_toArray, List.set_cons_zero, List.set_cons_succ]
        refine take_at (i := 5) (v := .agg #[.bool false, .int .i64 nx, .int .i64 ek, .int .i64 ev, .int .u64 (el : Int)]) rfl rfl (by kernel_rfl) (by kernel_rfl) (by kernel_rfl) (fun _ _ _ h => h) (Or.inl ⟨by rfl, fun X hX => by obtain ⟨k0, k1, k2, k3, k4⟩ := hX.1.c; simp only at k0 k1 k2 k3 k4; go_simp⟩) hHeld ?_
        try simp only [Act.put, List.setIfInBounds_toArray, List.set_cons_zero, List.set_cons_succ]
        refine wpAnyH_ready (rs := [2, 6]) (by kernel_rfl) (by simp) ?_
        refine AllReadyH.cons rfl (fun K hK => ?_) (AllReadyH.cons rfl (fun K hK => ?_) AllReadyH.nil)
        · rw [if_pos (by rfl)]
          go_simp
          have hl2 : SrcN 5 (V.alloc (.cells #[.bool false, .int .i64 nx, .int .i64 ek, .int .i64 ev, .int .u64 (el : Int)] 71)) (.slice (some ⟨V.heap.size, 0, none⟩) 1 1) 1 (ins [(⟨false, ⟨nx, ek, ev, el⟩⟩ : Inp)]) := in_src V ⟨false, ⟨nx, ek, ev, el⟩⟩ _ rfl
          have hq2 := hR.lit
          have hRn := hR.alloc (.cells #[.bool false, .int .i64 nx, .int .i64 ek, .int .i64 ev, .int .u64 (el : Int)] 71)
          obtain ⟨Y20, hY⟩ : ∃ Y, Hid (V.alloc (.cells #[.bool false, .int .i64 nx, .int .i64 ek, .int .i64 ev, .int .u64 (el : Int)] 71) = Y) := ⟨_, rfl⟩
          rw [hY.out] at hRn hl2 ⊢
          clear hY hR hHeld
          have hR := hRn
          clear hRn
          refine hK.out _ _ (hR.held) (fun hHeld => ?_)
          clear hK K
          try simp only [Act.put, List.setIfInBounds_toArray, List.set_cons_zero, List.set_cons_succ]
          refine wpAnyH_ready (rs := [3, 6]) (by kernel_rfl) (by simp) ?_
          refine AllReadyH.cons rfl (fun K hK => ?_) (AllReadyH.cons rfl (fun K hK => ?_) AllReadyH.nil)
          · refine step_append_srcY rfl rfl (.tmp 39) (.tmp 41) 55 rfl 5 B 71 i0 izero 40 Try.underlying55 hi hx0 hx1 hx2 rfl (by decide) u7 (ms).length (ins (ms)) rfl hR.T.hu (.slice (some ⟨V.heap.size, 0, none⟩) 1 1) 1 (ins [(⟨false, ⟨nx, ek, ev, el⟩⟩ : Inp)]) rfl hl2 (ins_one _) (by unfold maxLen; have := hlenb; (try simp only [List.length_append, List.length_cons, List.length_nil]); omega) (by have := hlenb; (try simp only [List.length_append, List.length_cons, List.length_nil]); omega) (by have := hR.zB; have := hR.z; omega) ?_
            intro v21 W21 o21 b21 g21 f21
            have hRn := MR.left (ns := [(⟨false, ⟨nx, ek, ev, el⟩⟩ : Inp)]) hR o21 b21 g21 f21
            clear hl2
            clear hR hHeld
            have hR := hRn
            clear hRn o21 b21 g21 f21
            refine hK.out _ _ (hR.held) (fun hHeld => ?_)
            clear hK K
            try simp only [Act.put, List.setIfInBounds_toArray, List.set_cons_zero, List.set_cons_succ]
            refine wpAnyH_ready (rs := [6]) (by kernel_rfl) (by simp) ?_
            refine AllReadyH.cons rfl (fun K hK => ?_) AllReadyH.nil
            rw [if_pos (by rfl)]
            go_simp
            have hl6 : SrcN 5 (W21.alloc (.cells #[.bool false, .int .i64 nx, .int .i64 ek, .int .i64 ev, .int .u64 (el : Int)] 71)) (.slice (some ⟨W21.heap.size, 0, none⟩) 1 1) 1 (ins [(⟨false, ⟨nx, ek, ev, el⟩⟩ : Inp)]) := in_src W21 ⟨false, ⟨nx, ek, ev, el⟩⟩ _ rfl
            have hq6 := hR.lit
            have hRn := hR.alloc (.cells #[.bool false, .int .i64 nx, .int .i64 ek, .int .i64 ev, .int .u64 (el : Int)] 71)
            obtain ⟨Y22, hY⟩ : ∃ Y, Hid (W21.alloc (.cells #[.bool false, .int .i64 nx, .int .i64 ek, .int .i64 ev, .int .u64 (el : Int)] 71) = Y) := ⟨_, rfl⟩
            rw [hY.out] at hRn hl6 ⊢
            clear hY hR hHeld
            have hR := hRn
            clear hRn
            refine hK.out _ _ (hR.held) (fun hHeld => ?_)
            clear hK K
            try simp only [Act.put, List.setIfInBounds_toArray, List.set_cons_zero, List.set_cons_succ]
            refine wpAnyH_ready (rs := [7]) (by kernel_rfl) (by simp) ?_
            refine AllReadyH.cons rfl (fun K hK => ?_) AllReadyH.nil
            refine step_append_srcY rfl rfl (.tmp 43) (.tmp 45) 55 rfl 5 B 71 i0 izero 40 Try.underlying55 hi hx0 hx1 hx2 rfl (by decide) u8 (ps').length (ins (ps')) rfl hR.T.hv (.slice (some ⟨W21.heap.size, 0, none⟩) 1 1) 1 (ins [(⟨false, ⟨nx, ek, ev, el⟩⟩ : Inp)]) rfl hl6 (ins_one _) (by unfold maxLen; have := hlenb; (try simp only [List.length_append, List.length_cons, List.length_nil]); omega) (by have := hlenb; (try simp only [List.length_append, List.length_cons, List.length_nil]); omega) (by have := hR.zB; have := hR.z; omega) ?_
            intro v23 W23 o23 b23 g23 f23
            have hRn := MR.right (ns := [(⟨false, ⟨nx, ek, ev, el⟩⟩ : Inp)]) hR o23 b23 g23 f23
            clear hl6
            clear hR hHeld
            have hR := hRn
            clear hRn o23 b23 g23 f23
            refine hK.out _ _ (hR.held) (fun hHeld => ?_)
            clear hK K
            try simp only [Act.put, List.setIfInBounds_toArray, List.set_cons_zero, List.set_cons_succ]
            refine take_at (i := 8) (v := v21) rfl rfl (by kernel_rfl) (by kernel_rfl) (by kernel_rfl) (fun _ _ _ h => h) (Or.inl ⟨by rfl, fun X _ => by go_simp⟩) hHeld ?_
            try simp only [Act.put, List.setIfInBounds_toArray, List.set_cons_zero, List.set_cons_succ]
            refine take_at (i := 9) (v := v23) rfl rfl (by kernel_rfl) (by kernel_rfl) (by kernel_rfl) (fun _ _ _ h => h) (Or.inl ⟨by rfl, fun X _ => by go_simp⟩) hHeld ?_
            try simp only [Act.put, List.setIfInBounds_toArray, List.set_cons_zero, List.set_cons_succ]
            have hM9 : Hid (Mks ⟨os, pn, ps, pa, pk, pf⟩ nx (ms ++ [(⟨false, ⟨nx, ek, ev, el⟩⟩ : Inp)]) (ps' ++ [(⟨false, ⟨nx, ek, ev, el⟩⟩ : Inp)])) := mks_event (e := ⟨nx, ek, ev, el⟩) hM.out hnb.2 hnb.1
            have hl9 : Hid ((∀ i ∈ ms ++ [(⟨false, ⟨nx, ek, ev, el⟩⟩ : Inp)], i.e.l < 18446744073709551616) ∧ (∀ i ∈ ps' ++ [(⟨false, ⟨nx, ek, ev, el⟩⟩ : Inp)], i.e.l < 18446744073709551616)) := lab_two hlabs.out hgt.2.2
            have hlen5 : (ms ++ [(⟨false, ⟨nx, ek, ev, el⟩⟩ : Inp)]).length ≤ j + 1 := by rw [List.length_append]; simp; omega
            have hlen6 : (ps' ++ [(⟨false, ⟨nx, ek, ev, el⟩⟩ : Inp)]).length ≤ j + 1 := by rw [List.length_append]; simp; omega
            have hT9 : Hid (Two W23 B 71 5 v21 v23 (ms ++ [(⟨false, ⟨nx, ek, ev, el⟩⟩ : Inp)]).length (ps' ++ [(⟨false, ⟨nx, ek, ev, el⟩⟩ : Inp)]).length (ins (ms ++ [(⟨false, ⟨nx, ek, ev, el⟩⟩ : Inp)])) (ins (ps' ++ [(⟨false, ⟨nx, ek, ev, el⟩⟩ : Inp)]))) := hR.T
            have hE9 : Hid (WE w W23 g0 gp (.slice ua os.length uc) ⟨os, pn, ps, pa, pk, pf⟩ qi' (.slice (some ⟨qi', off, none⟩) m ic) is) := hR.E
            have hz9 : B ≤ (W23).heap.size := by have := hR.zB; have := hR.z; omega
            clear hR hHeld hM hlabs
            refine wpAnyH_done (by kernel_rfl) ?_ _
            go_wp2_with fail
            go_roundw
            case rel => exact ⟨j + 1, nx, _, _, by omega, by go_num, rfl, hlen5, hlen6, hM9, hl9, hT9, hE9, hz9⟩
            case measure => simp [intOf]; omega
          · rw [if_pos (by rfl)]
            go_simp
            have hl6 : SrcN 5 (Y20.alloc (.cells #[.bool false, .int .i64 nx, .int .i64 ek, .int .i64 ev, .int .u64 (el : Int)] 71)) (.slice (some ⟨Y20.heap.size, 0, none⟩) 1 1) 1 (ins [(⟨false, ⟨nx, ek, ev, el⟩⟩ : Inp)]) := in_src Y20 ⟨false, ⟨nx, ek, ev, el⟩⟩ _ rfl
            have hq6 := hR.lit
            have hRn := hR.alloc (.cells #[.bool false, .int .i64 nx, .int .i64 ek, .int .i64 ev, .int .u64 (el : Int)] 71)
            replace hl2 := hl2.below (below_alloc Y20 (.cells #[.bool false, .int .i64 nx, .int .i64 ek, .int .i64 ev, .int .u64 (el : Int)] 71))
            obtain ⟨Y21, hY⟩ : ∃ Y, Hid (Y20.alloc (.cells #[.bool false, .int .i64 nx, .int .i64 ek, .int .i64 ev, .int .u64 (el : Int)] 71) = Y) := ⟨_, rfl⟩
            rw [hY.out] at hRn hl2 hl6 ⊢
            clear hY hR hHeld
            have hR := hRn
            clear hRn
            refine hK.out _ _ (hR.held) (fun hHeld => ?_)
            clear hK K
            try simp only [Act.put, List.setIfInBounds_toArray, List.set_cons_zero, List.set_cons_succ]
            refine wpAnyH_ready (rs := [3]) (by kernel_rfl) (by simp) ?_
            refine AllReadyH.cons rfl (fun K hK => ?_) AllReadyH.nil
            refine step_append_srcY rfl rfl (.tmp 39) (.tmp 41) 55 rfl 5 B 71 i0 izero 40 Try.underlying55 hi hx0 hx1 hx2 rfl (by decide) u7 (ms).length (ins (ms)) rfl hR.T.hu (.slice (some ⟨V.heap.size, 0, none⟩) 1 1) 1 (ins [(⟨false, ⟨nx, ek, ev, el⟩⟩ : Inp)]) rfl hl2 (ins_one _) (by unfold maxLen; have := hlenb; (try simp only [List.length_append, List.length_cons, List.length_nil]); omega) (by have := hlenb; (try simp only [List.length_append, List.length_cons, List.length_nil]); omega) (by have := hR.zB; have := hR.z; omega) ?_
            intro v22 W22 o22 b22 g22 f22
            have hRn := MR.left (ns := [(⟨false, ⟨nx, ek, ev, el⟩⟩ : Inp)]) hR o22 b22 g22 f22
            clear hl2
            replace hl6 := hl6.grown g22 (fun z hz => hq6.1 z hz)
            clear hR hHeld
            have hR := hRn
            clear hRn o22 b22 g22 f22
            refine hK.out _ _ (hR.held) (fun hHeld => ?_)
            clear hK K
            try simp only [Act.put, List.setIfInBounds_toArray, List.set_cons_zero, List.set_cons_succ]
            refine wpAnyH_ready (rs := [7]) (by kernel_rfl) (by simp) ?_
            refine AllReadyH.cons rfl (fun K hK => ?_) AllReadyH.nil
            refine step_append_srcY rfl rfl (.tmp 43) (.tmp 45) 55 rfl 5 B 71 i0 izero 40 Try.underlying55 hi hx0 hx1 hx2 rfl (by decide) u8 (ps').length (ins (ps')) rfl hR.T.hv (.slice (some ⟨Y20.heap.size, 0, none⟩) 1 1) 1 (ins [(⟨false, ⟨nx, ek, ev, el⟩⟩ : Inp)]) rfl hl6 (ins_one _) (by unfold maxLen; have := hlenb; (try simp only [List.length_append, List.length_cons, List.length_nil]); omega) (by have := hlenb; (try simp only [List.length_append, List.length_cons, List.length_nil]); omega) (by have := hR.zB; have := hR.z; omega) ?_
            intro v23 W23 o23 b23 g23 f23
            have hRn := MR.right (ns := [(⟨false, ⟨nx, ek, ev, el⟩⟩ : Inp)]) hR o23 b23 g23 f23
            clear hl6
            clear hR hHeld
            have hR := hRn
            clear hRn o23 b23 g23 f23
            refine hK.out _ _ (hR.held) (fun hHeld => ?_)
            clear hK K
            try simp only [Act.put, List.setIfInBounds_toArray, List.set_cons_zero, List.set_cons_succ]
            refine take_at (i := 8) (v := v22) rfl rfl (by kernel_rfl) (by kernel_rfl) (by kernel_rfl) (fun _ _ _ h => h) (Or.inl ⟨by rfl, fun X _ => by go_simp⟩) hHeld ?_
            try simp only [Act.put, List.setIfInBounds_toArray, List.set_cons_zero, List.set_cons_succ]
            refine take_at (i := 9) (v := v23) rfl rfl (by kernel_rfl) (by kernel_rfl) (by kernel_rfl) (fun _ _ _ h => h) (Or.inl ⟨by rfl, fun X _ => by go_simp⟩) hHeld ?_
            try simp only [Act.put, List.setIfInBounds_toArray, List.set_cons_zero, List.set_cons_succ]
            have hM9 : Hid (Mks ⟨os, pn, ps, pa, pk, pf⟩ nx (ms ++ [(⟨false, ⟨nx, ek, ev, el⟩⟩ : Inp)]) (ps' ++ [(⟨false, ⟨nx, ek, ev, el⟩⟩ : Inp)])) := mks_event (e := ⟨nx, ek, ev, el⟩) hM.out hnb.2 hnb.1
            have hl9 : Hid ((∀ i ∈ ms ++ [(⟨false, ⟨nx, ek, ev, el⟩⟩ : Inp)], i.e.l < 18446744073709551616) ∧ (∀ i ∈ ps' ++ [(⟨false, ⟨nx, ek, ev, el⟩⟩ : Inp)], i.e.l < 18446744073709551616)) := lab_two hlabs.out hgt.2.2
            have hlen5 : (ms ++ [(⟨false, ⟨nx, ek, ev, el⟩⟩ : Inp)]).length ≤ j + 1 := by rw [List.length_append]; simp; omega
            have hlen6 : (ps' ++ [(⟨false, ⟨nx, ek, ev, el⟩⟩ : Inp)]).length ≤ j + 1 := by rw [List.length_append]; simp; omega
            have hT9 : Hid (Two W23 B 71 5 v22 v23 (ms ++ [(⟨false, ⟨nx, ek, ev, el⟩⟩ : Inp)]).length (ps' ++ [(⟨false, ⟨nx, ek, ev, el⟩⟩ : Inp)]).length (ins (ms ++ [(⟨false, ⟨nx, ek, ev, el⟩⟩ : Inp)])) (ins (ps' ++ [(⟨false, ⟨nx, ek, ev, el⟩⟩ : Inp)]))) := hR.T
            have hE9 : Hid (WE w W23 g0 gp (.slice ua os.length uc) ⟨os, pn, ps, pa, pk, pf⟩ qi' (.slice (some ⟨qi', off, none⟩) m ic) is) := hR.E
            have hz9 : B ≤ (W23).heap.size := by have := hR.zB; have := hR.z; omega
            clear hR hHeld hM hlabs
            refine wpAnyH_done (by kernel_rfl) ?_ _
            go_wp2_with fail
            go_roundw
            case rel => exact ⟨j + 1, nx, _, _, by omega, by go_num, rfl, hlen5, hlen6, hM9, hl9, hT9, hE9, hz9⟩
            case measure => simp [intOf]; omega
        · rw [if_pos (by rfl)]
          go_simp
          have hl6 : SrcN 5 (V.alloc (.cells #[.bool false, .int .i64 nx, .int .i64 ek, .int .i64 ev, .int .u64 (el : Int)] 71)) (.slice (some ⟨V.heap.size, 0, none⟩) 1 1) 1 (ins [(⟨false, ⟨nx, ek, ev, el⟩⟩ : Inp)]) := in_src V ⟨false, ⟨nx, ek, ev, el⟩⟩ _ rfl
          have hq6 := hR.lit
          have hRn := hR.alloc (.cells #[.bool false, .int .i64 nx, .int .i64 ek, .int .i64 ev, .int .u64 (el : Int)] 71)
          obtain ⟨Y20, hY⟩ : ∃ Y, Hid (V.alloc (.cells #[.bool false, .int .i64 nx, .int .i64 ek, .int .i64 ev, .int .u64 (el : Int)] 71) = Y) := ⟨_, rfl⟩
          rw [hY.out] at hRn hl6 ⊢
          clear hY hR hHeld
          have hR := hRn
          clear hRn
          refine hK.out _ _ (hR.held) (fun hHeld => ?_)
          clear hK K
          try simp only [Act.put, List.setIfInBounds_toArray, List.set_cons_zero, List.set_cons_succ]
          refine wpAnyH_ready (rs := [2]) (by kernel_rfl) (by simp) ?_
          refine AllReadyH.cons rfl (fun K hK => ?_) AllReadyH.nil
          rw [if_pos (by rfl)]
          go_simp
          have hl2 : SrcN 5 (Y20.alloc (.cells #[.bool false, .int .i64 nx, .int .i64 ek, .int .i64 ev, .int .u64 (el : Int)] 71)) (.slice (some ⟨Y20.heap.size, 0, none⟩) 1 1) 1 (ins [(⟨false, ⟨nx, ek, ev, el⟩⟩ : Inp)]) := in_src Y20 ⟨false, ⟨nx, ek, ev, el⟩⟩ _ rfl
          have hq2 := hR.lit
          have hRn := hR.alloc (.cells #[.bool false, .int .i64 nx, .int .i64 ek, .int .i64 ev, .int .u64 (el : Int)] 71)
          replace hl6 := hl6.below (below_alloc Y20 (.cells #[.bool false, .int .i64 nx, .int .i64 ek, .int .i64 ev, .int .u64 (el : Int)] 71))
          obtain ⟨Y21, hY⟩ : ∃ Y, Hid (Y20.alloc (.cells #[.bool false, .int .i64 nx, .int .i64 ek, .int .i64 ev, .int .u64 (el : Int)] 71) = Y) := ⟨_, rfl⟩
          rw [hY.out] at hRn hl6 hl2 ⊢
          clear hY hR hHeld
          have hR := hRn
          clear hRn
          refine hK.out _ _ (hR.held) (fun hHeld => ?_)
          clear hK K
          try simp only [Act.put, List.setIfInBounds_toArray, List.set_cons_zero, List.set_cons_succ]
          refine wpAnyH_ready (rs := [3]) (by kernel_rfl) (by simp) ?_
          refine AllReadyH.cons rfl (fun K hK => ?_) AllReadyH.nil
          refine step_append_srcY rfl rfl (.tmp 39) (.tmp 41) 55 rfl 5 B 71 i0 izero 40 Try.underlying55 hi hx0 hx1 hx2 rfl (by decide) u7 (ms).length (ins (ms)) rfl hR.T.hu (.slice (some ⟨Y20.heap.size, 0, none⟩) 1 1) 1 (ins [(⟨false, ⟨nx, ek, ev, el⟩⟩ : Inp)]) rfl hl2 (ins_one _) (by unfold maxLen; have := hlenb; (try simp only [List.length_append, List.length_cons, List.length_nil]); omega) (by have := hlenb; (try simp only [List.length_append, List.length_cons, List.length_nil]); omega) (by have := hR.zB; have := hR.z; omega) ?_
          intro v22 W22 o22 b22 g22 f22
          have hRn := MR.left (ns := [(⟨false, ⟨nx, ek, ev, el⟩⟩ : Inp)]) hR o22 b22 g22 f22
          clear hl2
          replace hl6 := hl6.grown g22 (fun z hz => hq6.1 z hz)
          clear hR hHeld
          have hR := hRn
          clear hRn o22 b22 g22 f22
          refine hK.out _ _ (hR.held) (fun hHeld => ?_)
          clear hK K
          try simp only [Act.put, List.setIfInBounds_toArray, List.set_cons_zero, List.set_cons_succ]
          refine wpAnyH_ready (rs := [7]) (by kernel_rfl) (by simp) ?_
          refine AllReadyH.cons rfl (fun K hK => ?_) AllReadyH.nil
          refine step_append_srcY rfl rfl (.tmp 43) (.tmp 45) 55 rfl 5 B 71 i0 izero 40 Try.underlying55 hi hx0 hx1 hx2 rfl (by decide) u8 (ps').length (ins (ps')) rfl hR.T.hv (.slice (some ⟨V.heap.size, 0, none⟩) 1 1) 1 (ins [(⟨false, ⟨nx, ek, ev, el⟩⟩ : Inp)]) rfl hl6 (ins_one _) (by unfold maxLen; have := hlenb; (try simp only [List.length_append, List.length_cons, List.length_nil]); omega) (by have := hlenb; (try simp only [List.length_append, List.length_cons, List.length_nil]); omega) (by have := hR.zB; have := hR.z; omega) ?_
          intro v23 W23 o23 b23 g23 f23
          have hRn := MR.right (ns := [(⟨false, ⟨nx, ek, ev, el⟩⟩ : Inp)]) hR o23 b23 g23 f23
          clear hl6
          clear hR hHeld
          have hR := hRn
          clear hRn o23 b23 g23 f23
          refine hK.out _ _ (hR.held) (fun hHeld => ?_)
          clear hK K
          try simp only [Act.put, List.setIfInBounds_toArray, List.set_cons_zero, List.set_cons_succ]
          refine take_at (i := 8) (v := v22) rfl rfl (by kernel_rfl) (by kernel_rfl) (by kernel_rfl) (fun _ _ _ h => h) (Or.inl ⟨by rfl, fun X _ => by go_simp⟩) hHeld ?_
          try simp only [Act.put, List.setIfInBounds_toArray, List.set_cons_zero, List.set_cons_succ]
          refine take_at (i := 9) (v := v23) rfl rfl (by kernel_rfl) (by kernel_rfl) (by kernel_rfl) (fun _ _ _ h => h) (Or.inl ⟨by rfl, fun X _ => by go_simp⟩) hHeld ?_
          try simp only [Act.put, List.setIfInBounds_toArray, List.set_cons_zero, List.set_cons_succ]
          have hM9 : Hid (Mks ⟨os, pn, ps, pa, pk, pf⟩ nx (ms ++ [(⟨false, ⟨nx, ek, ev, el⟩⟩ : Inp)]) (ps' ++ [(⟨false, ⟨nx, ek, ev, el⟩⟩ : Inp)])) := mks_event (e := ⟨nx, ek, ev, el⟩) hM.out hnb.2 hnb.1
          have hl9 : Hid ((∀ i ∈ ms ++ [(⟨false, ⟨nx, ek, ev, el⟩⟩ : Inp)], i.e.l < 18446744073709551616) ∧ (∀ i ∈ ps' ++ [(⟨false, ⟨nx, ek, ev, el⟩⟩ : Inp)], i.e.l < 18446744073709551616)) := lab_two hlabs.out hgt.2.2
          have hlen5 : (ms ++ [(⟨false, ⟨nx, ek, ev, el⟩⟩ : Inp)]).length ≤ j + 1 := by rw [List.length_append]; simp; omega
          have hlen6 : (ps' ++ [(⟨false, ⟨nx, ek, ev, el⟩⟩ : Inp)]).length ≤ j + 1 := by rw [List.length_append]; simp; omega
          have hT9 : Hid (Two W23 B 71 5 v22 v23 (ms ++ [(⟨false, ⟨nx, ek, ev, el⟩⟩ : Inp)]).length (ps' ++ [(⟨false, ⟨nx, ek, ev, el⟩⟩ : Inp)]).length (ins (ms ++ [(⟨false, ⟨nx, ek, ev, el⟩⟩ : Inp)])) (ins (ps' ++ [(⟨false, ⟨nx, ek, ev, el⟩⟩ : Inp)]))) := hR.T
          have hE9 : Hid (WE w W23 g0 gp (.slice ua os.length uc) ⟨os, pn, ps, pa, pk, pf⟩ qi' (.slice (some ⟨qi', off, none⟩) m ic) is) := hR.E
          have hz9 : B ≤ (W23).heap.size := by have := hR.zB; have := hR.z; omega
          clear hR hHeld hM hlabs
          refine wpAnyH_done (by kernel_rfl) ?_ _
          go_wp2_with fail
          go_roundw
          case rel => exact ⟨j + 1, nx, _, _, by omega, by go_num, rfl, hlen5, hlen6, hM9, hl9, hT9, hE9, hz9⟩
          case measure => simp [intOf]; omega
    · obtain rfl : m = j := by omega
      have hSame : Hid (rowsR ⟨os, pn, ps, pa, pk, pf⟩ r0 (ms ++ [endI]) = rowsR ⟨os, pn, ps, pa, pk, pf⟩ r0 (ps' ++ [endI])) := mks_end hM.out (small_n hS'.out)
      have hl1 : Hid (∀ i ∈ ms ++ [endI], i.e.l < 18446744073709551616) := end_l hlabs.out.1
      have hl2 : Hid (∀ i ∈ ps' ++ [endI], i.e.l < 18446744073709551616) := end_l hlabs.out.2
      have hU7 : Hid (∀ k, u7.ownBlock = some k → k < wr.heap.size) := fun k hk => (hT.out.hu.lt k hk).2
      have hU8 : Hid (∀ k, u8.ownBlock = some k → k < wr.heap.size) := fun k hk => (hT.out.hv.lt k hk).2
      go_upto_region 14 with fail
      refine world_gen (fun X => Hid (MR w X g0 gp wr.heap.size B (.slice ua os.length uc) ⟨os, pn, ps, pa, pk, pf⟩ qi' (.slice ia m ic) is endI u7 u8 ms ps')) ⟨hT.out.alloc _, hE.out.alloc _, ink_new wr endI, hBz, by simp, (fun k hk e => absurd (hU7.out k hk) (by omega)), (fun k hk e => absurd (hU8.out k hk) (by omega)), hBg.1, hBg.2, hBu.out⟩ ?_
      clear hT hE hU7 hU8 hM hlabs
      rintro V1 hR
      generalize wr.heap.size = ge at hR hBz ⊢
      go_cut [12, 13] (fun a b wx => Hid (RdR wx a (rowsR ⟨os, pn, ps, pa, pk, pf⟩ r0 (ms ++ [endI]))) ∧ Hid (RdR wx b (rowsR ⟨os, pn, ps, pa, pk, pf⟩ r0 (ms ++ [endI]))) ∧ Hid (Below g0 w wx) ∧ g0 ≤ wx.heap.size)
      case first =>
        have hlenb : ms.length ≤ 30 ∧ ps'.length ≤ 30 := by omega
        refine wp_region_held_drew (S := fun X => Ink X ge endI ∧ Pik X gp (.slice ua os.length uc) pn ps pa pk pf) (by kernel_rfl) hR.out.held (fun hHeld => ?_)
        have hR0 := hR.out
        clear hR
        have hR : MR w V1.drew g0 gp ge B (.slice ua os.length uc) ⟨os, pn, ps, pa, pk, pf⟩ qi' (.slice ia m ic) is endI u7 u8 ms ps' := hR0.call (Below.refl _ _).drew
        clear hR0
        generalize V1.drew = V at hR hHeld ⊢
        refine take_at (i := 0) (v := O.pv (.slice ua os.length uc) pn ps pa pk pf) rfl rfl (by kernel_rfl) (by kernel_rfl) (by kernel_rfl) (fun _ _ _ h => h) (Or.inl ⟨by rfl, fun X hX => by have h := hX.2; have c0 := h.c0; have c1 := h.c1; have c2 := h.c2; have c3 := h.c3; have c4 := h.c4; have c5 := h.c5; go_simp⟩) hHeld ?_
        try simp only [Act.put, List.setIfInBounds_toArray, List.set_cons_zero, List.set_cons_succ]
        refine take_at (i := 1) (v := u7) rfl rfl (by kernel_rfl) (by kernel_rfl) (by kernel_rfl) (fun _ _ _ h => h) (Or.inl ⟨by rfl, fun X _ => by go_simp⟩) hHeld ?_
        try simp only [Act.put, List.setIfInBounds_toArray, List.set_cons_zero, List.set_cons_succ]
        refine take_at (i := 2) (v := .agg #[.bool true, .int .i64 1000, .int .i64 0, .int .i64 0, .int .u64 0]) rfl rfl (by kernel_rfl) (by kernel_rfl) (by kernel_rfl) (fun _ _ _ h => h) (Or.inl ⟨by rfl, fun X hX => by obtain ⟨k0, k1, k2, k3, k4⟩ := hX.1.c; simp only [endI] at k0 k1 k2 k3 k4; go_simp⟩) hHeld ?_
        try simp only [Act.put, List.setIfInBounds_toArray, List.set_cons_zero, List.set_cons_succ]
        refine take_at (i := 6) (v := O.pv (.slice ua os.length uc) pn ps pa pk pf) rfl rfl (by kernel_rfl) (by kernel_rfl) (by kernel_rfl) (fun _ _ _ h => h) (Or.inl ⟨by rfl, fun X hX => by have h := hX.2; have c0 := h.c0; have c1 := h.c1; have c2 := h.c2; have c3 := h.c3; have c4 := h.c4; have c5 := h.c5; go_simp⟩) hHeld ?_
        try simp only [Act.put, List.setIfInBounds_toArray, List.set_cons_zero, List.set_cons_succ]
        refine take_at (i := 7) (v := u8) rfl rfl (by kernel_rfl) (by kernel_rfl) (by kernel_rfl) (fun _ _ _ h => h) (Or.inl ⟨by rfl, fun X _ => by go_simp⟩) hHeld ?_
        try simp only [Act.put, List.setIfInBounds_toArray, List.set_cons_zero, List.set_cons_succ]
        refine take_at (i := 8) (v := .agg #[.bool true, .int .i64 1000, .int .i64 0, .int .i64 0, .int .u64 0]) rfl rfl (by kernel_rfl) (by kernel_rfl) (by kernel_rfl) (fun _ _ _ h => h) (Or.inl ⟨by rfl, fun X hX => by obtain ⟨k0, k1, k2, k3, k4⟩ := hX.1.c; simp only [endI] at k0 k1 k2 k3 k4; go_simp⟩) hHeld ?_
        try simp only [Act.put, List.setIfInBounds_toArray, List.set_cons_zero, List.set_cons_succ]
        refine wpAnyH_ready (rs := [3, 9]) (by kernel_rfl) (by simp) ?_
        refine AllReadyH.cons rfl (fun K hK => ?_) (AllReadyH.cons rfl (fun K hK => ?_) AllReadyH.nil)
        · rw [if_pos (by rfl)]
          go_simp
          have hl3 : SrcN 5 (V.alloc (.cells #[.bool true, .int .i64 1000, .int .i64 0, .int .i64 0, .int .u64 0] 71)) (.slice (some ⟨V.heap.size, 0, none⟩) 1 1) 1 (ins [(endI : Inp)]) := in_src V endI _ rfl
          have hq3 := hR.lit
          have hRn := hR.alloc (.cells #[.bool true, .int .i64 1000, .int .i64 0, .int .i64 0, .int .u64 0] 71)
          obtain ⟨Y20, hY⟩ : ∃ Y, Hid (V.alloc (.cells #[.bool true, .int .i64 1000, .int .i64 0, .int .i64 0, .int .u64 0] 71) = Y) := ⟨_, rfl⟩
          rw [hY.out] at hRn hl3 ⊢
          clear hY hR hHeld
          have hR := hRn
          clear hRn
          refine hK.out _ _ (hR.held) (fun hHeld => ?_)
          clear hK K
          try simp only [Act.put, List.setIfInBounds_toArray, List.set_cons_zero, List.set_cons_succ]
          refine wpAnyH_ready (rs := [4, 9]) (by kernel_rfl) (by simp) ?_
          refine AllReadyH.cons rfl (fun K hK => ?_) (AllReadyH.cons rfl (fun K hK => ?_) AllReadyH.nil)
          · refine step_append_srcY rfl rfl (.tmp 51) (.tmp 53) 55 rfl 5 B 71 i0 izero 40 Try.underlying55 hi hx0 hx1 hx2 rfl (by decide) u7 (ms).length (ins (ms)) rfl hR.T.hu (.slice (some ⟨V.heap.size, 0, none⟩) 1 1) 1 (ins [(endI : Inp)]) rfl hl3 (ins_one _) (by unfold maxLen; have := hlenb; (try simp only [List.length_append, List.length_cons, List.length_nil]); omega) (by have := hlenb; (try simp only [List.length_append, List.length_cons, List.length_nil]); omega) (by have := hR.zB; have := hR.z; omega) ?_
            intro v21 W21 o21 b21 g21 f21
            have hRn := MR.left (ns := [(endI : Inp)]) hR o21 b21 g21 f21
            clear hl3
            clear hR hHeld
            have hR := hRn
            clear hRn o21 b21 g21 f21
            refine hK.out _ _ (hR.held) (fun hHeld => ?_)
            clear hK K
            try simp only [Act.put, List.setIfInBounds_toArray, List.set_cons_zero, List.set_cons_succ]
            refine wpAnyH_ready (rs := [5, 9]) (by kernel_rfl) (by simp) ?_
            refine AllReadyH.cons rfl (fun K hK => ?_) (AllReadyH.cons rfl (fun K hK => ?_) AllReadyH.nil)
            · rw [if_pos (by rfl)]
              obtain ⟨q22, hq22, hz1, hz2, hqq22⟩ := rdi_own hR.T.hu hl1.out (by have := hR.zB; have := hR.z; omega)
              clear hz1 hz2
              go_wp2_with fail
              refine (wrows_is (.slice ua os.length uc) ⟨os, pn, ps, pa, pk, pf⟩ v21 q22 (ms ++ [endI]) _ hR.E.O (small_new hS'.out).1 (small_new hS'.out).2.1 hq22 hqq22 (by have := hlenb; (try simp only [List.length_append, List.length_cons, List.length_nil]); omega)).mono ?_
              rintro e W22 ⟨u22, rfl, hu22, b22⟩
              have hr8 := hu22
              have hn8 : ∀ z, u22.ownBlock = some z → u8.ownBlock ≠ some z := fun z hz hz2 => by have h1 := (hu22.lt z hz).1; have h2 := (hR.T.hv.lt z hz2).2; omega
              have hRn := hR.call b22
              clear hR hHeld hu22 b22 hq22 hqq22
              have hR := hRn
              clear hRn
              go_wp2_with fail
              refine hK.out _ _ (hR.held) (fun hHeld => ?_)
              clear hK K
              try simp only [Act.put, List.setIfInBounds_toArray, List.set_cons_zero, List.set_cons_succ]
              refine wpAnyH_ready (rs := [9]) (by kernel_rfl) (by simp) ?_
              refine AllReadyH.cons rfl (fun K hK => ?_) AllReadyH.nil
              rw [if_pos (by rfl)]
              go_simp
              have hl9 : SrcN 5 (W22.alloc (.cells #[.bool true, .int .i64 1000, .int .i64 0, .int .i64 0, .int .u64 0] 71)) (.slice (some ⟨W22.heap.size, 0, none⟩) 1 1) 1 (ins [(endI : Inp)]) := in_src W22 endI _ rfl
              have hq9 := hR.lit
              have hRn := hR.alloc (.cells #[.bool true, .int .i64 1000, .int .i64 0, .int .i64 0, .int .u64 0] 71)
              replace hr8 := own_below hr8 (below_alloc W22 (.cells #[.bool true, .int .i64 1000, .int .i64 0, .int .i64 0, .int .u64 0] 71))
              obtain ⟨Y23, hY⟩ : ∃ Y, Hid (W22.alloc (.cells #[.bool true, .int .i64 1000, .int .i64 0, .int .i64 0, .int .u64 0] 71) = Y) := ⟨_, rfl⟩
              rw [hY.out] at hRn hl9 hr8 ⊢
              clear hY hR hHeld
              have hR := hRn
              clear hRn
              refine hK.out _ _ (hR.held) (fun hHeld => ?_)
              clear hK K
              try simp only [Act.put, List.setIfInBounds_toArray, List.set_cons_zero, List.set_cons_succ]
              refine wpAnyH_ready (rs := [10]) (by kernel_rfl) (by simp) ?_
              refine AllReadyH.cons rfl (fun K hK => ?_) AllReadyH.nil
              refine step_append_srcY rfl rfl (.tmp 57) (.tmp 59) 55 rfl 5 B 71 i0 izero 40 Try.underlying55 hi hx0 hx1 hx2 rfl (by decide) u8 (ps').length (ins (ps')) rfl hR.T.hv (.slice (some ⟨W22.heap.size, 0, none⟩) 1 1) 1 (ins [(endI : Inp)]) rfl hl9 (ins_one _) (by unfold maxLen; have := hlenb; (try simp only [List.length_append, List.length_cons, List.length_nil]); omega) (by have := hlenb; (try simp only [List.length_append, List.length_cons, List.length_nil]); omega) (by have := hR.zB; have := hR.z; omega) ?_
              intro v24 W24 o24 b24 g24 f24
              have hRn := MR.right (ns := [(endI : Inp)]) hR o24 b24 g24 f24
              clear hl9
              replace hr8 := own_grown hr8 g24 (fun z hz => hn8 z hz)
              clear hR hHeld
              have hR := hRn
              clear hRn o24 b24 g24 f24
              refine hK.out _ _ (hR.held) (fun hHeld => ?_)
              clear hK K
              try simp only [Act.put, List.setIfInBounds_toArray, List.set_cons_zero, List.set_cons_succ]
              refine wpAnyH_ready (rs := [11]) (by kernel_rfl) (by simp) ?_
              refine AllReadyH.cons rfl (fun K hK => ?_) AllReadyH.nil
              rw [if_pos (by rfl)]
              obtain ⟨q25, hq25, hz1, hz2, hqq25⟩ := rdi_own hR.T.hv hl2.out (by have := hR.zB; have := hR.z; omega)
              clear hz1 hz2
              go_wp2_with fail
              refine (wrows_is (.slice ua os.length uc) ⟨os, pn, ps, pa, pk, pf⟩ v24 q25 (ps' ++ [endI]) _ hR.E.O (small_new hS'.out).1 (small_new hS'.out).2.1 hq25 hqq25 (by have := hlenb; (try simp only [List.length_append, List.length_cons, List.length_nil]); omega)).mono ?_
              rintro e W25 ⟨u25, rfl, hu25, b25⟩
              have hr9 := hu25
              replace hr8 := own_below hr8 b25
              have hRn := hR.call b25
              clear hR hHeld hu25 b25 hq25 hqq25
              have hR := hRn
              clear hRn
              go_wp2_with fail
              refine hK.out _ _ (hR.held) (fun hHeld => ?_)
              clear hK K
              try simp only [Act.put, List.setIfInBounds_toArray, List.set_cons_zero, List.set_cons_succ]
              refine take_at (i := 12) (v := u22) rfl rfl (by kernel_rfl) (by kernel_rfl) (by kernel_rfl) (fun _ _ _ h => h) (Or.inl ⟨by rfl, fun X _ => by go_simp⟩) hHeld ?_
              try simp only [Act.put, List.setIfInBounds_toArray, List.set_cons_zero, List.set_cons_succ]
              refine take_at (i := 13) (v := u25) rfl rfl (by kernel_rfl) (by kernel_rfl) (by kernel_rfl) (fun _ _ _ h => h) (Or.inl ⟨by rfl, fun X _ => by go_simp⟩) hHeld ?_
              try simp only [Act.put, List.setIfInBounds_toArray, List.set_cons_zero, List.set_cons_succ]
              refine wpAnyH_done (by kernel_rfl) ?_ _
              go_wp2_with fail
              have hx8 := rdr_own hr8
              have hx9 := rdr_own hr9
              rw [← hSame.out] at hx9
              go_meet
              exact ⟨hx8, hx9, hR.E.B, Nat.le_of_lt hR.E.size⟩
            · rw [if_pos (by rfl)]
              go_simp
              have hl9 : SrcN 5 (W21.alloc (.cells #[.bool true, .int .i64 1000, .int .i64 0, .int .i64 0, .int .u64 0] 71)) (.slice (some ⟨W21.heap.size, 0, none⟩) 1 1) 1 (ins [(endI : Inp)]) := in_src W21 endI _ rfl
              have hq9 := hR.lit
              have hRn := hR.alloc (.cells #[.bool true, .int .i64 1000, .int .i64 0, .int .i64 0, .int .u64 0] 71)
              obtain ⟨Y22, hY⟩ : ∃ Y, Hid (W21.alloc (.cells #[.bool true, .int .i64 1000, .int .i64 0, .int .i64 0, .int .u64 0] 71) = Y) := ⟨_, rfl⟩
              rw [hY.out] at hRn hl9 ⊢
              clear hY hR hHeld
              have hR := hRn
              clear hRn
              refine hK.out _ _ (hR.held) (fun hHeld => ?_)
              clear hK K
              try simp only [Act.put, List.setIfInBounds_toArray, List.set_cons_zero, List.set_cons_succ]
              refine wpAnyH_ready (rs := [5]) (by kernel_rfl) (by simp) ?_
              refine AllReadyH.cons rfl (fun K hK => ?_) AllReadyH.nil
              rw [if_pos (by rfl)]
              obtain ⟨q23, hq23, hz1, hz2, hqq23⟩ := rdi_own hR.T.hu hl1.out (by have := hR.zB; have := hR.z; omega)
              clear hz1 hz2
              go_wp2_with fail
              refine (wrows_is (.slice ua os.length uc) ⟨os, pn, ps, pa, pk, pf⟩ v21 q23 (ms ++ [endI]) _ hR.E.O (small_new hS'.out).1 (small_new hS'.out).2.1 hq23 hqq23 (by have := hlenb; (try simp only [List.length_append, List.length_cons, List.length_nil]); omega)).mono ?_
              rintro e W23 ⟨u23, rfl, hu23, b23⟩
              have hr8 := hu23
              have hn8 : ∀ z, u23.ownBlock = some z → u8.ownBlock ≠ some z := fun z hz hz2 => by have h1 := (hu23.lt z hz).1; have h2 := (hR.T.hv.lt z hz2).2; omega
              replace hl9 := hl9.below b23
              have hRn := hR.call b23
              clear hR hHeld hu23 b23 hq23 hqq23
              have hR := hRn
              clear hRn
              go_wp2_with fail
              refine hK.out _ _ (hR.held) (fun hHeld => ?_)
              clear hK K
              try simp only [Act.put, List.setIfInBounds_toArray, List.set_cons_zero, List.set_cons_succ]
              refine wpAnyH_ready (rs := [10]) (by kernel_rfl) (by simp) ?_
              refine AllReadyH.cons rfl (fun K hK => ?_) AllReadyH.nil
              refine step_append_srcY rfl rfl (.tmp 57) (.tmp 59) 55 rfl 5 B 71 i0 izero 40 Try.underlying55 hi hx0 hx1 hx2 rfl (by decide) u8 (ps').length (ins (ps')) rfl hR.T.hv (.slice (some ⟨W21.heap.size, 0, none⟩) 1 1) 1 (ins [(endI : Inp)]) rfl hl9 (ins_one _) (by unfold maxLen; have := hlenb; (try simp only [List.length_append, List.length_cons, List.length_nil]); omega) (by have := hlenb; (try simp only [List.length_append, List.length_cons, List.length_nil]); omega) (by have := hR.zB; have := hR.z; omega) ?_
              intro v24 W24 o24 b24 g24 f24
              have hRn := MR.right (ns := [(endI : Inp)]) hR o24 b24 g24 f24
              clear hl9
              replace hr8 := own_grown hr8 g24 (fun z hz => hn8 z hz)
              clear hR hHeld
              have hR := hRn
              clear hRn o24 b24 g24 f24
              refine hK.out _ _ (hR.held) (fun hHeld => ?_)
              clear hK K
              try simp only [Act.put, List.setIfInBounds_toArray, List.set_cons_zero, List.set_cons_succ]
              refine wpAnyH_ready (rs := [11]) (by kernel_rfl) (by simp) ?_
              refine AllReadyH.cons rfl (fun K hK => ?_) AllReadyH.nil
              rw [if_pos (by rfl)]
              obtain ⟨q25, hq25, hz1, hz2, hqq25⟩ := rdi_own hR.T.hv hl2.out (by have := hR.zB; have := hR.z; omega)
              clear hz1 hz2
              go_wp2_with fail
              refine (wrows_is (.slice ua os.length uc) ⟨os, pn, ps, pa, pk, pf⟩ v24 q25 (ps' ++ [endI]) _ hR.E.O (small_new hS'.out).1 (small_new hS'.out).2.1 hq25 hqq25 (by have := hlenb; (try simp only [List.length_append, List.length_cons, List.length_nil]); omega)).mono ?_
              rintro e W25 ⟨u25, rfl, hu25, b25⟩
              have hr9 := hu25
              replace hr8 := own_below hr8 b25
              have hRn := hR.call b25
              clear hR hHeld hu25 b25 hq25 hqq25
              have hR := hRn
              clear hRn
              go_wp2_with fail
              refine hK.out _ _ (hR.held) (fun hHeld => ?_)
              clear hK K
              try simp only [Act.put, List.setIfInBounds_toArray, List.set_cons_zero, List.set_cons_succ]
              refine take_at (i := 12) (v := u23) rfl rfl (by kernel_rfl) (by kernel_rfl) (by kernel_rfl) (fun _ _ _ h => h) (Or.inl ⟨by rfl, fun X _ => by go_simp⟩) hHeld ?_
              try simp only [Act.put, List.setIfInBounds_toArray, List.set_cons_zero, List.set_cons_succ]
              refine take_at (i := 13) (v := u25) rfl rfl (by kernel_rfl) (by kernel_rfl) (by kernel_rfl) (fun _ _ _ h => h) (Or.inl ⟨by rfl, fun X _ => by go_simp⟩) hHeld ?_
              try simp only [Act.put, List.setIfInBounds_toArray, List.set_cons_zero, List.set_cons_succ]
              refine wpAnyH_done (by kernel_rfl) ?_ _
              go_wp2_with fail
              have hx8 := rdr_own hr8
              have hx9 := rdr_own hr9
              rw [← hSame.out] at hx9
              go_meet
              exact ⟨hx8, hx9, hR.E.B, Nat.le_of_lt hR.E.size⟩
          · rw [if_pos (by rfl)]
            go_simp
            have hl9 : SrcN 5 (Y20.alloc (.cells #[.bool true, .int .i64 1000, .int .i64 0, .int .i64 0, .int .u64 0] 71)) (.slice (some ⟨Y20.heap.size, 0, none⟩) 1 1) 1 (ins [(endI : Inp)]) := in_src Y20 endI _ rfl
            have hq9 := hR.lit
            have hRn := hR.alloc (.cells #[.bool true, .int .i64 1000, .int .i64 0, .int .i64 0, .int .u64 0] 71)
            replace hl3 := hl3.below (below_alloc Y20 (.cells #[.bool true, .int .i64 1000, .int .i64 0, .int .i64 0, .int .u64 0] 71))
            obtain ⟨Y21, hY⟩ : ∃ Y, Hid (Y20.alloc (.cells #[.bool true, .int .i64 1000, .int .i64 0, .int .i64 0, .int .u64 0] 71) = Y) := ⟨_, rfl⟩
            rw [hY.out] at hRn hl3 hl9 ⊢
            clear hY hR hHeld
            have hR := hRn
            clear hRn
            refine hK.out _ _ (hR.held) (fun hHeld => ?_)
            clear hK K
            try simp only [Act.put, List.setIfInBounds_toArray, List.set_cons_zero, List.set_cons_succ]
            refine wpAnyH_ready (rs := [4]) (by kernel_rfl) (by simp) ?_
            refine AllReadyH.cons rfl (fun K hK => ?_) AllReadyH.nil
            refine step_append_srcY rfl rfl (.tmp 51) (.tmp 53) 55 rfl 5 B 71 i0 izero 40 Try.underlying55 hi hx0 hx1 hx2 rfl (by decide) u7 (ms).length (ins (ms)) rfl hR.T.hu (.slice (some ⟨V.heap.size, 0, none⟩) 1 1) 1 (ins [(endI : Inp)]) rfl hl3 (ins_one _) (by unfold maxLen; have := hlenb; (try simp only [List.length_append, List.length_cons, List.length_nil]); omega) (by have := hlenb; (try simp only [List.length_append, List.length_cons, List.length_nil]); omega) (by have := hR.zB; have := hR.z; omega) ?_
            intro v22 W22 o22 b22 g22 f22
            have hRn := MR.left (ns := [(endI : Inp)]) hR o22 b22 g22 f22
            clear hl3
            replace hl9 := hl9.grown g22 (fun z hz => hq9.1 z hz)
            clear hR hHeld
            have hR := hRn
            clear hRn o22 b22 g22 f22
            refine hK.out _ _ (hR.held) (fun hHeld => ?_)
            clear hK K
            try simp only [Act.put, List.setIfInBounds_toArray, List.set_cons_zero, List.set_cons_succ]
            refine wpAnyH_ready (rs := [5]) (by kernel_rfl) (by simp) ?_
            refine AllReadyH.cons rfl (fun K hK => ?_) AllReadyH.nil
            rw [if_pos (by rfl)]
            obtain ⟨q23, hq23, hz1, hz2, hqq23⟩ := rdi_own hR.T.hu hl1.out (by have := hR.zB; have := hR.z; omega)
            clear hz1 hz2
            go_wp2_with fail
            refine (wrows_is (.slice ua os.length uc) ⟨os, pn, ps, pa, pk, pf⟩ v22 q23 (ms ++ [endI]) _ hR.E.O (small_new hS'.out).1 (small_new hS'.out).2.1 hq23 hqq23 (by have := hlenb; (try simp only [List.length_append, List.length_cons, List.length_nil]); omega)).mono ?_
            rintro e W23 ⟨u23, rfl, hu23, b23⟩
            have hr8 := hu23
            have hn8 : ∀ z, u23.ownBlock = some z → u8.ownBlock ≠ some z := fun z hz hz2 => by have h1 := (hu23.lt z hz).1; have h2 := (hR.T.hv.lt z hz2).2; omega
            replace hl9 := hl9.below b23
            have hRn := hR.call b23
            clear hR hHeld hu23 b23 hq23 hqq23
            have hR := hRn
            clear hRn
            go_wp2_with fail
            refine hK.out _ _ (hR.held) (fun hHeld => ?_)
            clear hK K
            try simp only [Act.put, List.setIfInBounds_toArray, List.set_cons_zero, List.set_cons_succ]
            refine wpAnyH_ready (rs := [10]) (by kernel_rfl) (by simp) ?_
            refine AllReadyH.cons rfl (fun K hK => ?_) AllReadyH.nil
            refine step_append_srcY rfl rfl (.tmp 57) (.tmp 59) 55 rfl 5 B 71 i0 izero 40 Try.underlying55 hi hx0 hx1 hx2 rfl (by decide) u8 (ps').length (ins (ps')) rfl hR.T.hv (.slice (some ⟨Y20.heap.size, 0, none⟩) 1 1) 1 (ins [(endI : Inp)]) rfl hl9 (ins_one _) (by unfold maxLen; have := hlenb; (try simp only [List.length_append, List.length_cons, List.length_nil]); omega) (by have := hlenb; (try simp only [List.length_append, List.length_cons, List.length_nil]); omega) (by have := hR.zB; have := hR.z; omega) ?_
            intro v24 W24 o24 b24 g24 f24
            have hRn := MR.right (ns := [(endI : Inp)]) hR o24 b24 g24 f24
            clear hl9
            replace hr8 := own_grown hr8 g24 (fun z hz => hn8 z hz)
            clear hR hHeld
            have hR := hRn
            clear hRn o24 b24 g24 f24
            refine hK.out _ _ (hR.held) (fun hHeld => ?_)
            clear hK K
            try simp only [Act.put, List.setIfInBounds_toArray, List.set_cons_zero, List.set_cons_succ]
            refine wpAnyH_ready (rs := [11]) (by kernel_rfl) (by simp) ?_
            refine AllReadyH.cons rfl (fun K hK => ?_) AllReadyH.nil
            rw [if_pos (by rfl)]
            obtain ⟨q25, hq25, hz1, hz2, hqq25⟩ := rdi_own hR.T.hv hl2.out (by have := hR.zB; have := hR.z; omega)
            clear hz1 hz2
            go_wp2_with fail
            refine (wrows_is (.slice ua os.length uc) ⟨os, pn, ps, pa, pk, pf⟩ v24 q25 (ps' ++ [endI]) _ hR.E.O (small_new hS'.out).1 (small_new hS'.out).2.1 hq25 hqq25 (by have := hlenb; (try simp only [List.length_append, List.length_cons, List.length_nil]); omega)).mono ?_
            rintro e W25 ⟨u25, rfl, hu25, b25⟩
            have hr9 := hu25
            replace hr8 := own_below hr8 b25
            have hRn := hR.call b25
            clear hR hHeld hu25 b25 hq25 hqq25
            have hR := hRn
            clear hRn
            go_wp2_with fail
            refine hK.out _ _ (hR.held) (fun hHeld => ?_)
            clear hK K
            try simp only [Act.put, List.setIfInBounds_toArray, List.set_cons_zero, List.set_cons_succ]
            refine take_at (i := 12) (v := u23) rfl rfl (by kernel_rfl) (by kernel_rfl) (by kernel_rfl) (fun _ _ _ h => h) (Or.inl ⟨by rfl, fun X _ => by go_simp⟩) hHeld ?_
            try simp only [Act.put, List.setIfInBounds_toArray, List.set_cons_zero, List.set_cons_succ]
            refine take_at (i := 13) (v := u25) rfl rfl (by kernel_rfl) (by kernel_rfl) (by kernel_rfl) (fun _ _ _ h => h) (Or.inl ⟨by rfl, fun X _ => by go_simp⟩) hHeld ?_
            try simp only [Act.put, List.setIfInBounds_toArray, List.set_cons_zero, List.set_cons_succ]
            refine wpAnyH_done (by kernel_rfl) ?_ _
            go_wp2_with fail
            have hx8 := rdr_own hr8
            have hx9 := rdr_own hr9
            rw [← hSame.out] at hx9
            go_meet
            exact ⟨hx8, hx9, hR.E.B, Nat.le_of_lt hR.E.size⟩
        · rw [if_pos (by rfl)]
          go_simp
          have hl9 : SrcN 5 (V.alloc (.cells #[.bool true, .int .i64 1000, .int .i64 0, .int .i64 0, .int .u64 0] 71)) (.slice (some ⟨V.heap.size, 0, none⟩) 1 1) 1 (ins [(endI : Inp)]) := in_src V endI _ rfl
          have hq9 := hR.lit
          have hRn := hR.alloc (.cells #[.bool true, .int .i64 1000, .int .i64 0, .int .i64 0, .int .u64 0] 71)
          obtain ⟨Y20, hY⟩ : ∃ Y, Hid (V.alloc (.cells #[.bool true, .int .i64 1000, .int .i64 0, .int .i64 0, .int .u64 0] 71) = Y) := ⟨_, rfl⟩
          rw [hY.out] at hRn hl9 ⊢
          clear hY hR hHeld
          have hR := hRn
          clear hRn
          refine hK.out _ _ (hR.held) (fun hHeld => ?_)
          clear hK K
          try simp only [Act.put, List.setIfInBounds_toArray, List.set_cons_zero, List.set_cons_succ]
          refine wpAnyH_ready (rs := [3]) (by kernel_rfl) (by simp) ?_
          refine AllReadyH.cons rfl (fun K hK => ?_) AllReadyH.nil
          rw [if_pos (by rfl)]
          go_simp
          have hl3 : SrcN 5 (Y20.alloc (.cells #[.bool true, .int .i64 1000, .int .i64 0, .int .i64 0, .int .u64 0] 71)) (.slice (some ⟨Y20.heap.size, 0, none⟩) 1 1) 1 (ins [(endI : Inp)]) := in_src Y20 endI _ rfl
          have hq3 := hR.lit
          have hRn := hR.alloc (.cells #[.bool true, .int .i64 1000, .int .i64 0, .int .i64 0, .int .u64 0] 71)
          replace hl9 := hl9.below (below_alloc Y20 (.cells #[.bool true, .int .i64 1000, .int .i64 0, .int .i64 0, .int .u64 0] 71))
          obtain ⟨Y21, hY⟩ : ∃ Y, Hid (Y20.alloc (.cells #[.bool true, .int .i64 1000, .int .i64 0, .int .i64 0, .int .u64 0] 71) = Y) := ⟨_, rfl⟩
          rw [hY.out] at hRn hl9 hl3 ⊢
          clear hY hR hHeld
          have hR := hRn
          clear hRn
          refine hK.out _ _ (hR.held) (fun hHeld => ?_)
          clear hK K
          try simp only [Act.put, List.setIfInBounds_toArray, List.set_cons_zero, List.set_cons_succ]
          refine wpAnyH_ready (rs := [4]) (by kernel_rfl) (by simp) ?_
          refine AllReadyH.cons rfl (fun K hK => ?_) AllReadyH.nil
          refine step_append_srcY rfl rfl (.tmp 51) (.tmp 53) 55 rfl 5 B 71 i0 izero 40 Try.underlying55 hi hx0 hx1 hx2 rfl (by decide) u7 (ms).length (ins (ms)) rfl hR.T.hu (.slice (some ⟨Y20.heap.size, 0, none⟩) 1 1) 1 (ins [(endI : Inp)]) rfl hl3 (ins_one _) (by unfold maxLen; have := hlenb; (try simp only [List.length_append, List.length_cons, List.length_nil]); omega) (by have := hlenb; (try simp only [List.length_append, List.length_cons, List.length_nil]); omega) (by have := hR.zB; have := hR.z; omega) ?_
          intro v22 W22 o22 b22 g22 f22
          have hRn := MR.left (ns := [(endI : Inp)]) hR o22 b22 g22 f22
          clear hl3
          replace hl9 := hl9.grown g22 (fun z hz => hq9.1 z hz)
          clear hR hHeld
          have hR := hRn
          clear hRn o22 b22 g22 f22
          refine hK.out _ _ (hR.held) (fun hHeld => ?_)
          clear hK K
          try simp only [Act.put, List.setIfInBounds_toArray, List.set_cons_zero, List.set_cons_succ]
          refine wpAnyH_ready (rs := [5]) (by kernel_rfl) (by simp) ?_
          refine AllReadyH.cons rfl (fun K hK => ?_) AllReadyH.nil
          rw [if_pos (by rfl)]
          obtain ⟨q23, hq23, hz1, hz2, hqq23⟩ := rdi_own hR.T.hu hl1.out (by have := hR.zB; have := hR.z; omega)
          clear hz1 hz2
          go_wp2_with fail
          refine (wrows_is (.slice ua os.length uc) ⟨os, pn, ps, pa, pk, pf⟩ v22 q23 (ms ++ [endI]) _ hR.E.O (small_new hS'.out).1 (small_new hS'.out).2.1 hq23 hqq23 (by have := hlenb; (try simp only [List.length_append, List.length_cons, List.length_nil]); omega)).mono ?_
          rintro e W23 ⟨u23, rfl, hu23, b23⟩
          have hr8 := hu23
          have hn8 : ∀ z, u23.ownBlock = some z → u8.ownBlock ≠ some z := fun z hz hz2 => by have h1 := (hu23.lt z hz).1; have h2 := (hR.T.hv.lt z hz2).2; omega
          replace hl9 := hl9.below b23
          have hRn := hR.call b23
          clear hR hHeld hu23 b23 hq23 hqq23
          have hR := hRn
          clear hRn
          go_wp2_with fail
          refine hK.out _ _ (hR.held) (fun hHeld => ?_)
          clear hK K
          try simp only [Act.put, List.setIfInBounds_toArray, List.set_cons_zero, List.set_cons_succ]
          refine wpAnyH_ready (rs := [10]) (by kernel_rfl) (by simp) ?_
          refine AllReadyH.cons rfl (fun K hK => ?_) AllReadyH.nil
          refine step_append_srcY rfl rfl (.tmp 57) (.tmp 59) 55 rfl 5 B 71 i0 izero 40 Try.underlying55 hi hx0 hx1 hx2 rfl (by decide) u8 (ps').length (ins (ps')) rfl hR.T.hv (.slice (some ⟨V.heap.size, 0, none⟩) 1 1) 1 (ins [(endI : Inp)]) rfl hl9 (ins_one _) (by unfold maxLen; have := hlenb; (try simp only [List.length_append, List.length_cons, List.length_nil]); omega) (by have := hlenb; (try simp only [List.length_append, List.length_cons, List.length_nil]); omega) (by have := hR.zB; have := hR.z; omega) ?_
          intro v24 W24 o24 b24 g24 f24
          have hRn := MR.right (ns := [(endI : Inp)]) hR o24 b24 g24 f24
          clear hl9
          replace hr8 := own_grown hr8 g24 (fun z hz => hn8 z hz)
          clear hR hHeld
          have hR := hRn
          clear hRn o24 b24 g24 f24
          refine hK.out _ _ (hR.held) (fun hHeld => ?_)
          clear hK K
          try simp only [Act.put, List.setIfInBounds_toArray, List.set_cons_zero, List.set_cons_succ]
          refine wpAnyH_ready (rs := [11]) (by kernel_rfl) (by simp) ?_
          refine AllReadyH.cons rfl (fun K hK => ?_) AllReadyH.nil
          rw [if_pos (by rfl)]
          obtain ⟨q25, hq25, hz1, hz2, hqq25⟩ := rdi_own hR.T.hv hl2.out (by have := hR.zB; have := hR.z; omega)
          clear hz1 hz2
          go_wp2_with fail
          refine (wrows_is (.slice ua os.length uc) ⟨os, pn, ps, pa, pk, pf⟩ v24 q25 (ps' ++ [endI]) _ hR.E.O (small_new hS'.out).1 (small_new hS'.out).2.1 hq25 hqq25 (by have := hlenb; (try simp only [List.length_append, List.length_cons, List.length_nil]); omega)).mono ?_
          rintro e W25 ⟨u25, rfl, hu25, b25⟩
          have hr9 := hu25
          replace hr8 := own_below hr8 b25
          have hRn := hR.call b25
          clear hR hHeld hu25 b25 hq25 hqq25
          have hR := hRn
          clear hRn
          go_wp2_with fail
          refine hK.out _ _ (hR.held) (fun hHeld => ?_)
          clear hK K
          try simp only [Act.put, List.setIfInBounds_toArray, List.set_cons_zero, List.set_cons_succ]
          refine take_at (i := 12) (v := u23) rfl rfl (by kernel_rfl) (by kernel_rfl) (by kernel_rfl) (fun _ _ _ h => h) (Or.inl ⟨by rfl, fun X _ => by go_simp⟩) hHeld ?_
          try simp only [Act.put, List.setIfInBounds_toArray, List.set_cons_zero, List.set_cons_succ]
          refine take_at (i := 13) (v := u25) rfl rfl (by kernel_rfl) (by kernel_rfl) (by kernel_rfl) (fun _ _ _ h => h) (Or.inl ⟨by rfl, fun X _ => by go_simp⟩) hHeld ?_
          try simp only [Act.put, List.setIfInBounds_toArray, List.set_cons_zero, List.set_cons_succ]
          refine wpAnyH_done (by kernel_rfl) ?_ _
          go_wp2_with fail
          have hx8 := rdr_own hr8
          have hx9 := rdr_own hr9
          rw [← hSame.out] at hx9
          go_meet
          exact ⟨hx8, hx9, hR.E.B, Nat.le_of_lt hR.E.size⟩
      case rest =>
        obtain ⟨hA, hA2, hBF, hzr⟩ := hcut
        obtain ⟨V2, hV2⟩ : ∃ X, X = wc := ⟨_, rfl⟩
        subst hV2
        clear hR hSame hl1 hl2
        go_wp2_with fail
        refine (same_r u12 u13 _ _ hA.out hA2.out).mono ?_
        rintro e W10 ⟨rfl, b9⟩
        replace hBF : Hid (Below g0 w W10) := hBF.out.trans (b9.mono hzr)
        have hzr2 : g0 ≤ W10.heap.size := by have := b9.size; omega
        clear hA hA2 b9
        go_wp2_with fail
        refine (wholeRuns_walk _).mono ?_
        rintro e W12 ⟨rfl, b9⟩
        replace hBF : Hid (Below g0 w W12) := hBF.out.trans (b9.mono hzr2)
        clear b9
        go_wp2_with fail
        go_ret
        exact ⟨rfl, by rw [hg0.out]; exact hBF.out⟩
end Go.Proofs.Ytombgbdplafooaa
