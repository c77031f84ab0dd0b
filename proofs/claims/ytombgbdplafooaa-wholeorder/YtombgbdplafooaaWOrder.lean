/- WholeOrder, walked. -/
import Derived.Test.YtombgbdplafooaaWOrd
import Derived.Deep.QuietTactic
import Derived.BigQuiet
namespace Go.Proofs.Ytombgbdplafooaa
open Go.RowKit M
open O (RdO Kpk Pik Small Ints)
open O.MO (Oq Pq rightP)
set_option linter.unusedVariables false
set_option linter.unusedSimpArgs false
attribute [local go_sem ↓] Go.wp_at_zero Go.wp_at_succ

abbrev evsOf (is : List Inp) : List Ev := (is.filter (fun i => !i.mrk)).map (·.e)
theorem evsOf_back (is : List Inp) : (evsOf is).map evI = is.filter (fun i => !i.mrk) := by
  unfold evsOf
  rw [List.map_map]
  have h : ∀ L : List Inp, (∀ i ∈ L, i.mrk = false) → L.map (evI ∘ fun x => x.e) = L := by
    intro L
    induction L with
    | nil => intro _; rfl
    | cons i r ih =>
      intro h
      rw [List.map_cons, ih (fun z hz => h z (by simp [hz]))]
      have hm := h i (by simp)
      obtain ⟨mk, e⟩ := i
      simp only at hm
      subst hm
      rfl
  exact h _ (fun i hi => by simpa using (List.mem_filter.1 hi).2)
theorem evsOf_ok {is : List Inp} (h : ∀ i ∈ is, Good i) : ∀ e ∈ evsOf is, 0 ≤ e.t ∧ e.t ≤ 120 ∧ e.k ≤ 3 := by
  intro e he
  obtain ⟨i, hi, rfl⟩ := List.mem_map.1 he
  obtain ⟨h1, h2⟩ := List.mem_filter.1 hi
  rcases h i h1 with g | g
  · rw [g.1] at h2; cases h2
  · exact ⟨g.2.1, g.2.2.1, g.2.2.2.2.1⟩
theorem evs_order {p : Pq} (hos : p.os = []) (hn : p.n ≤ 48) {is : List Inp} (h : ∀ i ∈ is, Good i) (hl : is.length ≤ 1000) (c : Nat) :
    rowsR p r0 ((is.filter (fun i => !i.mrk)).drop c ++ (is.filter (fun i => !i.mrk)).take c ++ [endI]) = rowsR p r0 (is.filter (fun i => !i.mrk) ++ [endI]) := by
  have h1 := order_rows (p := p) hos hn (evsOf is) (fun e he => by have := evsOf_ok h e he; omega) (by unfold evsOf; rw [List.length_map]; exact Nat.le_trans (List.length_filter_le _ _) hl) c
  rw [List.map_drop, List.map_take, evsOf_back] at h1
  exact h1
theorem evs_more {p : Pq} (hos : p.os = []) (hn : p.n ≤ 48) {is : List Inp} (h : ∀ i ∈ is, Good i) (y : Int) (hy : 4 ≤ y) :
    rowsP (fun k => !decide (k = y)) (rowsR p r0 (is.filter (fun i => !i.mrk) ++ [⟨false, ⟨5, y, 1, 1⟩⟩, endI])) = rowsR p r0 (is.filter (fun i => !i.mrk) ++ [endI]) := by
  have h1 := more_rows (p := p) hos hn (evsOf is) (evsOf_ok h) y hy ⟨5, y, 1, 1⟩ rfl ⟨by show (0 : Int) ≤ 5; decide, by show (5 : Int) ≤ 120; decide⟩
  rw [evsOf_back, List.append_assoc] at h1
  exact h1

set_option maxHeartbeats 8000000 in
set_option maxRecDepth 100000 in
theorem wholeOrder_walk (k : KeepIn) (la : Option Addr) (ll lc : Nat) (cut key : Int) (w : World) (hk : IsKeep w k) (hI : Ins4 w la ll lc) (hcu : (Lit.int .i64 cut).wf = true) (hkey : (Lit.int .i64 key).wf = true) :
    Calls Try.prog 9 #[kin k, .slice la ll lc, .int .i64 cut, .int .i64 key] w fun e w' => e = .returned (.bool true) ∧ Below w.heap.size w w' := by
  obtain ⟨ao, lo, co, an, ln, cn, kn, ks, kg, kk, kf⟩ := k
  unfold kin
  obtain ⟨hk1, hk2⟩ := hk
  simp only at hk1 hk2
  have hI' : Hid (Ins4 w la ll lc) := hI
  clear hI
  go_enter Try.func9, Try.ntmps9
  go_upto_region 1 with fail
  refine world_gen (fun W => Hid (Kpk W w.heap.size (.slice ao lo co) (.slice an ln cn) kn ks kg kk kf) ∧ Hid (Ints W ao lo co) ∧ Hid (Ints W an ln cn) ∧ Hid (Below w.heap.size w W)) ⟨O.kpk_new _ _ _ _ _ _ _ _, hk1.call (below_alloc _ _), hk2.call (below_alloc _ _), below_alloc _ _⟩ ?_
  clear hk1 hk2
  rintro W ⟨hK, hk1, hk2, hB⟩
  obtain ⟨g0, hg0⟩ : ∃ x, Hid (w.heap.size = x) := ⟨_, rfl⟩
  rw [hg0.out] at hK hB ⊢
  have c0 := hK.out.c0
  have c1 := hK.out.c1
  have c2 := hK.out.c2
  have c3 := hK.out.c3
  have c4 := hK.out.c4
  have c5 := hK.out.c5
  have c6 := hK.out.c6
  go_wp2_with fail
  refine (O.keep_any ao lo co an ln cn kn ks kg kk kf _ hk1.out hk2.out).mono ?_
  rintro e W1 ⟨⟨os, pn, ps, pa, pk, pf⟩, u, hS, he, ho, hu, b1⟩
  simp only at he ho
  subst he
  obtain ⟨ua, uc, rfl⟩ := own_len ho
  have hS' : Hid (Small ⟨os, pn, ps, pa, pk, pf⟩) := hS
  have hO : Hid (OpsIn W1 (.slice ua os.length uc) os) := ⟨O.own_base ho (Nat.zero_le _), (small_new hS).2.2.1⟩
  have hWz : g0 ≤ W.heap.size := by have := hB.out.size; have := hg0.out; omega
  replace hB : Hid (Below g0 w W1) := hB.out.trans (b1.mono hWz)
  clear hK hk1 hk2 c0 c1 c2 c3 c4 c5 c6 ho hu b1 hS
  go_upto_region 2 with fail
  refine world_gen (fun X => Hid (Pik X W1.heap.size (.slice ua os.length uc) pn ps pa pk pf) ∧ Hid (OpsIn X (.slice ua os.length uc) os) ∧ Hid (Below g0 w X) ∧ W1.heap.size < X.heap.size) ⟨O.pik_new _ _ _ _ _ _ _, hO.out.below (below_alloc _ _), hB.out.alloc (by have := hB.out.size; have := hg0.out; omega) _, by simp⟩ ?_
  have hgw : g0 ≤ W1.heap.size := by have := hB.out.size; have := hg0.out; omega
  clear hO hB
  generalize W1.heap.size = gp at hgw ⊢
  rintro W0 ⟨hP, hO, hB, hgp⟩
  have f0 := hP.out.free 0
  have c0 := hP.out.c0
  go_upto_region 3 with fail
  refine world_gen (fun X => Hid (Pik X gp (.slice none 0 0) pn ps pa pk pf) ∧ Hid (Below g0 w X) ∧ gp < X.heap.size) ⟨hP.out.set0 _, hB.out.setCell (show g0 ≤ gp from hgw) _, by simpa [World.setCell] using hgp⟩ ?_
  clear hP hO hB hgp f0 c0
  rintro X0 ⟨hP, hB, hgp⟩
  obtain ⟨i0, hi, hx0, hx1, hx2⟩ := info_parts Try.info71
  obtain ⟨j0, hj0, hr0, hr1, hr2⟩ := info_parts Try.info45
  go_wp2_with fail
  refine (inputs_is la ll lc _ (hI'.out.below hB.out (Nat.le_of_eq hg0.out) hB.out.size)).mono ?_
  rintro e W3 ⟨iu, is, rfl, hl25, hG, ho, b3⟩
  obtain ⟨ia, ic, rfl⟩ := own_len ho
  obtain ⟨qi0, hrd, hz1, hz2, hq4⟩ := rdi_own ho (fun i hi => (hG i hi).lt) b3.size
  clear hz1 hz2
  have hG' : Hid (∀ i ∈ is, Good i) := hG
  have hE0 : WE w W3 g0 gp (.slice none 0 0) ⟨[], pn, ps, pa, pk, pf⟩ qi0 (.slice ia is.length ic) is := ⟨hP.out.call b3, opsIn_nil _, hrd, hB.out.trans (b3.mono (by omega)), hgw, by have := b3.size; omega, hq4⟩
  obtain ⟨qi, hE1, hqi⟩ := hE0.some
  have hE : Hid (WE w W3 g0 gp (.slice none 0 0) ⟨[], pn, ps, pa, pk, pf⟩ qi (.slice ia is.length ic) is) := hE1
  clear hP hB hrd hG ho b3 hq4 hE0 hE1 hgp
  obtain ⟨m, hm⟩ : ∃ m, Hid (is.length = m) := ⟨_, rfl⟩
  rw [hm.out] at hl25 hE ⊢
  obtain ⟨B, hB⟩ : ∃ B, Hid (W3.heap.size = B) := ⟨_, rfl⟩
  have hBg : gp < B ∧ qi < B := ⟨by have := hE.out.hp; have := hB.out; omega, by have := hB.out; omega⟩
  clear hqi
  go_wp2_with fail
  go_loopw [10, 28] (fun u i wr => ∃ j : Nat, j ≤ m ∧ i = .int .i64 j ∧ Hid (wr.ownsRow B 71 5 u ((is.take j).filter (fun i => !i.mrk)).length (ins ((is.take j).filter (fun i => !i.mrk)))) ∧ Hid (WE w wr g0 gp (.slice none 0 0) ⟨[], pn, ps, pa, pk, pf⟩ qi (.slice ia m ic) is) ∧ B ≤ wr.heap.size) (fun _ i _ => m - (intOf i).toNat)
  case atStart => exact ⟨0, Nat.zero_le _, rfl, World.ownsRow_nil _ _ _ _, hE, Nat.le_of_eq hB.out.symm⟩
  case round =>
    obtain ⟨j, hj, rfl, hT, hE, hBz⟩ := hrel
    by_cases hlt : j < m
    · have hjl : j < is.length := by rw [hm.out]; exact hlt
      obtain ⟨hl, _, ao', cap', he', hlc, hcm', hcell⟩ := hE.out.I
      injection he' with he1 he2 he3
      subst he1 he3
      obtain ⟨off, rfl, hgb, hrow⟩ := hcell (by omega)
      have hat := hrow j hjl
      have hfa := filt_step (fun i => !i.mrk) is j hjl
      have hla := filt_len (fun i => !i.mrk) is j
      obtain ⟨x, hx⟩ : ∃ x, Hid (iAt is j = x) := ⟨_, rfl⟩
      rw [hx.out] at hat hfa
      have hfa' : Hid ((is.take (j + 1)).filter (fun i => !i.mrk) = (is.take j).filter (fun i => !i.mrk) ++ (if (fun i : Inp => !i.mrk) x = true then [x] else [])) := hfa
      clear hcell hrow hl hlc hcm' he2 hgb hx hfa hjl
      generalize (is.take j).filter (fun i => !i.mrk) = fa at hT hfa' hla
      obtain ⟨d0, d1, d2, d3, d4⟩ := hat
      go_upto_region 7 with fail
      clear d0 d1 d2 d3 d4
      refine world_gen (fun X => Hid (Ink X wr.heap.size x) ∧ Hid (X.ownsRow B 71 5 u10 fa.length (ins fa)) ∧ Hid (WE w X g0 gp (.slice none 0 0) ⟨[], pn, ps, pa, pk, pf⟩ qi (.slice (some ⟨qi, off, none⟩) m ic) is) ∧ wr.heap.size < X.heap.size) ⟨ink_new _ _, hT.out.alloc _, hE.out.alloc _, by simp⟩ ?_
      clear hT hE
      rintro X ⟨hK, hT, hE, hXz⟩
      generalize wr.heap.size = gi at hK hBz hXz ⊢
      obtain ⟨mk, ⟨et, ek, ev, el⟩⟩ := x
      obtain ⟨c0, c1, c2, c3, c4⟩ := hK.out.c
      simp only at c0 c1 c2 c3 c4
      cases mk with
      | true =>
        have eqa : (is.take (j + 1)).filter (fun i => !i.mrk) = fa := by rw [hfa'.out]; simp
        have hT9 : Hid (X.ownsRow B 71 5 u10 ((is.take (j + 1)).filter (fun i => !i.mrk)).length (ins ((is.take (j + 1)).filter (fun i => !i.mrk)))) := by
          have h : X.ownsRow B 71 5 u10 ((is.take (j + 1)).filter (fun i => !i.mrk)).length (ins ((is.take (j + 1)).filter (fun i => !i.mrk))) := by rw [eqa]; exact hT.out
          exact h
        clear eqa hT
        go_wp2_with fail
        go_roundw
        case rel => exact ⟨j + 1, by omega, by go_num, hT9, hE, by omega⟩
        case measure => simp [intOf]; omega
      | false =>
        go_wp2_with (at_builtin; refine wpList_append_srcN _ (by rfl) _ _ 55 rfl 5 B 71 i0 izero 40 Try.underlying55 hi hx0 hx1 hx2 rfl (by decide) u10 fa.length (ins fa) rfl (hT.out.alloc _) (.slice (some ⟨X.heap.size, 0, none⟩) 1 1) 1 (ins [(⟨false, ⟨et, ek, ev, el⟩⟩ : Inp)]) rfl (in_src X ⟨false, ⟨et, ek, ev, el⟩⟩ _ rfl) (ins_one _) ?c1 ?c2 ?c3 ?_)
        case c1 => unfold maxLen; omega
        case c2 => omega
        case c3 => first | omega | (simp; omega)
        intro v5 W5 o5 b5
        have hS5 : X.heap.size < W5.heap.size := Nat.lt_of_lt_of_le (by simp) b5.size
        have hE5 : Hid (WE w W5 g0 gp (.slice none 0 0) ⟨[], pn, ps, pa, pk, pf⟩ qi (.slice (some ⟨qi, off, none⟩) m ic) is) := (hE.out.alloc _).keep b5 b5.size hBg.1 (fun k hk => by cases hk) hBg.2 (by simp; omega)
        have eqa : (is.take (j + 1)).filter (fun i => !i.mrk) = fa ++ [(⟨false, ⟨et, ek, ev, el⟩⟩ : Inp)] := by rw [hfa'.out]; simp
        have hT9 : Hid (W5.ownsRow B 71 5 v5 ((is.take (j + 1)).filter (fun i => !i.mrk)).length (ins ((is.take (j + 1)).filter (fun i => !i.mrk)))) := by
          have h : W5.ownsRow B 71 5 v5 ((is.take (j + 1)).filter (fun i => !i.mrk)).length (ins ((is.take (j + 1)).filter (fun i => !i.mrk))) := by rw [eqa, ins_append, List.length_append]; exact o5
          exact h
        clear eqa o5 b5 hE hT hK c0 c1 c2 c3 c4
        go_wp2_with fail
        go_roundw
        case rel => exact ⟨j + 1, by omega, by go_num, hT9, hE5, by omega⟩
        case measure => simp [intOf]; omega
    · obtain rfl : m = j := by omega
      rw [List.take_of_length_le (Nat.le_of_eq hm.out)] at hT
      have hfl := filt_len (fun i => !i.mrk) is m
      rw [List.take_of_length_le (Nat.le_of_eq hm.out)] at hfl
      have hO1 : Hid (∀ c, rowsR ⟨[], pn, ps, pa, pk, pf⟩ r0 ((is.filter (fun i => !i.mrk)).drop c ++ (is.filter (fun i => !i.mrk)).take c ++ [endI]) = rowsR ⟨[], pn, ps, pa, pk, pf⟩ r0 (is.filter (fun i => !i.mrk) ++ [endI])) := fun c => evs_order (p := ⟨[], pn, ps, pa, pk, pf⟩) rfl (show pn ≤ 48 from small_n hS'.out) hG'.out (by rw [hm.out]; omega) c
      have hO2 : Hid (∀ y, 4 ≤ y → rowsP (fun k => !decide (k = y)) (rowsR ⟨[], pn, ps, pa, pk, pf⟩ r0 (is.filter (fun i => !i.mrk) ++ [⟨false, ⟨5, y, 1, 1⟩⟩, endI])) = rowsR ⟨[], pn, ps, pa, pk, pf⟩ r0 (is.filter (fun i => !i.mrk) ++ [endI])) := fun y hy => evs_more (p := ⟨[], pn, ps, pa, pk, pf⟩) rfl (show pn ≤ 48 from small_n hS'.out) hG'.out y hy
      have hlab : Hid (∀ i ∈ is.filter (fun i => !i.mrk), i.e.l < 18446744073709551616) := by
        have h : ∀ i ∈ is.filter (fun i => !i.mrk), i.e.l < 18446744073709551616 := fun i hi => (hG'.out i (List.mem_filter.1 hi).1).lt
        exact h
      generalize is.filter (fun i => !i.mrk) = es at hT hfl hO1 hO2 hlab
      obtain ⟨ea, ec, rfl⟩ := own_len hT.out
      obtain ⟨ke, hK0⟩ : ∃ ke, Hid (es.length = ke) := ⟨_, rfl⟩
      rw [hK0.out] at hT hfl ⊢
      have hec : ke ≤ ec ∧ ec ≤ 9223372036854775807 := by
        obtain ⟨q, hq, _⟩ := rdi_own hT.out hlab.out hBz
        have := hq.caps
        omega
      go_upto_region 11 with fail
      refine world_gen (fun X => Hid (Ink X wr.heap.size endI) ∧ Hid (X.ownsRow B 71 5 (.slice ea ke ec) ke (ins es)) ∧ Hid (Below g0 w X) ∧ Hid (Pik X gp (.slice none 0 0) pn ps pa pk pf) ∧ wr.heap.size < X.heap.size) ⟨ink_new wr endI, hT.out.alloc _, (hE.out.alloc _).B, (hE.out.alloc _).P, by simp⟩ ?_
      have hg0z : g0 < wr.heap.size := hE.out.size
      clear hT hE
      rintro X ⟨hEn, hT, hBX, hP, hXz⟩
      generalize wr.heap.size = ge at hEn hBz hXz hg0z ⊢
      go_wp2_with fail
      refine (O.within_any cut 0 ke _ (by decide) (by omega) (by omega)).mono ?_
      rintro e V ⟨⟨ci, hc0, hc1, rfl⟩, he⟩; obtain rfl := he.symm; clear he
      obtain ⟨c, rfl⟩ : ∃ n : Nat, ci = n := ⟨ci.toNat, by omega⟩
      have hcK : c ≤ ke := by omega
      go_upto_region 12 with fail
      have hPX : gp < X.heap.size := by omega
      obtain ⟨V1, hV1⟩ : ∃ V1, Hid (X = V1) := ⟨_, rfl⟩
      rw [hV1.out] at hEn hT hBX hP hXz hPX ⊢
      clear hV1
      go_cut [15] (fun q wx => Hid (RdR wx q (rowsR ⟨[], pn, ps, pa, pk, pf⟩ r0 (es ++ [endI]))) ∧ Hid (Below V1.heap.size V1 wx))
      case first =>
        have hHeld0 : Below V1.heap.size V1 V1.drew := (Below.refl _ _).drew
        refine wp_region_held_drew (S := fun X => Below V1.heap.size V1 X) (by kernel_rfl) hHeld0 (fun hHeld => ?_)
        generalize V1.drew = V at hHeld0 hHeld ⊢
        have hT0 : Hid (V1.ownsRow B 71 5 (.slice ea ke ec) ke (ins es)) := hT
        clear hT hHeld0
        have hT : Two V V1.heap.size 71 5 (.slice none 0 0) (.slice none 0 0) 0 0 [] [] := two_nil _ _ _ _
        refine take_at (i := 0) (v := O.pv (.slice none 0 0) pn ps pa pk pf) rfl rfl (by kernel_rfl) (by kernel_rfl) (by kernel_rfl) (fun _ _ _ h => h) (Or.inl ⟨by rfl, fun X hX => by have h := (hP.out).call hX; have c0 := h.c0; have c1 := h.c1; have c2 := h.c2; have c3 := h.c3; have c4 := h.c4; have c5 := h.c5; go_simp⟩) hHeld ?_
        try simp only [Act.put, List.setIfInBounds_toArray, List.set_cons_zero, List.set_cons_succ]
        refine take_at (i := 2) (v := (.slice ea ke ec)) rfl rfl (by kernel_rfl) (by kernel_rfl) (by kernel_rfl) (fun _ _ _ h => h) (Or.inl ⟨by rfl, fun X _ => by go_simp⟩) hHeld ?_
        try simp only [Act.put, List.setIfInBounds_toArray, List.set_cons_zero, List.set_cons_succ]
        refine take_at (i := 4) (v := .agg #[.bool true, .int .i64 1000, .int .i64 0, .int .i64 0, .int .u64 0]) rfl rfl (by kernel_rfl) (by kernel_rfl) (by kernel_rfl) (fun _ _ _ h => h) (Or.inl ⟨by rfl, fun X hX => by obtain ⟨k0, k1, k2, k3, k4⟩ := InAt.keep hEn.out.c (hX.block ge (by omega)); simp only [endI] at k0 k1 k2 k3 k4; go_simp⟩) hHeld ?_
        try simp only [Act.put, List.setIfInBounds_toArray, List.set_cons_zero, List.set_cons_succ]
        refine wpAnyH_ready (rs := [1, 5]) (by kernel_rfl) (by simp) ?_
        refine AllReadyH.cons rfl (fun K hK => ?_) (AllReadyH.cons rfl (fun K hK => ?_) AllReadyH.nil)
        · rw [if_pos (by rfl)]
          go_simp
          have hTn : Two (V.alloc (.cells #[] 71)) V1.heap.size 71 5 (.slice (some ⟨V.heap.size, 0, none⟩) 0 0) (.slice none 0 0) 0 0 (ins []) [] := two_lit0L hT (show V1.heap.size ≤ V.heap.size from hHeld.size)
          have hHn : Below V1.heap.size V1 (V.alloc (.cells #[] 71)) := below_call hHeld (below_alloc _ _)
          obtain ⟨Y20, hY⟩ : ∃ Y, Hid (V.alloc (.cells #[] 71) = Y) := ⟨_, rfl⟩
          rw [hY.out] at hTn hHn ⊢
          clear hY hT hHeld
          have hT := hTn
          clear hTn
          refine hK.out _ _ (hHn) (fun hHeld => ?_)
          clear hK K hHn
          try simp only [Act.put, List.setIfInBounds_toArray, List.set_cons_zero, List.set_cons_succ]
          refine wpAnyH_ready (rs := [3, 5]) (by kernel_rfl) (by simp) ?_
          refine AllReadyH.cons rfl (fun K hK => ?_) (AllReadyH.cons rfl (fun K hK => ?_) AllReadyH.nil)
          · refine step_append_srcY rfl rfl (.tmp 47) (.tmp 48) 55 rfl 5 V1.heap.size 71 i0 izero 40 Try.underlying55 hi hx0 hx1 hx2 rfl (by decide) (.slice (some ⟨V.heap.size, 0, none⟩) 0 0) 0 (ins []) rfl hT.hu (.slice ea ke ec) ke (ins es) rfl ((srcN_own hT0.out).below hHeld) (ins_one _) (by unfold maxLen; omega) (by omega) (show V1.heap.size ≤ Y20.heap.size from hHeld.size) ?_
            intro v21 W21 o21 b21 g21 f21
            replace hT := hT.left o21 g21 (fun z hz => by have h := f21 z hz; simpa using h)
            have hH21 := hHeld.trans b21
            clear o21 b21 g21 f21 hHeld
            refine hK.out _ _ (hH21) (fun hHeld => ?_)
            clear hK K hH21
            try simp only [Act.put, List.setIfInBounds_toArray, List.set_cons_zero, List.set_cons_succ]
            refine wpAnyH_ready (rs := [5]) (by kernel_rfl) (by simp) ?_
            refine AllReadyH.cons rfl (fun K hK => ?_) AllReadyH.nil
            rw [if_pos (by rfl)]
            go_simp
            have hTn : Two (W21.alloc (.cells #[.bool true, .int .i64 1000, .int .i64 0, .int .i64 0, .int .u64 0] 71)) V1.heap.size 71 5 v21 (.slice (some ⟨W21.heap.size, 0, none⟩) 1 1) (0 + ke) 1 ((ins []) ++ (ins es)) (ins [endI]) := two_lit1R endI hT (show V1.heap.size ≤ W21.heap.size from hHeld.size)
            have hHn : Below V1.heap.size V1 (W21.alloc (.cells #[.bool true, .int .i64 1000, .int .i64 0, .int .i64 0, .int .u64 0] 71)) := below_call hHeld (below_alloc _ _)
            obtain ⟨Y22, hY⟩ : ∃ Y, Hid (W21.alloc (.cells #[.bool true, .int .i64 1000, .int .i64 0, .int .i64 0, .int .u64 0] 71) = Y) := ⟨_, rfl⟩
            rw [hY.out] at hTn hHn ⊢
            clear hY hT hHeld
            have hT := hTn
            clear hTn
            refine hK.out _ _ (hHn) (fun hHeld => ?_)
            clear hK K hHn
            try simp only [Act.put, List.setIfInBounds_toArray, List.set_cons_zero, List.set_cons_succ]
            refine wpAnyH_ready (rs := [6]) (by kernel_rfl) (by simp) ?_
            refine AllReadyH.cons rfl (fun K hK => ?_) AllReadyH.nil
            refine step_append_srcY rfl rfl (.tmp 49) (.tmp 51) 55 rfl 5 V1.heap.size 71 i0 izero 40 Try.underlying55 hi hx0 hx1 hx2 rfl (by decide) v21 (0 + ke) ((ins []) ++ (ins es)) rfl hT.hu (.slice (some ⟨W21.heap.size, 0, none⟩) 1 1) 1 (ins [endI]) rfl ((srcN_own hT.hv)) (ins_one _) (by unfold maxLen; omega) (by omega) (show V1.heap.size ≤ Y22.heap.size from hHeld.size) ?_
            intro v23 W23 o23 b23 g23 f23
            replace hT := hT.left o23 g23 (fun z hz => by have h := f23 z hz; simpa using h)
            have hH23 := hHeld.trans b23
            clear o23 b23 g23 f23 hHeld
            refine hK.out _ _ (hH23) (fun hHeld => ?_)
            clear hK K hH23
            try simp only [Act.put, List.setIfInBounds_toArray, List.set_cons_zero, List.set_cons_succ]
            refine wpAnyH_ready (rs := [7]) (by kernel_rfl) (by simp) ?_
            refine AllReadyH.cons rfl (fun K hK => ?_) AllReadyH.nil
            rw [if_pos (by rfl)]
            have ho8 : W23.ownsRow V1.heap.size 71 5 v23 (es ++ [endI]).length (ins (es ++ [endI])) := by have h := hT.hu; rw [ins_append, List.length_append, hK0.out]; simpa [ins] using h
            obtain ⟨q8, hq8, hz1, hz2, hq8'⟩ := rdi_own ho8 (end_l hlab.out) hHeld.size
            clear hT ho8 hz1 hz2
            go_wp2_with fail
            refine (wrows_is (.slice none 0 0) ⟨[], pn, ps, pa, pk, pf⟩ v23 q8 (es ++ [endI]) _ (opsIn_nil _) (small_plain hS'.out) (by simp) hq8 hq8' (by simp only [List.length_append, List.length_drop, List.length_take, hK0.out, List.length_cons, List.length_nil]; omega)).mono ?_
            rintro e W9 ⟨u9, rfl, hu9, b9⟩
            have hr9 := rdr_own hu9
            clear hu9 hq8
            have hH9 := below_call hHeld b9
            clear hHeld b9
            go_wp2_with fail
            refine hK.out _ _ (hH9) (fun hHeld => ?_)
            clear hK K hH9
            try simp only [Act.put, List.setIfInBounds_toArray, List.set_cons_zero, List.set_cons_succ]
            refine take_at (i := 8) (v := u9) rfl rfl (by kernel_rfl) (by kernel_rfl) (by kernel_rfl) (fun _ _ _ h => h) (Or.inl ⟨by rfl, fun X _ => by go_simp⟩) hHeld ?_
            try simp only [Act.put, List.setIfInBounds_toArray, List.set_cons_zero, List.set_cons_succ]
            refine wpAnyH_done (by kernel_rfl) ?_ _
            go_wp2_with fail
            go_meet
            exact ⟨hr9, hHeld⟩
          · rw [if_pos (by rfl)]
            go_simp
            have hTn : Two (Y20.alloc (.cells #[.bool true, .int .i64 1000, .int .i64 0, .int .i64 0, .int .u64 0] 71)) V1.heap.size 71 5 (.slice (some ⟨V.heap.size, 0, none⟩) 0 0) (.slice (some ⟨Y20.heap.size, 0, none⟩) 1 1) 0 1 (ins []) (ins [endI]) := two_lit1R endI hT (show V1.heap.size ≤ Y20.heap.size from hHeld.size)
            have hHn : Below V1.heap.size V1 (Y20.alloc (.cells #[.bool true, .int .i64 1000, .int .i64 0, .int .i64 0, .int .u64 0] 71)) := below_call hHeld (below_alloc _ _)
            obtain ⟨Y21, hY⟩ : ∃ Y, Hid (Y20.alloc (.cells #[.bool true, .int .i64 1000, .int .i64 0, .int .i64 0, .int .u64 0] 71) = Y) := ⟨_, rfl⟩
            rw [hY.out] at hTn hHn ⊢
            clear hY hT hHeld
            have hT := hTn
            clear hTn
            refine hK.out _ _ (hHn) (fun hHeld => ?_)
            clear hK K hHn
            try simp only [Act.put, List.setIfInBounds_toArray, List.set_cons_zero, List.set_cons_succ]
            refine wpAnyH_ready (rs := [3]) (by kernel_rfl) (by simp) ?_
            refine AllReadyH.cons rfl (fun K hK => ?_) AllReadyH.nil
            refine step_append_srcY rfl rfl (.tmp 47) (.tmp 48) 55 rfl 5 V1.heap.size 71 i0 izero 40 Try.underlying55 hi hx0 hx1 hx2 rfl (by decide) (.slice (some ⟨V.heap.size, 0, none⟩) 0 0) 0 (ins []) rfl hT.hu (.slice ea ke ec) ke (ins es) rfl ((srcN_own hT0.out).below hHeld) (ins_one _) (by unfold maxLen; omega) (by omega) (show V1.heap.size ≤ Y21.heap.size from hHeld.size) ?_
            intro v22 W22 o22 b22 g22 f22
            replace hT := hT.left o22 g22 (fun z hz => by have h := f22 z hz; simpa using h)
            have hH22 := hHeld.trans b22
            clear o22 b22 g22 f22 hHeld
            refine hK.out _ _ (hH22) (fun hHeld => ?_)
            clear hK K hH22
            try simp only [Act.put, List.setIfInBounds_toArray, List.set_cons_zero, List.set_cons_succ]
            refine wpAnyH_ready (rs := [6]) (by kernel_rfl) (by simp) ?_
            refine AllReadyH.cons rfl (fun K hK => ?_) AllReadyH.nil
            refine step_append_srcY rfl rfl (.tmp 49) (.tmp 51) 55 rfl 5 V1.heap.size 71 i0 izero 40 Try.underlying55 hi hx0 hx1 hx2 rfl (by decide) v22 (0 + ke) ((ins []) ++ (ins es)) rfl hT.hu (.slice (some ⟨Y20.heap.size, 0, none⟩) 1 1) 1 (ins [endI]) rfl ((srcN_own hT.hv)) (ins_one _) (by unfold maxLen; omega) (by omega) (show V1.heap.size ≤ W22.heap.size from hHeld.size) ?_
            intro v23 W23 o23 b23 g23 f23
            replace hT := hT.left o23 g23 (fun z hz => by have h := f23 z hz; simpa using h)
            have hH23 := hHeld.trans b23
            clear o23 b23 g23 f23 hHeld
            refine hK.out _ _ (hH23) (fun hHeld => ?_)
            clear hK K hH23
            try simp only [Act.put, List.setIfInBounds_toArray, List.set_cons_zero, List.set_cons_succ]
            refine wpAnyH_ready (rs := [7]) (by kernel_rfl) (by simp) ?_
            refine AllReadyH.cons rfl (fun K hK => ?_) AllReadyH.nil
            rw [if_pos (by rfl)]
            have ho8 : W23.ownsRow V1.heap.size 71 5 v23 (es ++ [endI]).length (ins (es ++ [endI])) := by have h := hT.hu; rw [ins_append, List.length_append, hK0.out]; simpa [ins] using h
            obtain ⟨q8, hq8, hz1, hz2, hq8'⟩ := rdi_own ho8 (end_l hlab.out) hHeld.size
            clear hT ho8 hz1 hz2
            go_wp2_with fail
            refine (wrows_is (.slice none 0 0) ⟨[], pn, ps, pa, pk, pf⟩ v23 q8 (es ++ [endI]) _ (opsIn_nil _) (small_plain hS'.out) (by simp) hq8 hq8' (by simp only [List.length_append, List.length_drop, List.length_take, hK0.out, List.length_cons, List.length_nil]; omega)).mono ?_
            rintro e W9 ⟨u9, rfl, hu9, b9⟩
            have hr9 := rdr_own hu9
            clear hu9 hq8
            have hH9 := below_call hHeld b9
            clear hHeld b9
            go_wp2_with fail
            refine hK.out _ _ (hH9) (fun hHeld => ?_)
            clear hK K hH9
            try simp only [Act.put, List.setIfInBounds_toArray, List.set_cons_zero, List.set_cons_succ]
            refine take_at (i := 8) (v := u9) rfl rfl (by kernel_rfl) (by kernel_rfl) (by kernel_rfl) (fun _ _ _ h => h) (Or.inl ⟨by rfl, fun X _ => by go_simp⟩) hHeld ?_
            try simp only [Act.put, List.setIfInBounds_toArray, List.set_cons_zero, List.set_cons_succ]
            refine wpAnyH_done (by kernel_rfl) ?_ _
            go_wp2_with fail
            go_meet
            exact ⟨hr9, hHeld⟩
        · rw [if_pos (by rfl)]
          go_simp
          have hTn : Two (V.alloc (.cells #[.bool true, .int .i64 1000, .int .i64 0, .int .i64 0, .int .u64 0] 71)) V1.heap.size 71 5 (.slice none 0 0) (.slice (some ⟨V.heap.size, 0, none⟩) 1 1) 0 1 [] (ins [endI]) := two_lit1R endI hT (show V1.heap.size ≤ V.heap.size from hHeld.size)
          have hHn : Below V1.heap.size V1 (V.alloc (.cells #[.bool true, .int .i64 1000, .int .i64 0, .int .i64 0, .int .u64 0] 71)) := below_call hHeld (below_alloc _ _)
          obtain ⟨Y20, hY⟩ : ∃ Y, Hid (V.alloc (.cells #[.bool true, .int .i64 1000, .int .i64 0, .int .i64 0, .int .u64 0] 71) = Y) := ⟨_, rfl⟩
          rw [hY.out] at hTn hHn ⊢
          clear hY hT hHeld
          have hT := hTn
          clear hTn
          refine hK.out _ _ (hHn) (fun hHeld => ?_)
          clear hK K hHn
          try simp only [Act.put, List.setIfInBounds_toArray, List.set_cons_zero, List.set_cons_succ]
          refine wpAnyH_ready (rs := [1]) (by kernel_rfl) (by simp) ?_
          refine AllReadyH.cons rfl (fun K hK => ?_) AllReadyH.nil
          rw [if_pos (by rfl)]
          go_simp
          have hTn : Two (Y20.alloc (.cells #[] 71)) V1.heap.size 71 5 (.slice (some ⟨Y20.heap.size, 0, none⟩) 0 0) (.slice (some ⟨V.heap.size, 0, none⟩) 1 1) 0 1 (ins []) (ins [endI]) := two_lit0L hT (show V1.heap.size ≤ Y20.heap.size from hHeld.size)
          have hHn : Below V1.heap.size V1 (Y20.alloc (.cells #[] 71)) := below_call hHeld (below_alloc _ _)
          obtain ⟨Y21, hY⟩ : ∃ Y, Hid (Y20.alloc (.cells #[] 71) = Y) := ⟨_, rfl⟩
          rw [hY.out] at hTn hHn ⊢
          clear hY hT hHeld
          have hT := hTn
          clear hTn
          refine hK.out _ _ (hHn) (fun hHeld => ?_)
          clear hK K hHn
          try simp only [Act.put, List.setIfInBounds_toArray, List.set_cons_zero, List.set_cons_succ]
          refine wpAnyH_ready (rs := [3]) (by kernel_rfl) (by simp) ?_
          refine AllReadyH.cons rfl (fun K hK => ?_) AllReadyH.nil
          refine step_append_srcY rfl rfl (.tmp 47) (.tmp 48) 55 rfl 5 V1.heap.size 71 i0 izero 40 Try.underlying55 hi hx0 hx1 hx2 rfl (by decide) (.slice (some ⟨Y20.heap.size, 0, none⟩) 0 0) 0 (ins []) rfl hT.hu (.slice ea ke ec) ke (ins es) rfl ((srcN_own hT0.out).below hHeld) (ins_one _) (by unfold maxLen; omega) (by omega) (show V1.heap.size ≤ Y21.heap.size from hHeld.size) ?_
          intro v22 W22 o22 b22 g22 f22
          replace hT := hT.left o22 g22 (fun z hz => by have h := f22 z hz; simpa using h)
          have hH22 := hHeld.trans b22
          clear o22 b22 g22 f22 hHeld
          refine hK.out _ _ (hH22) (fun hHeld => ?_)
          clear hK K hH22
          try simp only [Act.put, List.setIfInBounds_toArray, List.set_cons_zero, List.set_cons_succ]
          refine wpAnyH_ready (rs := [6]) (by kernel_rfl) (by simp) ?_
          refine AllReadyH.cons rfl (fun K hK => ?_) AllReadyH.nil
          refine step_append_srcY rfl rfl (.tmp 49) (.tmp 51) 55 rfl 5 V1.heap.size 71 i0 izero 40 Try.underlying55 hi hx0 hx1 hx2 rfl (by decide) v22 (0 + ke) ((ins []) ++ (ins es)) rfl hT.hu (.slice (some ⟨V.heap.size, 0, none⟩) 1 1) 1 (ins [endI]) rfl ((srcN_own hT.hv)) (ins_one _) (by unfold maxLen; omega) (by omega) (show V1.heap.size ≤ W22.heap.size from hHeld.size) ?_
          intro v23 W23 o23 b23 g23 f23
          replace hT := hT.left o23 g23 (fun z hz => by have h := f23 z hz; simpa using h)
          have hH23 := hHeld.trans b23
          clear o23 b23 g23 f23 hHeld
          refine hK.out _ _ (hH23) (fun hHeld => ?_)
          clear hK K hH23
          try simp only [Act.put, List.setIfInBounds_toArray, List.set_cons_zero, List.set_cons_succ]
          refine wpAnyH_ready (rs := [7]) (by kernel_rfl) (by simp) ?_
          refine AllReadyH.cons rfl (fun K hK => ?_) AllReadyH.nil
          rw [if_pos (by rfl)]
          have ho8 : W23.ownsRow V1.heap.size 71 5 v23 (es ++ [endI]).length (ins (es ++ [endI])) := by have h := hT.hu; rw [ins_append, List.length_append, hK0.out]; simpa [ins] using h
          obtain ⟨q8, hq8, hz1, hz2, hq8'⟩ := rdi_own ho8 (end_l hlab.out) hHeld.size
          clear hT ho8 hz1 hz2
          go_wp2_with fail
          refine (wrows_is (.slice none 0 0) ⟨[], pn, ps, pa, pk, pf⟩ v23 q8 (es ++ [endI]) _ (opsIn_nil _) (small_plain hS'.out) (by simp) hq8 hq8' (by simp only [List.length_append, List.length_drop, List.length_take, hK0.out, List.length_cons, List.length_nil]; omega)).mono ?_
          rintro e W9 ⟨u9, rfl, hu9, b9⟩
          have hr9 := rdr_own hu9
          clear hu9 hq8
          have hH9 := below_call hHeld b9
          clear hHeld b9
          go_wp2_with fail
          refine hK.out _ _ (hH9) (fun hHeld => ?_)
          clear hK K hH9
          try simp only [Act.put, List.setIfInBounds_toArray, List.set_cons_zero, List.set_cons_succ]
          refine take_at (i := 8) (v := u9) rfl rfl (by kernel_rfl) (by kernel_rfl) (by kernel_rfl) (fun _ _ _ h => h) (Or.inl ⟨by rfl, fun X _ => by go_simp⟩) hHeld ?_
          try simp only [Act.put, List.setIfInBounds_toArray, List.set_cons_zero, List.set_cons_succ]
          refine wpAnyH_done (by kernel_rfl) ?_ _
          go_wp2_with fail
          go_meet
          exact ⟨hr9, hHeld⟩
      case rest =>
        obtain ⟨hA, hBV⟩ := hcut
        obtain ⟨V2, hV2⟩ : ∃ X, X = wc := ⟨_, rfl⟩
        subst hV2
        have hz2 : V1.heap.size ≤ V2.heap.size := hBV.out.size
        have hEn2 : Hid (Ink V2 ge endI) := hEn.out.keep (hBV.out.block ge hXz)
        have hP2 : Hid (Pik V2 gp (.slice none 0 0) pn ps pa pk pf) := hP.out.call hBV.out
        have hT2 : Hid (V2.ownsRow B 71 5 (.slice ea ke ec) ke (ins es)) := own_below hT.out hBV.out
        have hB2 : Hid (Below g0 w V2) := hBX.out.trans (hBV.out.mono (by omega))
        clear hEn hP hT hBX hBV
        have hge2 : ge < V2.heap.size := by omega
        have hPX2 : gp < V2.heap.size := by omega
        clear hXz hPX
        go_upto_region 13 with fail
        go_cut [16] (fun q wx => Hid (RdR wx q (rowsR ⟨[], pn, ps, pa, pk, pf⟩ r0 (es ++ [endI]))) ∧ Hid (Below V2.heap.size V2 wx))
        case first =>
          have hHeld0 : Below V2.heap.size V2 V2.drew := (Below.refl _ _).drew
          have hEn := hEn2
          have hP := hP2
          obtain ⟨_, h0 | ⟨g, cp', cur, e1, hgB, hh, hmc, hcm2, hcs, hct⟩⟩ := id hT2.out
          · obtain ⟨h0, h00⟩ := h0
            injection h0 with e1 e2 e3
            subst e1 e2 e3
            obtain rfl : c = 0 := by omega
            have hes : es = [] := List.eq_nil_of_length_eq_zero hK0.out
            have hs1 : Hid (SrcN 5 V2 (.slice none 0 0) 0 (ins (es.drop 0))) := .inl ⟨rfl, rfl, by rw [hes]; rfl⟩
            have hs2 : Hid (SrcN 5 V2 (.slice none 0 0) 0 (ins (es.take 0))) := .inl ⟨rfl, rfl, by simp [ins]⟩
            have hsum : Hid (0 = (es.drop 0).length ∧ 0 = (es.take 0).length) := by
              have h : 0 = (es.drop 0).length ∧ 0 = (es.take 0).length := by rw [hes]; exact ⟨rfl, rfl⟩
              exact h
            have hlabc : Hid (∀ i ∈ es.drop 0 ++ es.take 0 ++ [endI], i.e.l < 18446744073709551616) := end_l (fun i hi => by rcases List.mem_append.1 hi with h | h; exact hlab.out i (List.mem_of_mem_drop h); exact hlab.out i (List.mem_of_mem_take h))
            clear hes h00
            refine wp_region_held_drew (S := fun X => Below V2.heap.size V2 X) (by kernel_rfl) hHeld0 (fun hHeld => ?_)
            generalize V2.drew = V at hHeld0 hHeld ⊢
            clear hHeld0
            have hT : Two V V2.heap.size 71 5 (.slice none 0 0) (.slice none 0 0) 0 0 [] [] := two_nil _ _ _ _
            refine take_at (i := 0) (v := O.pv (.slice none 0 0) pn ps pa pk pf) rfl rfl (by kernel_rfl) (by kernel_rfl) (by kernel_rfl) (fun _ _ _ h => h) (Or.inl ⟨by rfl, fun X hX => by have h := (hP.out).call hX; have c0 := h.c0; have c1 := h.c1; have c2 := h.c2; have c3 := h.c3; have c4 := h.c4; have c5 := h.c5; go_simp⟩) hHeld ?_
            try simp only [Act.put, List.setIfInBounds_toArray, List.set_cons_zero, List.set_cons_succ]
            refine take_at (i := 2) (v := (.slice none 0 0)) rfl rfl (by kernel_rfl) (by kernel_rfl) (by kernel_rfl) (fun _ _ _ h => h) (Or.inl ⟨by rfl, fun X _ => by go_simp⟩) hHeld ?_
            try simp only [Act.put, List.setIfInBounds_toArray, List.set_cons_zero, List.set_cons_succ]
            refine take_at (i := 3) (v := .int .i64 (0 : Int)) rfl rfl (by kernel_rfl) (by kernel_rfl) (by kernel_rfl) (fun _ _ _ h => h) (Or.inl ⟨by rfl, fun X _ => by go_simp⟩) hHeld ?_
            try simp only [Act.put, List.setIfInBounds_toArray, List.set_cons_zero, List.set_cons_succ]
            refine take_at (i := 4) (v := (.slice none 0 0)) rfl rfl (by kernel_rfl) (by kernel_rfl) (by kernel_rfl) (fun _ _ _ h => h) (Or.inl ⟨by rfl, fun X _ => by go_simp⟩) hHeld ?_
            try simp only [Act.put, List.setIfInBounds_toArray, List.set_cons_zero, List.set_cons_succ]
            refine take_at (i := 6) (v := (.slice none 0 0)) rfl rfl (by kernel_rfl) (by kernel_rfl) (by kernel_rfl) (fun _ _ _ h => h) (Or.inl ⟨by rfl, fun X _ => by go_simp⟩) hHeld ?_
            try simp only [Act.put, List.setIfInBounds_toArray, List.set_cons_zero, List.set_cons_succ]
            refine take_at (i := 7) (v := .int .i64 (0 : Int)) rfl rfl (by kernel_rfl) (by kernel_rfl) (by kernel_rfl) (fun _ _ _ h => h) (Or.inl ⟨by rfl, fun X _ => by go_simp⟩) hHeld ?_
            try simp only [Act.put, List.setIfInBounds_toArray, List.set_cons_zero, List.set_cons_succ]
            refine take_at (i := 8) (v := (.slice none 0 0)) rfl rfl (by kernel_rfl) (by kernel_rfl) (by kernel_rfl) (fun _ _ _ h => h) (Or.inl ⟨by rfl, fun X _ => by go_simp⟩) hHeld ?_
            try simp only [Act.put, List.setIfInBounds_toArray, List.set_cons_zero, List.set_cons_succ]
            refine take_at (i := 10) (v := .agg #[.bool true, .int .i64 1000, .int .i64 0, .int .i64 0, .int .u64 0]) rfl rfl (by kernel_rfl) (by kernel_rfl) (by kernel_rfl) (fun _ _ _ h => h) (Or.inl ⟨by rfl, fun X hX => by obtain ⟨k0, k1, k2, k3, k4⟩ := InAt.keep hEn.out.c (hX.block ge (by omega)); simp only [endI] at k0 k1 k2 k3 k4; go_simp⟩) hHeld ?_
            try simp only [Act.put, List.setIfInBounds_toArray, List.set_cons_zero, List.set_cons_succ]
            refine wpAnyH_ready (rs := [1, 11]) (by kernel_rfl) (by simp) ?_
            refine AllReadyH.cons rfl (fun K hK => ?_) (AllReadyH.cons rfl (fun K hK => ?_) AllReadyH.nil)
            · rw [if_pos (by rfl)]
              go_simp
              have hTn : Two (V.alloc (.cells #[] 71)) V2.heap.size 71 5 (.slice (some ⟨V.heap.size, 0, none⟩) 0 0) (.slice none 0 0) 0 0 (ins []) [] := two_lit0L hT (show V2.heap.size ≤ V.heap.size from hHeld.size)
              have hHn : Below V2.heap.size V2 (V.alloc (.cells #[] 71)) := below_call hHeld (below_alloc _ _)
              obtain ⟨Y20, hY⟩ : ∃ Y, Hid (V.alloc (.cells #[] 71) = Y) := ⟨_, rfl⟩
              rw [hY.out] at hTn hHn ⊢
              clear hY hT hHeld
              have hT := hTn
              clear hTn
              refine hK.out _ _ (hHn) (fun hHeld => ?_)
              clear hK K hHn
              try simp only [Act.put, List.setIfInBounds_toArray, List.set_cons_zero, List.set_cons_succ]
              refine wpAnyH_ready (rs := [5, 11]) (by kernel_rfl) (by simp) ?_
              refine AllReadyH.cons rfl (fun K hK => ?_) (AllReadyH.cons rfl (fun K hK => ?_) AllReadyH.nil)
              · refine step_append_srcY rfl rfl (.tmp 55) (.tmp 58) 55 rfl 5 V2.heap.size 71 i0 izero 40 Try.underlying55 hi hx0 hx1 hx2 rfl (by decide) (.slice (some ⟨V.heap.size, 0, none⟩) 0 0) 0 (ins []) rfl hT.hu (.slice none 0 0) 0 (ins (es.drop 0)) rfl (hs1.out.below hHeld) (ins_one _) (by unfold maxLen; omega) (by omega) (show V2.heap.size ≤ Y20.heap.size from hHeld.size) ?_
                intro v21 W21 o21 b21 g21 f21
                replace hT := hT.left o21 g21 (fun z hz => by have h := f21 z hz; simpa using h)
                have hH21 := hHeld.trans b21
                clear o21 b21 g21 f21 hHeld
                refine hK.out _ _ (hH21) (fun hHeld => ?_)
                clear hK K hH21
                try simp only [Act.put, List.setIfInBounds_toArray, List.set_cons_zero, List.set_cons_succ]
                refine wpAnyH_ready (rs := [9, 11]) (by kernel_rfl) (by simp) ?_
                refine AllReadyH.cons rfl (fun K hK => ?_) (AllReadyH.cons rfl (fun K hK => ?_) AllReadyH.nil)
                · refine step_append_srcY rfl rfl (.tmp 59) (.tmp 62) 55 rfl 5 V2.heap.size 71 i0 izero 40 Try.underlying55 hi hx0 hx1 hx2 rfl (by decide) v21 (0 + 0) ((ins []) ++ (ins (es.drop 0))) rfl hT.hu (.slice none 0 0) 0 (ins (es.take 0)) rfl (hs2.out.below hHeld) (ins_one _) (by unfold maxLen; omega) (by omega) (show V2.heap.size ≤ W21.heap.size from hHeld.size) ?_
                  intro v22 W22 o22 b22 g22 f22
                  replace hT := hT.left o22 g22 (fun z hz => by have h := f22 z hz; simpa using h)
                  have hH22 := hHeld.trans b22
                  clear o22 b22 g22 f22 hHeld
                  refine hK.out _ _ (hH22) (fun hHeld => ?_)
                  clear hK K hH22
                  try simp only [Act.put, List.setIfInBounds_toArray, List.set_cons_zero, List.set_cons_succ]
                  refine wpAnyH_ready (rs := [11]) (by kernel_rfl) (by simp) ?_
                  refine AllReadyH.cons rfl (fun K hK => ?_) AllReadyH.nil
                  rw [if_pos (by rfl)]
                  go_simp
                  have hTn : Two (W22.alloc (.cells #[.bool true, .int .i64 1000, .int .i64 0, .int .i64 0, .int .u64 0] 71)) V2.heap.size 71 5 v22 (.slice (some ⟨W22.heap.size, 0, none⟩) 1 1) ((0 + 0) + 0) 1 (((ins []) ++ (ins (es.drop 0))) ++ (ins (es.take 0))) (ins [endI]) := two_lit1R endI hT (show V2.heap.size ≤ W22.heap.size from hHeld.size)
                  have hHn : Below V2.heap.size V2 (W22.alloc (.cells #[.bool true, .int .i64 1000, .int .i64 0, .int .i64 0, .int .u64 0] 71)) := below_call hHeld (below_alloc _ _)
                  obtain ⟨Y23, hY⟩ : ∃ Y, Hid (W22.alloc (.cells #[.bool true, .int .i64 1000, .int .i64 0, .int .i64 0, .int .u64 0] 71) = Y) := ⟨_, rfl⟩
                  rw [hY.out] at hTn hHn ⊢
                  clear hY hT hHeld
                  have hT := hTn
                  clear hTn
                  refine hK.out _ _ (hHn) (fun hHeld => ?_)
                  clear hK K hHn
                  try simp only [Act.put, List.setIfInBounds_toArray, List.set_cons_zero, List.set_cons_succ]
                  refine wpAnyH_ready (rs := [12]) (by kernel_rfl) (by simp) ?_
                  refine AllReadyH.cons rfl (fun K hK => ?_) AllReadyH.nil
                  refine step_append_srcY rfl rfl (.tmp 63) (.tmp 65) 55 rfl 5 V2.heap.size 71 i0 izero 40 Try.underlying55 hi hx0 hx1 hx2 rfl (by decide) v22 ((0 + 0) + 0) (((ins []) ++ (ins (es.drop 0))) ++ (ins (es.take 0))) rfl hT.hu (.slice (some ⟨W22.heap.size, 0, none⟩) 1 1) 1 (ins [endI]) rfl ((srcN_own hT.hv)) (ins_one _) (by unfold maxLen; omega) (by omega) (show V2.heap.size ≤ Y23.heap.size from hHeld.size) ?_
                  intro v24 W24 o24 b24 g24 f24
                  replace hT := hT.left o24 g24 (fun z hz => by have h := f24 z hz; simpa using h)
                  have hH24 := hHeld.trans b24
                  clear o24 b24 g24 f24 hHeld
                  refine hK.out _ _ (hH24) (fun hHeld => ?_)
                  clear hK K hH24
                  try simp only [Act.put, List.setIfInBounds_toArray, List.set_cons_zero, List.set_cons_succ]
                  refine wpAnyH_ready (rs := [13]) (by kernel_rfl) (by simp) ?_
                  refine AllReadyH.cons rfl (fun K hK => ?_) AllReadyH.nil
                  rw [if_pos (by rfl)]
                  have ho8 : W24.ownsRow V2.heap.size 71 5 v24 (es.drop 0 ++ es.take 0 ++ [endI]).length (ins (es.drop 0 ++ es.take 0 ++ [endI])) := by have h := hT.hu; have e := hsum.out; rw [ins_append, ins_append, List.length_append, List.length_append]; rw [← e.1, ← e.2]; simpa [ins] using h
                  obtain ⟨q8, hq8, hz1, hz2, hq8'⟩ := rdi_own ho8 (hlabc.out) hHeld.size
                  clear hT ho8 hz1 hz2
                  go_wp2_with fail
                  refine (wrows_is (.slice none 0 0) ⟨[], pn, ps, pa, pk, pf⟩ v24 q8 (es.drop 0 ++ es.take 0 ++ [endI]) _ (opsIn_nil _) (small_plain hS'.out) (by simp) hq8 hq8' (by simp only [List.length_append, List.length_drop, List.length_take, hK0.out, List.length_cons, List.length_nil]; omega)).mono ?_
                  rintro e W9 ⟨u9, rfl, hu9, b9⟩
                  have hr9 : Hid (RdR W9 u9 (rowsR ⟨[], pn, ps, pa, pk, pf⟩ r0 (es ++ [endI]))) := by
                    have h := rdr_own hu9
                    rw [hO1.out] at h
                    exact h
                  clear hu9 hq8
                  have hH9 := below_call hHeld b9
                  clear hHeld b9
                  go_wp2_with fail
                  refine hK.out _ _ (hH9) (fun hHeld => ?_)
                  clear hK K hH9
                  try simp only [Act.put, List.setIfInBounds_toArray, List.set_cons_zero, List.set_cons_succ]
                  refine take_at (i := 14) (v := u9) rfl rfl (by kernel_rfl) (by kernel_rfl) (by kernel_rfl) (fun _ _ _ h => h) (Or.inl ⟨by rfl, fun X _ => by go_simp⟩) hHeld ?_
                  try simp only [Act.put, List.setIfInBounds_toArray, List.set_cons_zero, List.set_cons_succ]
                  refine wpAnyH_done (by kernel_rfl) ?_ _
                  go_wp2_with fail
                  go_meet
                  exact ⟨hr9, hHeld⟩
                · rw [if_pos (by rfl)]
                  go_simp
                  have hTn : Two (W21.alloc (.cells #[.bool true, .int .i64 1000, .int .i64 0, .int .i64 0, .int .u64 0] 71)) V2.heap.size 71 5 v21 (.slice (some ⟨W21.heap.size, 0, none⟩) 1 1) (0 + 0) 1 ((ins []) ++ (ins (es.drop 0))) (ins [endI]) := two_lit1R endI hT (show V2.heap.size ≤ W21.heap.size from hHeld.size)
                  have hHn : Below V2.heap.size V2 (W21.alloc (.cells #[.bool true, .int .i64 1000, .int .i64 0, .int .i64 0, .int .u64 0] 71)) := below_call hHeld (below_alloc _ _)
                  obtain ⟨Y22, hY⟩ : ∃ Y, Hid (W21.alloc (.cells #[.bool true, .int .i64 1000, .int .i64 0, .int .i64 0, .int .u64 0] 71) = Y) := ⟨_, rfl⟩
                  rw [hY.out] at hTn hHn ⊢
                  clear hY hT hHeld
                  have hT := hTn
                  clear hTn
                  refine hK.out _ _ (hHn) (fun hHeld => ?_)
                  clear hK K hHn
                  try simp only [Act.put, List.setIfInBounds_toArray, List.set_cons_zero, List.set_cons_succ]
                  refine wpAnyH_ready (rs := [9]) (by kernel_rfl) (by simp) ?_
                  refine AllReadyH.cons rfl (fun K hK => ?_) AllReadyH.nil
                  refine step_append_srcY rfl rfl (.tmp 59) (.tmp 62) 55 rfl 5 V2.heap.size 71 i0 izero 40 Try.underlying55 hi hx0 hx1 hx2 rfl (by decide) v21 (0 + 0) ((ins []) ++ (ins (es.drop 0))) rfl hT.hu (.slice none 0 0) 0 (ins (es.take 0)) rfl (hs2.out.below hHeld) (ins_one _) (by unfold maxLen; omega) (by omega) (show V2.heap.size ≤ Y22.heap.size from hHeld.size) ?_
                  intro v23 W23 o23 b23 g23 f23
                  replace hT := hT.left o23 g23 (fun z hz => by have h := f23 z hz; simpa using h)
                  have hH23 := hHeld.trans b23
                  clear o23 b23 g23 f23 hHeld
                  refine hK.out _ _ (hH23) (fun hHeld => ?_)
                  clear hK K hH23
                  try simp only [Act.put, List.setIfInBounds_toArray, List.set_cons_zero, List.set_cons_succ]
                  refine wpAnyH_ready (rs := [12]) (by kernel_rfl) (by simp) ?_
                  refine AllReadyH.cons rfl (fun K hK => ?_) AllReadyH.nil
                  refine step_append_srcY rfl rfl (.tmp 63) (.tmp 65) 55 rfl 5 V2.heap.size 71 i0 izero 40 Try.underlying55 hi hx0 hx1 hx2 rfl (by decide) v23 ((0 + 0) + 0) (((ins []) ++ (ins (es.drop 0))) ++ (ins (es.take 0))) rfl hT.hu (.slice (some ⟨W21.heap.size, 0, none⟩) 1 1) 1 (ins [endI]) rfl ((srcN_own hT.hv)) (ins_one _) (by unfold maxLen; omega) (by omega) (show V2.heap.size ≤ W23.heap.size from hHeld.size) ?_
                  intro v24 W24 o24 b24 g24 f24
                  replace hT := hT.left o24 g24 (fun z hz => by have h := f24 z hz; simpa using h)
                  have hH24 := hHeld.trans b24
                  clear o24 b24 g24 f24 hHeld
                  refine hK.out _ _ (hH24) (fun hHeld => ?_)
                  clear hK K hH24
                  try simp only [Act.put, List.setIfInBounds_toArray, List.set_cons_zero, List.set_cons_succ]
                  refine wpAnyH_ready (rs := [13]) (by kernel_rfl) (by simp) ?_
                  refine AllReadyH.cons rfl (fun K hK => ?_) AllReadyH.nil
                  rw [if_pos (by rfl)]
                  have ho8 : W24.ownsRow V2.heap.size 71 5 v24 (es.drop 0 ++ es.take 0 ++ [endI]).length (ins (es.drop 0 ++ es.take 0 ++ [endI])) := by have h := hT.hu; have e := hsum.out; rw [ins_append, ins_append, List.length_append, List.length_append]; rw [← e.1, ← e.2]; simpa [ins] using h
                  obtain ⟨q8, hq8, hz1, hz2, hq8'⟩ := rdi_own ho8 (hlabc.out) hHeld.size
                  clear hT ho8 hz1 hz2
                  go_wp2_with fail
                  refine (wrows_is (.slice none 0 0) ⟨[], pn, ps, pa, pk, pf⟩ v24 q8 (es.drop 0 ++ es.take 0 ++ [endI]) _ (opsIn_nil _) (small_plain hS'.out) (by simp) hq8 hq8' (by simp only [List.length_append, List.length_drop, List.length_take, hK0.out, List.length_cons, List.length_nil]; omega)).mono ?_
                  rintro e W9 ⟨u9, rfl, hu9, b9⟩
                  have hr9 : Hid (RdR W9 u9 (rowsR ⟨[], pn, ps, pa, pk, pf⟩ r0 (es ++ [endI]))) := by
                    have h := rdr_own hu9
                    rw [hO1.out] at h
                    exact h
                  clear hu9 hq8
                  have hH9 := below_call hHeld b9
                  clear hHeld b9
                  go_wp2_with fail
                  refine hK.out _ _ (hH9) (fun hHeld => ?_)
                  clear hK K hH9
                  try simp only [Act.put, List.setIfInBounds_toArray, List.set_cons_zero, List.set_cons_succ]
                  refine take_at (i := 14) (v := u9) rfl rfl (by kernel_rfl) (by kernel_rfl) (by kernel_rfl) (fun _ _ _ h => h) (Or.inl ⟨by rfl, fun X _ => by go_simp⟩) hHeld ?_
                  try simp only [Act.put, List.setIfInBounds_toArray, List.set_cons_zero, List.set_cons_succ]
                  refine wpAnyH_done (by kernel_rfl) ?_ _
                  go_wp2_with fail
                  go_meet
                  exact ⟨hr9, hHeld⟩
              · rw [if_pos (by rfl)]
                go_simp
                have hTn : Two (Y20.alloc (.cells #[.bool true, .int .i64 1000, .int .i64 0, .int .i64 0, .int .u64 0] 71)) V2.heap.size 71 5 (.slice (some ⟨V.heap.size, 0, none⟩) 0 0) (.slice (some ⟨Y20.heap.size, 0, none⟩) 1 1) 0 1 (ins []) (ins [endI]) := two_lit1R endI hT (show V2.heap.size ≤ Y20.heap.size from hHeld.size)
                have hHn : Below V2.heap.size V2 (Y20.alloc (.cells #[.bool true, .int .i64 1000, .int .i64 0, .int .i64 0, .int .u64 0] 71)) := below_call hHeld (below_alloc _ _)
                obtain ⟨Y21, hY⟩ : ∃ Y, Hid (Y20.alloc (.cells #[.bool true, .int .i64 1000, .int .i64 0, .int .i64 0, .int .u64 0] 71) = Y) := ⟨_, rfl⟩
                rw [hY.out] at hTn hHn ⊢
                clear hY hT hHeld
                have hT := hTn
                clear hTn
                refine hK.out _ _ (hHn) (fun hHeld => ?_)
                clear hK K hHn
                try simp only [Act.put, List.setIfInBounds_toArray, List.set_cons_zero, List.set_cons_succ]
                refine wpAnyH_ready (rs := [5]) (by kernel_rfl) (by simp) ?_
                refine AllReadyH.cons rfl (fun K hK => ?_) AllReadyH.nil
                refine step_append_srcY rfl rfl (.tmp 55) (.tmp 58) 55 rfl 5 V2.heap.size 71 i0 izero 40 Try.underlying55 hi hx0 hx1 hx2 rfl (by decide) (.slice (some ⟨V.heap.size, 0, none⟩) 0 0) 0 (ins []) rfl hT.hu (.slice none 0 0) 0 (ins (es.drop 0)) rfl (hs1.out.below hHeld) (ins_one _) (by unfold maxLen; omega) (by omega) (show V2.heap.size ≤ Y21.heap.size from hHeld.size) ?_
                intro v22 W22 o22 b22 g22 f22
                replace hT := hT.left o22 g22 (fun z hz => by have h := f22 z hz; simpa using h)
                have hH22 := hHeld.trans b22
                clear o22 b22 g22 f22 hHeld
                refine hK.out _ _ (hH22) (fun hHeld => ?_)
                clear hK K hH22
                try simp only [Act.put, List.setIfInBounds_toArray, List.set_cons_zero, List.set_cons_succ]
                refine wpAnyH_ready (rs := [9]) (by kernel_rfl) (by simp) ?_
                refine AllReadyH.cons rfl (fun K hK => ?_) AllReadyH.nil
                refine step_append_srcY rfl rfl (.tmp 59) (.tmp 62) 55 rfl 5 V2.heap.size 71 i0 izero 40 Try.underlying55 hi hx0 hx1 hx2 rfl (by decide) v22 (0 + 0) ((ins []) ++ (ins (es.drop 0))) rfl hT.hu (.slice none 0 0) 0 (ins (es.take 0)) rfl (hs2.out.below hHeld) (ins_one _) (by unfold maxLen; omega) (by omega) (show V2.heap.size ≤ W22.heap.size from hHeld.size) ?_
                intro v23 W23 o23 b23 g23 f23
                replace hT := hT.left o23 g23 (fun z hz => by have h := f23 z hz; simpa using h)
                have hH23 := hHeld.trans b23
                clear o23 b23 g23 f23 hHeld
                refine hK.out _ _ (hH23) (fun hHeld => ?_)
                clear hK K hH23
                try simp only [Act.put, List.setIfInBounds_toArray, List.set_cons_zero, List.set_cons_succ]
                refine wpAnyH_ready (rs := [12]) (by kernel_rfl) (by simp) ?_
                refine AllReadyH.cons rfl (fun K hK => ?_) AllReadyH.nil
                refine step_append_srcY rfl rfl (.tmp 63) (.tmp 65) 55 rfl 5 V2.heap.size 71 i0 izero 40 Try.underlying55 hi hx0 hx1 hx2 rfl (by decide) v23 ((0 + 0) + 0) (((ins []) ++ (ins (es.drop 0))) ++ (ins (es.take 0))) rfl hT.hu (.slice (some ⟨Y20.heap.size, 0, none⟩) 1 1) 1 (ins [endI]) rfl ((srcN_own hT.hv)) (ins_one _) (by unfold maxLen; omega) (by omega) (show V2.heap.size ≤ W23.heap.size from hHeld.size) ?_
                intro v24 W24 o24 b24 g24 f24
                replace hT := hT.left o24 g24 (fun z hz => by have h := f24 z hz; simpa using h)
                have hH24 := hHeld.trans b24
                clear o24 b24 g24 f24 hHeld
                refine hK.out _ _ (hH24) (fun hHeld => ?_)
                clear hK K hH24
                try simp only [Act.put, List.setIfInBounds_toArray, List.set_cons_zero, List.set_cons_succ]
                refine wpAnyH_ready (rs := [13]) (by kernel_rfl) (by simp) ?_
                refine AllReadyH.cons rfl (fun K hK => ?_) AllReadyH.nil
                rw [if_pos (by rfl)]
                have ho8 : W24.ownsRow V2.heap.size 71 5 v24 (es.drop 0 ++ es.take 0 ++ [endI]).length (ins (es.drop 0 ++ es.take 0 ++ [endI])) := by have h := hT.hu; have e := hsum.out; rw [ins_append, ins_append, List.length_append, List.length_append]; rw [← e.1, ← e.2]; simpa [ins] using h
                obtain ⟨q8, hq8, hz1, hz2, hq8'⟩ := rdi_own ho8 (hlabc.out) hHeld.size
                clear hT ho8 hz1 hz2
                go_wp2_with fail
                refine (wrows_is (.slice none 0 0) ⟨[], pn, ps, pa, pk, pf⟩ v24 q8 (es.drop 0 ++ es.take 0 ++ [endI]) _ (opsIn_nil _) (small_plain hS'.out) (by simp) hq8 hq8' (by simp only [List.length_append, List.length_drop, List.length_take, hK0.out, List.length_cons, List.length_nil]; omega)).mono ?_
                rintro e W9 ⟨u9, rfl, hu9, b9⟩
                have hr9 : Hid (RdR W9 u9 (rowsR ⟨[], pn, ps, pa, pk, pf⟩ r0 (es ++ [endI]))) := by
                  have h := rdr_own hu9
                  rw [hO1.out] at h
                  exact h
                clear hu9 hq8
                have hH9 := below_call hHeld b9
                clear hHeld b9
                go_wp2_with fail
                refine hK.out _ _ (hH9) (fun hHeld => ?_)
                clear hK K hH9
                try simp only [Act.put, List.setIfInBounds_toArray, List.set_cons_zero, List.set_cons_succ]
                refine take_at (i := 14) (v := u9) rfl rfl (by kernel_rfl) (by kernel_rfl) (by kernel_rfl) (fun _ _ _ h => h) (Or.inl ⟨by rfl, fun X _ => by go_simp⟩) hHeld ?_
                try simp only [Act.put, List.setIfInBounds_toArray, List.set_cons_zero, List.set_cons_succ]
                refine wpAnyH_done (by kernel_rfl) ?_ _
                go_wp2_with fail
                go_meet
                exact ⟨hr9, hHeld⟩
            · rw [if_pos (by rfl)]
              go_simp
              have hTn : Two (V.alloc (.cells #[.bool true, .int .i64 1000, .int .i64 0, .int .i64 0, .int .u64 0] 71)) V2.heap.size 71 5 (.slice none 0 0) (.slice (some ⟨V.heap.size, 0, none⟩) 1 1) 0 1 [] (ins [endI]) := two_lit1R endI hT (show V2.heap.size ≤ V.heap.size from hHeld.size)
              have hHn : Below V2.heap.size V2 (V.alloc (.cells #[.bool true, .int .i64 1000, .int .i64 0, .int .i64 0, .int .u64 0] 71)) := below_call hHeld (below_alloc _ _)
              obtain ⟨Y20, hY⟩ : ∃ Y, Hid (V.alloc (.cells #[.bool true, .int .i64 1000, .int .i64 0, .int .i64 0, .int .u64 0] 71) = Y) := ⟨_, rfl⟩
              rw [hY.out] at hTn hHn ⊢
              clear hY hT hHeld
              have hT := hTn
              clear hTn
              refine hK.out _ _ (hHn) (fun hHeld => ?_)
              clear hK K hHn
              try simp only [Act.put, List.setIfInBounds_toArray, List.set_cons_zero, List.set_cons_succ]
              refine wpAnyH_ready (rs := [1]) (by kernel_rfl) (by simp) ?_
              refine AllReadyH.cons rfl (fun K hK => ?_) AllReadyH.nil
              rw [if_pos (by rfl)]
              go_simp
              have hTn : Two (Y20.alloc (.cells #[] 71)) V2.heap.size 71 5 (.slice (some ⟨Y20.heap.size, 0, none⟩) 0 0) (.slice (some ⟨V.heap.size, 0, none⟩) 1 1) 0 1 (ins []) (ins [endI]) := two_lit0L hT (show V2.heap.size ≤ Y20.heap.size from hHeld.size)
              have hHn : Below V2.heap.size V2 (Y20.alloc (.cells #[] 71)) := below_call hHeld (below_alloc _ _)
              obtain ⟨Y21, hY⟩ : ∃ Y, Hid (Y20.alloc (.cells #[] 71) = Y) := ⟨_, rfl⟩
              rw [hY.out] at hTn hHn ⊢
              clear hY hT hHeld
              have hT := hTn
              clear hTn
              refine hK.out _ _ (hHn) (fun hHeld => ?_)
              clear hK K hHn
              try simp only [Act.put, List.setIfInBounds_toArray, List.set_cons_zero, List.set_cons_succ]
              refine wpAnyH_ready (rs := [5]) (by kernel_rfl) (by simp) ?_
              refine AllReadyH.cons rfl (fun K hK => ?_) AllReadyH.nil
              refine step_append_srcY rfl rfl (.tmp 55) (.tmp 58) 55 rfl 5 V2.heap.size 71 i0 izero 40 Try.underlying55 hi hx0 hx1 hx2 rfl (by decide) (.slice (some ⟨Y20.heap.size, 0, none⟩) 0 0) 0 (ins []) rfl hT.hu (.slice none 0 0) 0 (ins (es.drop 0)) rfl (hs1.out.below hHeld) (ins_one _) (by unfold maxLen; omega) (by omega) (show V2.heap.size ≤ Y21.heap.size from hHeld.size) ?_
              intro v22 W22 o22 b22 g22 f22
              replace hT := hT.left o22 g22 (fun z hz => by have h := f22 z hz; simpa using h)
              have hH22 := hHeld.trans b22
              clear o22 b22 g22 f22 hHeld
              refine hK.out _ _ (hH22) (fun hHeld => ?_)
              clear hK K hH22
              try simp only [Act.put, List.setIfInBounds_toArray, List.set_cons_zero, List.set_cons_succ]
              refine wpAnyH_ready (rs := [9]) (by kernel_rfl) (by simp) ?_
              refine AllReadyH.cons rfl (fun K hK => ?_) AllReadyH.nil
              refine step_append_srcY rfl rfl (.tmp 59) (.tmp 62) 55 rfl 5 V2.heap.size 71 i0 izero 40 Try.underlying55 hi hx0 hx1 hx2 rfl (by decide) v22 (0 + 0) ((ins []) ++ (ins (es.drop 0))) rfl hT.hu (.slice none 0 0) 0 (ins (es.take 0)) rfl (hs2.out.below hHeld) (ins_one _) (by unfold maxLen; omega) (by omega) (show V2.heap.size ≤ W22.heap.size from hHeld.size) ?_
              intro v23 W23 o23 b23 g23 f23
              replace hT := hT.left o23 g23 (fun z hz => by have h := f23 z hz; simpa using h)
              have hH23 := hHeld.trans b23
              clear o23 b23 g23 f23 hHeld
              refine hK.out _ _ (hH23) (fun hHeld => ?_)
              clear hK K hH23
              try simp only [Act.put, List.setIfInBounds_toArray, List.set_cons_zero, List.set_cons_succ]
              refine wpAnyH_ready (rs := [12]) (by kernel_rfl) (by simp) ?_
              refine AllReadyH.cons rfl (fun K hK => ?_) AllReadyH.nil
              refine step_append_srcY rfl rfl (.tmp 63) (.tmp 65) 55 rfl 5 V2.heap.size 71 i0 izero 40 Try.underlying55 hi hx0 hx1 hx2 rfl (by decide) v23 ((0 + 0) + 0) (((ins []) ++ (ins (es.drop 0))) ++ (ins (es.take 0))) rfl hT.hu (.slice (some ⟨V.heap.size, 0, none⟩) 1 1) 1 (ins [endI]) rfl ((srcN_own hT.hv)) (ins_one _) (by unfold maxLen; omega) (by omega) (show V2.heap.size ≤ W23.heap.size from hHeld.size) ?_
              intro v24 W24 o24 b24 g24 f24
              replace hT := hT.left o24 g24 (fun z hz => by have h := f24 z hz; simpa using h)
              have hH24 := hHeld.trans b24
              clear o24 b24 g24 f24 hHeld
              refine hK.out _ _ (hH24) (fun hHeld => ?_)
              clear hK K hH24
              try simp only [Act.put, List.setIfInBounds_toArray, List.set_cons_zero, List.set_cons_succ]
              refine wpAnyH_ready (rs := [13]) (by kernel_rfl) (by simp) ?_
              refine AllReadyH.cons rfl (fun K hK => ?_) AllReadyH.nil
              rw [if_pos (by rfl)]
              have ho8 : W24.ownsRow V2.heap.size 71 5 v24 (es.drop 0 ++ es.take 0 ++ [endI]).length (ins (es.drop 0 ++ es.take 0 ++ [endI])) := by have h := hT.hu; have e := hsum.out; rw [ins_append, ins_append, List.length_append, List.length_append]; rw [← e.1, ← e.2]; simpa [ins] using h
              obtain ⟨q8, hq8, hz1, hz2, hq8'⟩ := rdi_own ho8 (hlabc.out) hHeld.size
              clear hT ho8 hz1 hz2
              go_wp2_with fail
              refine (wrows_is (.slice none 0 0) ⟨[], pn, ps, pa, pk, pf⟩ v24 q8 (es.drop 0 ++ es.take 0 ++ [endI]) _ (opsIn_nil _) (small_plain hS'.out) (by simp) hq8 hq8' (by simp only [List.length_append, List.length_drop, List.length_take, hK0.out, List.length_cons, List.length_nil]; omega)).mono ?_
              rintro e W9 ⟨u9, rfl, hu9, b9⟩
              have hr9 : Hid (RdR W9 u9 (rowsR ⟨[], pn, ps, pa, pk, pf⟩ r0 (es ++ [endI]))) := by
                have h := rdr_own hu9
                rw [hO1.out] at h
                exact h
              clear hu9 hq8
              have hH9 := below_call hHeld b9
              clear hHeld b9
              go_wp2_with fail
              refine hK.out _ _ (hH9) (fun hHeld => ?_)
              clear hK K hH9
              try simp only [Act.put, List.setIfInBounds_toArray, List.set_cons_zero, List.set_cons_succ]
              refine take_at (i := 14) (v := u9) rfl rfl (by kernel_rfl) (by kernel_rfl) (by kernel_rfl) (fun _ _ _ h => h) (Or.inl ⟨by rfl, fun X _ => by go_simp⟩) hHeld ?_
              try simp only [Act.put, List.setIfInBounds_toArray, List.set_cons_zero, List.set_cons_succ]
              refine wpAnyH_done (by kernel_rfl) ?_ _
              go_wp2_with fail
              go_meet
              exact ⟨hr9, hHeld⟩
          · injection e1 with e1 e2 e3
            subst e1 e3
            have hco : V2.ownsRow B 71 5 (.slice (some ⟨g, 0, none⟩) ke ec) ke (ins es) := hT2.out
            have hsum : Hid (ke - c = (es.drop c).length ∧ c = (es.take c).length) := by
              have h : ke - c = (es.drop c).length ∧ c = (es.take c).length := by rw [List.length_drop, List.length_take, hK0.out]; omega
              exact h
            have hlabc : Hid (∀ i ∈ es.drop c ++ es.take c ++ [endI], i.e.l < 18446744073709551616) := end_l (fun i hi => by rcases List.mem_append.1 hi with h | h; exact hlab.out i (List.mem_of_mem_drop h); exact hlab.out i (List.mem_of_mem_take h))
            have hs2 : Hid (SrcN 5 V2 (.slice (some ⟨g, 0, none⟩) c ec) c (ins (es.take c))) := by
              have h := src_part hco 0 0 c ec (by rw [hK0.out]; omega) (fun _ => rfl)
              exact h
            have hs1 : ∀ off, (ke - c ≠ 0 → off = c * 5) → Hid (SrcN 5 V2 (.slice (some ⟨g, off, none⟩) (ke - c) (ec - c)) (ke - c) (ins (es.drop c))) := fun off ho => by
              have h := src_part hco c off (ke - c) (ec - c) (by rw [hK0.out]; omega) ho
              rw [List.take_of_length_le (by rw [List.length_drop, hK0.out]; exact Nat.le_refl _)] at h
              exact h
            clear hh hcs hct hco hgB
            have hcc : c ≤ ec := by omega
            by_cases hcc2 : ec = c
            · obtain rfl : ke = ec := by omega
              subst hcc2
              have hs1' := hs1 0 (fun h => absurd (Nat.sub_self _) h)
              rw [Nat.sub_self] at hs1' hsum
              clear hs1
              refine wp_region_held_drew (S := fun X => Below V2.heap.size V2 X) (by kernel_rfl) hHeld0 (fun hHeld => ?_)
              generalize V2.drew = V at hHeld0 hHeld ⊢
              clear hHeld0
              have hT : Two V V2.heap.size 71 5 (.slice none 0 0) (.slice none 0 0) 0 0 [] [] := two_nil _ _ _ _
              refine take_at (i := 0) (v := O.pv (.slice none 0 0) pn ps pa pk pf) rfl rfl (by kernel_rfl) (by kernel_rfl) (by kernel_rfl) (fun _ _ _ h => h) (Or.inl ⟨by rfl, fun X hX => by have h := (hP.out).call hX; have c0 := h.c0; have c1 := h.c1; have c2 := h.c2; have c3 := h.c3; have c4 := h.c4; have c5 := h.c5; go_simp⟩) hHeld ?_
              try simp only [Act.put, List.setIfInBounds_toArray, List.set_cons_zero, List.set_cons_succ]
              refine take_at (i := 2) (v := (.slice (some ⟨g, 0, none⟩) ke ke)) rfl rfl (by kernel_rfl) (by kernel_rfl) (by kernel_rfl) (fun _ _ _ h => h) (Or.inl ⟨by rfl, fun X _ => by go_simp⟩) hHeld ?_
              try simp only [Act.put, List.setIfInBounds_toArray, List.set_cons_zero, List.set_cons_succ]
              refine take_at (i := 3) (v := .int .i64 (ke : Int)) rfl rfl (by kernel_rfl) (by kernel_rfl) (by kernel_rfl) (fun _ _ _ h => h) (Or.inl ⟨by rfl, fun X _ => by go_simp⟩) hHeld ?_
              try simp only [Act.put, List.setIfInBounds_toArray, List.set_cons_zero, List.set_cons_succ]
              refine take_at (i := 4) (v := (.slice (some ⟨g, 0, none⟩) 0 0)) rfl rfl (by kernel_rfl) (by kernel_rfl) (by kernel_rfl) (fun _ _ _ h => h) (Or.inl ⟨by rfl, fun X _ => by go_simp⟩) hHeld ?_
              try simp only [Act.put, List.setIfInBounds_toArray, List.set_cons_zero, List.set_cons_succ]
              refine take_at (i := 6) (v := (.slice (some ⟨g, 0, none⟩) ke ke)) rfl rfl (by kernel_rfl) (by kernel_rfl) (by kernel_rfl) (fun _ _ _ h => h) (Or.inl ⟨by rfl, fun X _ => by go_simp⟩) hHeld ?_
              try simp only [Act.put, List.setIfInBounds_toArray, List.set_cons_zero, List.set_cons_succ]
              refine take_at (i := 7) (v := .int .i64 (ke : Int)) rfl rfl (by kernel_rfl) (by kernel_rfl) (by kernel_rfl) (fun _ _ _ h => h) (Or.inl ⟨by rfl, fun X _ => by go_simp⟩) hHeld ?_
              try simp only [Act.put, List.setIfInBounds_toArray, List.set_cons_zero, List.set_cons_succ]
              refine take_at (i := 8) (v := (.slice (some ⟨g, 0, none⟩) ke ke)) rfl rfl (by kernel_rfl) (by kernel_rfl) (by kernel_rfl) (fun _ _ _ h => h) (Or.inl ⟨by rfl, fun X _ => by go_simp⟩) hHeld ?_
              try simp only [Act.put, List.setIfInBounds_toArray, List.set_cons_zero, List.set_cons_succ]
              refine take_at (i := 10) (v := .agg #[.bool true, .int .i64 1000, .int .i64 0, .int .i64 0, .int .u64 0]) rfl rfl (by kernel_rfl) (by kernel_rfl) (by kernel_rfl) (fun _ _ _ h => h) (Or.inl ⟨by rfl, fun X hX => by obtain ⟨k0, k1, k2, k3, k4⟩ := InAt.keep hEn.out.c (hX.block ge (by omega)); simp only [endI] at k0 k1 k2 k3 k4; go_simp⟩) hHeld ?_
              try simp only [Act.put, List.setIfInBounds_toArray, List.set_cons_zero, List.set_cons_succ]
              refine wpAnyH_ready (rs := [1, 11]) (by kernel_rfl) (by simp) ?_
              refine AllReadyH.cons rfl (fun K hK => ?_) (AllReadyH.cons rfl (fun K hK => ?_) AllReadyH.nil)
              · rw [if_pos (by rfl)]
                go_simp
                have hTn : Two (V.alloc (.cells #[] 71)) V2.heap.size 71 5 (.slice (some ⟨V.heap.size, 0, none⟩) 0 0) (.slice none 0 0) 0 0 (ins []) [] := two_lit0L hT (show V2.heap.size ≤ V.heap.size from hHeld.size)
                have hHn : Below V2.heap.size V2 (V.alloc (.cells #[] 71)) := below_call hHeld (below_alloc _ _)
                obtain ⟨Y20, hY⟩ : ∃ Y, Hid (V.alloc (.cells #[] 71) = Y) := ⟨_, rfl⟩
                rw [hY.out] at hTn hHn ⊢
                clear hY hT hHeld
                have hT := hTn
                clear hTn
                refine hK.out _ _ (hHn) (fun hHeld => ?_)
                clear hK K hHn
                try simp only [Act.put, List.setIfInBounds_toArray, List.set_cons_zero, List.set_cons_succ]
                refine wpAnyH_ready (rs := [5, 11]) (by kernel_rfl) (by simp) ?_
                refine AllReadyH.cons rfl (fun K hK => ?_) (AllReadyH.cons rfl (fun K hK => ?_) AllReadyH.nil)
                · refine step_append_srcY rfl rfl (.tmp 55) (.tmp 58) 55 rfl 5 V2.heap.size 71 i0 izero 40 Try.underlying55 hi hx0 hx1 hx2 rfl (by decide) (.slice (some ⟨V.heap.size, 0, none⟩) 0 0) 0 (ins []) rfl hT.hu (.slice (some ⟨g, 0, none⟩) 0 0) 0 (ins (es.drop ke)) rfl (hs1'.out.below hHeld) (ins_one _) (by unfold maxLen; omega) (by omega) (show V2.heap.size ≤ Y20.heap.size from hHeld.size) ?_
                  intro v21 W21 o21 b21 g21 f21
                  replace hT := hT.left o21 g21 (fun z hz => by have h := f21 z hz; simpa using h)
                  have hH21 := hHeld.trans b21
                  clear o21 b21 g21 f21 hHeld
                  refine hK.out _ _ (hH21) (fun hHeld => ?_)
                  clear hK K hH21
                  try simp only [Act.put, List.setIfInBounds_toArray, List.set_cons_zero, List.set_cons_succ]
                  refine wpAnyH_ready (rs := [9, 11]) (by kernel_rfl) (by simp) ?_
                  refine AllReadyH.cons rfl (fun K hK => ?_) (AllReadyH.cons rfl (fun K hK => ?_) AllReadyH.nil)
                  · refine step_append_srcY rfl rfl (.tmp 59) (.tmp 62) 55 rfl 5 V2.heap.size 71 i0 izero 40 Try.underlying55 hi hx0 hx1 hx2 rfl (by decide) v21 (0 + 0) ((ins []) ++ (ins (es.drop ke))) rfl hT.hu (.slice (some ⟨g, 0, none⟩) ke ke) ke (ins (es.take ke)) rfl (hs2.out.below hHeld) (ins_one _) (by unfold maxLen; omega) (by omega) (show V2.heap.size ≤ W21.heap.size from hHeld.size) ?_
                    intro v22 W22 o22 b22 g22 f22
                    replace hT := hT.left o22 g22 (fun z hz => by have h := f22 z hz; simpa using h)
                    have hH22 := hHeld.trans b22
                    clear o22 b22 g22 f22 hHeld
                    refine hK.out _ _ (hH22) (fun hHeld => ?_)
                    clear hK K hH22
                    try simp only [Act.put, List.setIfInBounds_toArray, List.set_cons_zero, List.set_cons_succ]
                    refine wpAnyH_ready (rs := [11]) (by kernel_rfl) (by simp) ?_
                    refine AllReadyH.cons rfl (fun K hK => ?_) AllReadyH.nil
                    rw [if_pos (by rfl)]
                    go_simp
                    have hTn : Two (W22.alloc (.cells #[.bool true, .int .i64 1000, .int .i64 0, .int .i64 0, .int .u64 0] 71)) V2.heap.size 71 5 v22 (.slice (some ⟨W22.heap.size, 0, none⟩) 1 1) ((0 + 0) + ke) 1 (((ins []) ++ (ins (es.drop ke))) ++ (ins (es.take ke))) (ins [endI]) := two_lit1R endI hT (show V2.heap.size ≤ W22.heap.size from hHeld.size)
                    have hHn : Below V2.heap.size V2 (W22.alloc (.cells #[.bool true, .int .i64 1000, .int .i64 0, .int .i64 0, .int .u64 0] 71)) := below_call hHeld (below_alloc _ _)
                    obtain ⟨Y23, hY⟩ : ∃ Y, Hid (W22.alloc (.cells #[.bool true, .int .i64 1000, .int .i64 0, .int .i64 0, .int .u64 0] 71) = Y) := ⟨_, rfl⟩
                    rw [hY.out] at hTn hHn ⊢
                    clear hY hT hHeld
                    have hT := hTn
                    clear hTn
                    refine hK.out _ _ (hHn) (fun hHeld => ?_)
                    clear hK K hHn
                    try simp only [Act.put, List.setIfInBounds_toArray, List.set_cons_zero, List.set_cons_succ]
                    refine wpAnyH_ready (rs := [12]) (by kernel_rfl) (by simp) ?_
                    refine AllReadyH.cons rfl (fun K hK => ?_) AllReadyH.nil
                    refine step_append_srcY rfl rfl (.tmp 63) (.tmp 65) 55 rfl 5 V2.heap.size 71 i0 izero 40 Try.underlying55 hi hx0 hx1 hx2 rfl (by decide) v22 ((0 + 0) + ke) (((ins []) ++ (ins (es.drop ke))) ++ (ins (es.take ke))) rfl hT.hu (.slice (some ⟨W22.heap.size, 0, none⟩) 1 1) 1 (ins [endI]) rfl ((srcN_own hT.hv)) (ins_one _) (by unfold maxLen; omega) (by omega) (show V2.heap.size ≤ Y23.heap.size from hHeld.size) ?_
                    intro v24 W24 o24 b24 g24 f24
                    replace hT := hT.left o24 g24 (fun z hz => by have h := f24 z hz; simpa using h)
                    have hH24 := hHeld.trans b24
                    clear o24 b24 g24 f24 hHeld
                    refine hK.out _ _ (hH24) (fun hHeld => ?_)
                    clear hK K hH24
                    try simp only [Act.put, List.setIfInBounds_toArray, List.set_cons_zero, List.set_cons_succ]
                    refine wpAnyH_ready (rs := [13]) (by kernel_rfl) (by simp) ?_
                    refine AllReadyH.cons rfl (fun K hK => ?_) AllReadyH.nil
                    rw [if_pos (by rfl)]
                    have ho8 : W24.ownsRow V2.heap.size 71 5 v24 (es.drop ke ++ es.take ke ++ [endI]).length (ins (es.drop ke ++ es.take ke ++ [endI])) := by have h := hT.hu; have e := hsum.out; rw [ins_append, ins_append, List.length_append, List.length_append]; rw [← e.1, ← e.2]; simpa [ins] using h
                    obtain ⟨q8, hq8, hz1, hz2, hq8'⟩ := rdi_own ho8 (hlabc.out) hHeld.size
                    clear hT ho8 hz1 hz2
                    go_wp2_with fail
                    refine (wrows_is (.slice none 0 0) ⟨[], pn, ps, pa, pk, pf⟩ v24 q8 (es.drop ke ++ es.take ke ++ [endI]) _ (opsIn_nil _) (small_plain hS'.out) (by simp) hq8 hq8' (by simp only [List.length_append, List.length_drop, List.length_take, hK0.out, List.length_cons, List.length_nil]; omega)).mono ?_
                    rintro e W9 ⟨u9, rfl, hu9, b9⟩
                    have hr9 : Hid (RdR W9 u9 (rowsR ⟨[], pn, ps, pa, pk, pf⟩ r0 (es ++ [endI]))) := by
                      have h := rdr_own hu9
                      rw [hO1.out] at h
                      exact h
                    clear hu9 hq8
                    have hH9 := below_call hHeld b9
                    clear hHeld b9
                    go_wp2_with fail
                    refine hK.out _ _ (hH9) (fun hHeld => ?_)
                    clear hK K hH9
                    try simp only [Act.put, List.setIfInBounds_toArray, List.set_cons_zero, List.set_cons_succ]
                    refine take_at (i := 14) (v := u9) rfl rfl (by kernel_rfl) (by kernel_rfl) (by kernel_rfl) (fun _ _ _ h => h) (Or.inl ⟨by rfl, fun X _ => by go_simp⟩) hHeld ?_
                    try simp only [Act.put, List.setIfInBounds_toArray, List.set_cons_zero, List.set_cons_succ]
                    refine wpAnyH_done (by kernel_rfl) ?_ _
                    go_wp2_with fail
                    go_meet
                    exact ⟨hr9, hHeld⟩
                  · rw [if_pos (by rfl)]
                    go_simp
                    have hTn : Two (W21.alloc (.cells #[.bool true, .int .i64 1000, .int .i64 0, .int .i64 0, .int .u64 0] 71)) V2.heap.size 71 5 v21 (.slice (some ⟨W21.heap.size, 0, none⟩) 1 1) (0 + 0) 1 ((ins []) ++ (ins (es.drop ke))) (ins [endI]) := two_lit1R endI hT (show V2.heap.size ≤ W21.heap.size from hHeld.size)
                    have hHn : Below V2.heap.size V2 (W21.alloc (.cells #[.bool true, .int .i64 1000, .int .i64 0, .int .i64 0, .int .u64 0] 71)) := below_call hHeld (below_alloc _ _)
                    obtain ⟨Y22, hY⟩ : ∃ Y, Hid (W21.alloc (.cells #[.bool true, .int .i64 1000, .int .i64 0, .int .i64 0, .int .u64 0] 71) = Y) := ⟨_, rfl⟩
                    rw [hY.out] at hTn hHn ⊢
                    clear hY hT hHeld
                    have hT := hTn
                    clear hTn
                    refine hK.out _ _ (hHn) (fun hHeld => ?_)
                    clear hK K hHn
                    try simp only [Act.put, List.setIfInBounds_toArray, List.set_cons_zero, List.set_cons_succ]
                    refine wpAnyH_ready (rs := [9]) (by kernel_rfl) (by simp) ?_
                    refine AllReadyH.cons rfl (fun K hK => ?_) AllReadyH.nil
                    refine step_append_srcY rfl rfl (.tmp 59) (.tmp 62) 55 rfl 5 V2.heap.size 71 i0 izero 40 Try.underlying55 hi hx0 hx1 hx2 rfl (by decide) v21 (0 + 0) ((ins []) ++ (ins (es.drop ke))) rfl hT.hu (.slice (some ⟨g, 0, none⟩) ke ke) ke (ins (es.take ke)) rfl (hs2.out.below hHeld) (ins_one _) (by unfold maxLen; omega) (by omega) (show V2.heap.size ≤ Y22.heap.size from hHeld.size) ?_
                    intro v23 W23 o23 b23 g23 f23
                    replace hT := hT.left o23 g23 (fun z hz => by have h := f23 z hz; simpa using h)
                    have hH23 := hHeld.trans b23
                    clear o23 b23 g23 f23 hHeld
                    refine hK.out _ _ (hH23) (fun hHeld => ?_)
                    clear hK K hH23
                    try simp only [Act.put, List.setIfInBounds_toArray, List.set_cons_zero, List.set_cons_succ]
                    refine wpAnyH_ready (rs := [12]) (by kernel_rfl) (by simp) ?_
                    refine AllReadyH.cons rfl (fun K hK => ?_) AllReadyH.nil
                    refine step_append_srcY rfl rfl (.tmp 63) (.tmp 65) 55 rfl 5 V2.heap.size 71 i0 izero 40 Try.underlying55 hi hx0 hx1 hx2 rfl (by decide) v23 ((0 + 0) + ke) (((ins []) ++ (ins (es.drop ke))) ++ (ins (es.take ke))) rfl hT.hu (.slice (some ⟨W21.heap.size, 0, none⟩) 1 1) 1 (ins [endI]) rfl ((srcN_own hT.hv)) (ins_one _) (by unfold maxLen; omega) (by omega) (show V2.heap.size ≤ W23.heap.size from hHeld.size) ?_
                    intro v24 W24 o24 b24 g24 f24
                    replace hT := hT.left o24 g24 (fun z hz => by have h := f24 z hz; simpa using h)
                    have hH24 := hHeld.trans b24
                    clear o24 b24 g24 f24 hHeld
                    refine hK.out _ _ (hH24) (fun hHeld => ?_)
                    clear hK K hH24
                    try simp only [Act.put, List.setIfInBounds_toArray, List.set_cons_zero, List.set_cons_succ]
                    refine wpAnyH_ready (rs := [13]) (by kernel_rfl) (by simp) ?_
                    refine AllReadyH.cons rfl (fun K hK => ?_) AllReadyH.nil
                    rw [if_pos (by rfl)]
                    have ho8 : W24.ownsRow V2.heap.size 71 5 v24 (es.drop ke ++ es.take ke ++ [endI]).length (ins (es.drop ke ++ es.take ke ++ [endI])) := by have h := hT.hu; have e := hsum.out; rw [ins_append, ins_append, List.length_append, List.length_append]; rw [← e.1, ← e.2]; simpa [ins] using h
                    obtain ⟨q8, hq8, hz1, hz2, hq8'⟩ := rdi_own ho8 (hlabc.out) hHeld.size
                    clear hT ho8 hz1 hz2
                    go_wp2_with fail
                    refine (wrows_is (.slice none 0 0) ⟨[], pn, ps, pa, pk, pf⟩ v24 q8 (es.drop ke ++ es.take ke ++ [endI]) _ (opsIn_nil _) (small_plain hS'.out) (by simp) hq8 hq8' (by simp only [List.length_append, List.length_drop, List.length_take, hK0.out, List.length_cons, List.length_nil]; omega)).mono ?_
                    rintro e W9 ⟨u9, rfl, hu9, b9⟩
                    have hr9 : Hid (RdR W9 u9 (rowsR ⟨[], pn, ps, pa, pk, pf⟩ r0 (es ++ [endI]))) := by
                      have h := rdr_own hu9
                      rw [hO1.out] at h
                      exact h
                    clear hu9 hq8
                    have hH9 := below_call hHeld b9
                    clear hHeld b9
                    go_wp2_with fail
                    refine hK.out _ _ (hH9) (fun hHeld => ?_)
                    clear hK K hH9
                    try simp only [Act.put, List.setIfInBounds_toArray, List.set_cons_zero, List.set_cons_succ]
                    refine take_at (i := 14) (v := u9) rfl rfl (by kernel_rfl) (by kernel_rfl) (by kernel_rfl) (fun _ _ _ h => h) (Or.inl ⟨by rfl, fun X _ => by go_simp⟩) hHeld ?_
                    try simp only [Act.put, List.setIfInBounds_toArray, List.set_cons_zero, List.set_cons_succ]
                    refine wpAnyH_done (by kernel_rfl) ?_ _
                    go_wp2_with fail
                    go_meet
                    exact ⟨hr9, hHeld⟩
                · rw [if_pos (by rfl)]
                  go_simp
                  have hTn : Two (Y20.alloc (.cells #[.bool true, .int .i64 1000, .int .i64 0, .int .i64 0, .int .u64 0] 71)) V2.heap.size 71 5 (.slice (some ⟨V.heap.size, 0, none⟩) 0 0) (.slice (some ⟨Y20.heap.size, 0, none⟩) 1 1) 0 1 (ins []) (ins [endI]) := two_lit1R endI hT (show V2.heap.size ≤ Y20.heap.size from hHeld.size)
                  have hHn : Below V2.heap.size V2 (Y20.alloc (.cells #[.bool true, .int .i64 1000, .int .i64 0, .int .i64 0, .int .u64 0] 71)) := below_call hHeld (below_alloc _ _)
                  obtain ⟨Y21, hY⟩ : ∃ Y, Hid (Y20.alloc (.cells #[.bool true, .int .i64 1000, .int .i64 0, .int .i64 0, .int .u64 0] 71) = Y) := ⟨_, rfl⟩
                  rw [hY.out] at hTn hHn ⊢
                  clear hY hT hHeld
                  have hT := hTn
                  clear hTn
                  refine hK.out _ _ (hHn) (fun hHeld => ?_)
                  clear hK K hHn
                  try simp only [Act.put, List.setIfInBounds_toArray, List.set_cons_zero, List.set_cons_succ]
                  refine wpAnyH_ready (rs := [5]) (by kernel_rfl) (by simp) ?_
                  refine AllReadyH.cons rfl (fun K hK => ?_) AllReadyH.nil
                  refine step_append_srcY rfl rfl (.tmp 55) (.tmp 58) 55 rfl 5 V2.heap.size 71 i0 izero 40 Try.underlying55 hi hx0 hx1 hx2 rfl (by decide) (.slice (some ⟨V.heap.size, 0, none⟩) 0 0) 0 (ins []) rfl hT.hu (.slice (some ⟨g, 0, none⟩) 0 0) 0 (ins (es.drop ke)) rfl (hs1'.out.below hHeld) (ins_one _) (by unfold maxLen; omega) (by omega) (show V2.heap.size ≤ Y21.heap.size from hHeld.size) ?_
                  intro v22 W22 o22 b22 g22 f22
                  replace hT := hT.left o22 g22 (fun z hz => by have h := f22 z hz; simpa using h)
                  have hH22 := hHeld.trans b22
                  clear o22 b22 g22 f22 hHeld
                  refine hK.out _ _ (hH22) (fun hHeld => ?_)
                  clear hK K hH22
                  try simp only [Act.put, List.setIfInBounds_toArray, List.set_cons_zero, List.set_cons_succ]
                  refine wpAnyH_ready (rs := [9]) (by kernel_rfl) (by simp) ?_
                  refine AllReadyH.cons rfl (fun K hK => ?_) AllReadyH.nil
                  refine step_append_srcY rfl rfl (.tmp 59) (.tmp 62) 55 rfl 5 V2.heap.size 71 i0 izero 40 Try.underlying55 hi hx0 hx1 hx2 rfl (by decide) v22 (0 + 0) ((ins []) ++ (ins (es.drop ke))) rfl hT.hu (.slice (some ⟨g, 0, none⟩) ke ke) ke (ins (es.take ke)) rfl (hs2.out.below hHeld) (ins_one _) (by unfold maxLen; omega) (by omega) (show V2.heap.size ≤ W22.heap.size from hHeld.size) ?_
                  intro v23 W23 o23 b23 g23 f23
                  replace hT := hT.left o23 g23 (fun z hz => by have h := f23 z hz; simpa using h)
                  have hH23 := hHeld.trans b23
                  clear o23 b23 g23 f23 hHeld
                  refine hK.out _ _ (hH23) (fun hHeld => ?_)
                  clear hK K hH23
                  try simp only [Act.put, List.setIfInBounds_toArray, List.set_cons_zero, List.set_cons_succ]
                  refine wpAnyH_ready (rs := [12]) (by kernel_rfl) (by simp) ?_
                  refine AllReadyH.cons rfl (fun K hK => ?_) AllReadyH.nil
                  refine step_append_srcY rfl rfl (.tmp 63) (.tmp 65) 55 rfl 5 V2.heap.size 71 i0 izero 40 Try.underlying55 hi hx0 hx1 hx2 rfl (by decide) v23 ((0 + 0) + ke) (((ins []) ++ (ins (es.drop ke))) ++ (ins (es.take ke))) rfl hT.hu (.slice (some ⟨Y20.heap.size, 0, none⟩) 1 1) 1 (ins [endI]) rfl ((srcN_own hT.hv)) (ins_one _) (by unfold maxLen; omega) (by omega) (show V2.heap.size ≤ W23.heap.size from hHeld.size) ?_
                  intro v24 W24 o24 b24 g24 f24
                  replace hT := hT.left o24 g24 (fun z hz => by have h := f24 z hz; simpa using h)
                  have hH24 := hHeld.trans b24
                  clear o24 b24 g24 f24 hHeld
                  refine hK.out _ _ (hH24) (fun hHeld => ?_)
                  clear hK K hH24
                  try simp only [Act.put, List.setIfInBounds_toArray, List.set_cons_zero, List.set_cons_succ]
                  refine wpAnyH_ready (rs := [13]) (by kernel_rfl) (by simp) ?_
                  refine AllReadyH.cons rfl (fun K hK => ?_) AllReadyH.nil
                  rw [if_pos (by rfl)]
                  have ho8 : W24.ownsRow V2.heap.size 71 5 v24 (es.drop ke ++ es.take ke ++ [endI]).length (ins (es.drop ke ++ es.take ke ++ [endI])) := by have h := hT.hu; have e := hsum.out; rw [ins_append, ins_append, List.length_append, List.length_append]; rw [← e.1, ← e.2]; simpa [ins] using h
                  obtain ⟨q8, hq8, hz1, hz2, hq8'⟩ := rdi_own ho8 (hlabc.out) hHeld.size
                  clear hT ho8 hz1 hz2
                  go_wp2_with fail
                  refine (wrows_is (.slice none 0 0) ⟨[], pn, ps, pa, pk, pf⟩ v24 q8 (es.drop ke ++ es.take ke ++ [endI]) _ (opsIn_nil _) (small_plain hS'.out) (by simp) hq8 hq8' (by simp only [List.length_append, List.length_drop, List.length_take, hK0.out, List.length_cons, List.length_nil]; omega)).mono ?_
                  rintro e W9 ⟨u9, rfl, hu9, b9⟩
                  have hr9 : Hid (RdR W9 u9 (rowsR ⟨[], pn, ps, pa, pk, pf⟩ r0 (es ++ [endI]))) := by
                    have h := rdr_own hu9
                    rw [hO1.out] at h
                    exact h
                  clear hu9 hq8
                  have hH9 := below_call hHeld b9
                  clear hHeld b9
                  go_wp2_with fail
                  refine hK.out _ _ (hH9) (fun hHeld => ?_)
                  clear hK K hH9
                  try simp only [Act.put, List.setIfInBounds_toArray, List.set_cons_zero, List.set_cons_succ]
                  refine take_at (i := 14) (v := u9) rfl rfl (by kernel_rfl) (by kernel_rfl) (by kernel_rfl) (fun _ _ _ h => h) (Or.inl ⟨by rfl, fun X _ => by go_simp⟩) hHeld ?_
                  try simp only [Act.put, List.setIfInBounds_toArray, List.set_cons_zero, List.set_cons_succ]
                  refine wpAnyH_done (by kernel_rfl) ?_ _
                  go_wp2_with fail
                  go_meet
                  exact ⟨hr9, hHeld⟩
              · rw [if_pos (by rfl)]
                go_simp
                have hTn : Two (V.alloc (.cells #[.bool true, .int .i64 1000, .int .i64 0, .int .i64 0, .int .u64 0] 71)) V2.heap.size 71 5 (.slice none 0 0) (.slice (some ⟨V.heap.size, 0, none⟩) 1 1) 0 1 [] (ins [endI]) := two_lit1R endI hT (show V2.heap.size ≤ V.heap.size from hHeld.size)
                have hHn : Below V2.heap.size V2 (V.alloc (.cells #[.bool true, .int .i64 1000, .int .i64 0, .int .i64 0, .int .u64 0] 71)) := below_call hHeld (below_alloc _ _)
                obtain ⟨Y20, hY⟩ : ∃ Y, Hid (V.alloc (.cells #[.bool true, .int .i64 1000, .int .i64 0, .int .i64 0, .int .u64 0] 71) = Y) := ⟨_, rfl⟩
                rw [hY.out] at hTn hHn ⊢
                clear hY hT hHeld
                have hT := hTn
                clear hTn
                refine hK.out _ _ (hHn) (fun hHeld => ?_)
                clear hK K hHn
                try simp only [Act.put, List.setIfInBounds_toArray, List.set_cons_zero, List.set_cons_succ]
                refine wpAnyH_ready (rs := [1]) (by kernel_rfl) (by simp) ?_
                refine AllReadyH.cons rfl (fun K hK => ?_) AllReadyH.nil
                rw [if_pos (by rfl)]
                go_simp
                have hTn : Two (Y20.alloc (.cells #[] 71)) V2.heap.size 71 5 (.slice (some ⟨Y20.heap.size, 0, none⟩) 0 0) (.slice (some ⟨V.heap.size, 0, none⟩) 1 1) 0 1 (ins []) (ins [endI]) := two_lit0L hT (show V2.heap.size ≤ Y20.heap.size from hHeld.size)
                have hHn : Below V2.heap.size V2 (Y20.alloc (.cells #[] 71)) := below_call hHeld (below_alloc _ _)
                obtain ⟨Y21, hY⟩ : ∃ Y, Hid (Y20.alloc (.cells #[] 71) = Y) := ⟨_, rfl⟩
                rw [hY.out] at hTn hHn ⊢
                clear hY hT hHeld
                have hT := hTn
                clear hTn
                refine hK.out _ _ (hHn) (fun hHeld => ?_)
                clear hK K hHn
                try simp only [Act.put, List.setIfInBounds_toArray, List.set_cons_zero, List.set_cons_succ]
                refine wpAnyH_ready (rs := [5]) (by kernel_rfl) (by simp) ?_
                refine AllReadyH.cons rfl (fun K hK => ?_) AllReadyH.nil
                refine step_append_srcY rfl rfl (.tmp 55) (.tmp 58) 55 rfl 5 V2.heap.size 71 i0 izero 40 Try.underlying55 hi hx0 hx1 hx2 rfl (by decide) (.slice (some ⟨Y20.heap.size, 0, none⟩) 0 0) 0 (ins []) rfl hT.hu (.slice (some ⟨g, 0, none⟩) 0 0) 0 (ins (es.drop ke)) rfl (hs1'.out.below hHeld) (ins_one _) (by unfold maxLen; omega) (by omega) (show V2.heap.size ≤ Y21.heap.size from hHeld.size) ?_
                intro v22 W22 o22 b22 g22 f22
                replace hT := hT.left o22 g22 (fun z hz => by have h := f22 z hz; simpa using h)
                have hH22 := hHeld.trans b22
                clear o22 b22 g22 f22 hHeld
                refine hK.out _ _ (hH22) (fun hHeld => ?_)
                clear hK K hH22
                try simp only [Act.put, List.setIfInBounds_toArray, List.set_cons_zero, List.set_cons_succ]
                refine wpAnyH_ready (rs := [9]) (by kernel_rfl) (by simp) ?_
                refine AllReadyH.cons rfl (fun K hK => ?_) AllReadyH.nil
                refine step_append_srcY rfl rfl (.tmp 59) (.tmp 62) 55 rfl 5 V2.heap.size 71 i0 izero 40 Try.underlying55 hi hx0 hx1 hx2 rfl (by decide) v22 (0 + 0) ((ins []) ++ (ins (es.drop ke))) rfl hT.hu (.slice (some ⟨g, 0, none⟩) ke ke) ke (ins (es.take ke)) rfl (hs2.out.below hHeld) (ins_one _) (by unfold maxLen; omega) (by omega) (show V2.heap.size ≤ W22.heap.size from hHeld.size) ?_
                intro v23 W23 o23 b23 g23 f23
                replace hT := hT.left o23 g23 (fun z hz => by have h := f23 z hz; simpa using h)
                have hH23 := hHeld.trans b23
                clear o23 b23 g23 f23 hHeld
                refine hK.out _ _ (hH23) (fun hHeld => ?_)
                clear hK K hH23
                try simp only [Act.put, List.setIfInBounds_toArray, List.set_cons_zero, List.set_cons_succ]
                refine wpAnyH_ready (rs := [12]) (by kernel_rfl) (by simp) ?_
                refine AllReadyH.cons rfl (fun K hK => ?_) AllReadyH.nil
                refine step_append_srcY rfl rfl (.tmp 63) (.tmp 65) 55 rfl 5 V2.heap.size 71 i0 izero 40 Try.underlying55 hi hx0 hx1 hx2 rfl (by decide) v23 ((0 + 0) + ke) (((ins []) ++ (ins (es.drop ke))) ++ (ins (es.take ke))) rfl hT.hu (.slice (some ⟨V.heap.size, 0, none⟩) 1 1) 1 (ins [endI]) rfl ((srcN_own hT.hv)) (ins_one _) (by unfold maxLen; omega) (by omega) (show V2.heap.size ≤ W23.heap.size from hHeld.size) ?_
                intro v24 W24 o24 b24 g24 f24
                replace hT := hT.left o24 g24 (fun z hz => by have h := f24 z hz; simpa using h)
                have hH24 := hHeld.trans b24
                clear o24 b24 g24 f24 hHeld
                refine hK.out _ _ (hH24) (fun hHeld => ?_)
                clear hK K hH24
                try simp only [Act.put, List.setIfInBounds_toArray, List.set_cons_zero, List.set_cons_succ]
                refine wpAnyH_ready (rs := [13]) (by kernel_rfl) (by simp) ?_
                refine AllReadyH.cons rfl (fun K hK => ?_) AllReadyH.nil
                rw [if_pos (by rfl)]
                have ho8 : W24.ownsRow V2.heap.size 71 5 v24 (es.drop ke ++ es.take ke ++ [endI]).length (ins (es.drop ke ++ es.take ke ++ [endI])) := by have h := hT.hu; have e := hsum.out; rw [ins_append, ins_append, List.length_append, List.length_append]; rw [← e.1, ← e.2]; simpa [ins] using h
                obtain ⟨q8, hq8, hz1, hz2, hq8'⟩ := rdi_own ho8 (hlabc.out) hHeld.size
                clear hT ho8 hz1 hz2
                go_wp2_with fail
                refine (wrows_is (.slice none 0 0) ⟨[], pn, ps, pa, pk, pf⟩ v24 q8 (es.drop ke ++ es.take ke ++ [endI]) _ (opsIn_nil _) (small_plain hS'.out) (by simp) hq8 hq8' (by simp only [List.length_append, List.length_drop, List.length_take, hK0.out, List.length_cons, List.length_nil]; omega)).mono ?_
                rintro e W9 ⟨u9, rfl, hu9, b9⟩
                have hr9 : Hid (RdR W9 u9 (rowsR ⟨[], pn, ps, pa, pk, pf⟩ r0 (es ++ [endI]))) := by
                  have h := rdr_own hu9
                  rw [hO1.out] at h
                  exact h
                clear hu9 hq8
                have hH9 := below_call hHeld b9
                clear hHeld b9
                go_wp2_with fail
                refine hK.out _ _ (hH9) (fun hHeld => ?_)
                clear hK K hH9
                try simp only [Act.put, List.setIfInBounds_toArray, List.set_cons_zero, List.set_cons_succ]
                refine take_at (i := 14) (v := u9) rfl rfl (by kernel_rfl) (by kernel_rfl) (by kernel_rfl) (fun _ _ _ h => h) (Or.inl ⟨by rfl, fun X _ => by go_simp⟩) hHeld ?_
                try simp only [Act.put, List.setIfInBounds_toArray, List.set_cons_zero, List.set_cons_succ]
                refine wpAnyH_done (by kernel_rfl) ?_ _
                go_wp2_with fail
                go_meet
                exact ⟨hr9, hHeld⟩
            · have hs1' := hs1 (c * 5) (fun _ => rfl)
              clear hs1
              have hsub : ((ke : Int) - (c : Int)) = ((ke - c : Nat) : Int) := by omega
              have hsub2 : ((ec : Int) - (c : Int)) = ((ec - c : Nat) : Int) := by omega
              refine wp_region_held_drew (S := fun X => Below V2.heap.size V2 X) (by kernel_rfl) hHeld0 (fun hHeld => ?_)
              generalize V2.drew = V at hHeld0 hHeld ⊢
              clear hHeld0
              have hT : Two V V2.heap.size 71 5 (.slice none 0 0) (.slice none 0 0) 0 0 [] [] := two_nil _ _ _ _
              refine take_at (i := 0) (v := O.pv (.slice none 0 0) pn ps pa pk pf) rfl rfl (by kernel_rfl) (by kernel_rfl) (by kernel_rfl) (fun _ _ _ h => h) (Or.inl ⟨by rfl, fun X hX => by have h := (hP.out).call hX; have c0 := h.c0; have c1 := h.c1; have c2 := h.c2; have c3 := h.c3; have c4 := h.c4; have c5 := h.c5; go_simp⟩) hHeld ?_
              try simp only [Act.put, List.setIfInBounds_toArray, List.set_cons_zero, List.set_cons_succ]
              refine take_at (i := 2) (v := (.slice (some ⟨g, 0, none⟩) ke ec)) rfl rfl (by kernel_rfl) (by kernel_rfl) (by kernel_rfl) (fun _ _ _ h => h) (Or.inl ⟨by rfl, fun X _ => by go_simp⟩) hHeld ?_
              try simp only [Act.put, List.setIfInBounds_toArray, List.set_cons_zero, List.set_cons_succ]
              refine take_at (i := 3) (v := .int .i64 (c : Int)) rfl rfl (by kernel_rfl) (by kernel_rfl) (by kernel_rfl) (fun _ _ _ h => h) (Or.inl ⟨by rfl, fun X _ => by go_simp⟩) hHeld ?_
              try simp only [Act.put, List.setIfInBounds_toArray, List.set_cons_zero, List.set_cons_succ]
              refine take_at (i := 4) (v := (.slice (some ⟨g, c * 5, none⟩) (ke - c) (ec - c))) rfl rfl (by kernel_rfl) (by kernel_rfl) (by kernel_rfl) (fun _ _ _ h => h) (Or.inl ⟨by rfl, fun X _ => by go_simp⟩) hHeld ?_
              try simp only [Act.put, List.setIfInBounds_toArray, List.set_cons_zero, List.set_cons_succ]
              refine take_at (i := 6) (v := (.slice (some ⟨g, 0, none⟩) ke ec)) rfl rfl (by kernel_rfl) (by kernel_rfl) (by kernel_rfl) (fun _ _ _ h => h) (Or.inl ⟨by rfl, fun X _ => by go_simp⟩) hHeld ?_
              try simp only [Act.put, List.setIfInBounds_toArray, List.set_cons_zero, List.set_cons_succ]
              refine take_at (i := 7) (v := .int .i64 (c : Int)) rfl rfl (by kernel_rfl) (by kernel_rfl) (by kernel_rfl) (fun _ _ _ h => h) (Or.inl ⟨by rfl, fun X _ => by go_simp⟩) hHeld ?_
              try simp only [Act.put, List.setIfInBounds_toArray, List.set_cons_zero, List.set_cons_succ]
              refine take_at (i := 8) (v := (.slice (some ⟨g, 0, none⟩) c ec)) rfl rfl (by kernel_rfl) (by kernel_rfl) (by kernel_rfl) (fun _ _ _ h => h) (Or.inl ⟨by rfl, fun X _ => by go_simp⟩) hHeld ?_
              try simp only [Act.put, List.setIfInBounds_toArray, List.set_cons_zero, List.set_cons_succ]
              refine take_at (i := 10) (v := .agg #[.bool true, .int .i64 1000, .int .i64 0, .int .i64 0, .int .u64 0]) rfl rfl (by kernel_rfl) (by kernel_rfl) (by kernel_rfl) (fun _ _ _ h => h) (Or.inl ⟨by rfl, fun X hX => by obtain ⟨k0, k1, k2, k3, k4⟩ := InAt.keep hEn.out.c (hX.block ge (by omega)); simp only [endI] at k0 k1 k2 k3 k4; go_simp⟩) hHeld ?_
              try simp only [Act.put, List.setIfInBounds_toArray, List.set_cons_zero, List.set_cons_succ]
              refine wpAnyH_ready (rs := [1, 11]) (by kernel_rfl) (by simp) ?_
              refine AllReadyH.cons rfl (fun K hK => ?_) (AllReadyH.cons rfl (fun K hK => ?_) AllReadyH.nil)
              · rw [if_pos (by rfl)]
                go_simp
                have hTn : Two (V.alloc (.cells #[] 71)) V2.heap.size 71 5 (.slice (some ⟨V.heap.size, 0, none⟩) 0 0) (.slice none 0 0) 0 0 (ins []) [] := two_lit0L hT (show V2.heap.size ≤ V.heap.size from hHeld.size)
                have hHn : Below V2.heap.size V2 (V.alloc (.cells #[] 71)) := below_call hHeld (below_alloc _ _)
                obtain ⟨Y20, hY⟩ : ∃ Y, Hid (V.alloc (.cells #[] 71) = Y) := ⟨_, rfl⟩
                rw [hY.out] at hTn hHn ⊢
                clear hY hT hHeld
                have hT := hTn
                clear hTn
                refine hK.out _ _ (hHn) (fun hHeld => ?_)
                clear hK K hHn
                try simp only [Act.put, List.setIfInBounds_toArray, List.set_cons_zero, List.set_cons_succ]
                refine wpAnyH_ready (rs := [5, 11]) (by kernel_rfl) (by simp) ?_
                refine AllReadyH.cons rfl (fun K hK => ?_) (AllReadyH.cons rfl (fun K hK => ?_) AllReadyH.nil)
                · refine step_append_srcY rfl rfl (.tmp 55) (.tmp 58) 55 rfl 5 V2.heap.size 71 i0 izero 40 Try.underlying55 hi hx0 hx1 hx2 rfl (by decide) (.slice (some ⟨V.heap.size, 0, none⟩) 0 0) 0 (ins []) rfl hT.hu (.slice (some ⟨g, c * 5, none⟩) (ke - c) (ec - c)) (ke - c) (ins (es.drop c)) rfl (hs1'.out.below hHeld) (ins_one _) (by unfold maxLen; omega) (by omega) (show V2.heap.size ≤ Y20.heap.size from hHeld.size) ?_
                  intro v21 W21 o21 b21 g21 f21
                  replace hT := hT.left o21 g21 (fun z hz => by have h := f21 z hz; simpa using h)
                  have hH21 := hHeld.trans b21
                  clear o21 b21 g21 f21 hHeld
                  refine hK.out _ _ (hH21) (fun hHeld => ?_)
                  clear hK K hH21
                  try simp only [Act.put, List.setIfInBounds_toArray, List.set_cons_zero, List.set_cons_succ]
                  refine wpAnyH_ready (rs := [9, 11]) (by kernel_rfl) (by simp) ?_
                  refine AllReadyH.cons rfl (fun K hK => ?_) (AllReadyH.cons rfl (fun K hK => ?_) AllReadyH.nil)
                  · refine step_append_srcY rfl rfl (.tmp 59) (.tmp 62) 55 rfl 5 V2.heap.size 71 i0 izero 40 Try.underlying55 hi hx0 hx1 hx2 rfl (by decide) v21 (0 + (ke - c)) ((ins []) ++ (ins (es.drop c))) rfl hT.hu (.slice (some ⟨g, 0, none⟩) c ec) c (ins (es.take c)) rfl (hs2.out.below hHeld) (ins_one _) (by unfold maxLen; omega) (by omega) (show V2.heap.size ≤ W21.heap.size from hHeld.size) ?_
                    intro v22 W22 o22 b22 g22 f22
                    replace hT := hT.left o22 g22 (fun z hz => by have h := f22 z hz; simpa using h)
                    have hH22 := hHeld.trans b22
                    clear o22 b22 g22 f22 hHeld
                    refine hK.out _ _ (hH22) (fun hHeld => ?_)
                    clear hK K hH22
                    try simp only [Act.put, List.setIfInBounds_toArray, List.set_cons_zero, List.set_cons_succ]
                    refine wpAnyH_ready (rs := [11]) (by kernel_rfl) (by simp) ?_
                    refine AllReadyH.cons rfl (fun K hK => ?_) AllReadyH.nil
                    rw [if_pos (by rfl)]
                    go_simp
                    have hTn : Two (W22.alloc (.cells #[.bool true, .int .i64 1000, .int .i64 0, .int .i64 0, .int .u64 0] 71)) V2.heap.size 71 5 v22 (.slice (some ⟨W22.heap.size, 0, none⟩) 1 1) ((0 + (ke - c)) + c) 1 (((ins []) ++ (ins (es.drop c))) ++ (ins (es.take c))) (ins [endI]) := two_lit1R endI hT (show V2.heap.size ≤ W22.heap.size from hHeld.size)
                    have hHn : Below V2.heap.size V2 (W22.alloc (.cells #[.bool true, .int .i64 1000, .int .i64 0, .int .i64 0, .int .u64 0] 71)) := below_call hHeld (below_alloc _ _)
                    obtain ⟨Y23, hY⟩ : ∃ Y, Hid (W22.alloc (.cells #[.bool true, .int .i64 1000, .int .i64 0, .int .i64 0, .int .u64 0] 71) = Y) := ⟨_, rfl⟩
                    rw [hY.out] at hTn hHn ⊢
                    clear hY hT hHeld
                    have hT := hTn
                    clear hTn
                    refine hK.out _ _ (hHn) (fun hHeld => ?_)
                    clear hK K hHn
                    try simp only [Act.put, List.setIfInBounds_toArray, List.set_cons_zero, List.set_cons_succ]
                    refine wpAnyH_ready (rs := [12]) (by kernel_rfl) (by simp) ?_
                    refine AllReadyH.cons rfl (fun K hK => ?_) AllReadyH.nil
                    refine step_append_srcY rfl rfl (.tmp 63) (.tmp 65) 55 rfl 5 V2.heap.size 71 i0 izero 40 Try.underlying55 hi hx0 hx1 hx2 rfl (by decide) v22 ((0 + (ke - c)) + c) (((ins []) ++ (ins (es.drop c))) ++ (ins (es.take c))) rfl hT.hu (.slice (some ⟨W22.heap.size, 0, none⟩) 1 1) 1 (ins [endI]) rfl ((srcN_own hT.hv)) (ins_one _) (by unfold maxLen; omega) (by omega) (show V2.heap.size ≤ Y23.heap.size from hHeld.size) ?_
                    intro v24 W24 o24 b24 g24 f24
                    replace hT := hT.left o24 g24 (fun z hz => by have h := f24 z hz; simpa using h)
                    have hH24 := hHeld.trans b24
                    clear o24 b24 g24 f24 hHeld
                    refine hK.out _ _ (hH24) (fun hHeld => ?_)
                    clear hK K hH24
                    try simp only [Act.put, List.setIfInBounds_toArray, List.set_cons_zero, List.set_cons_succ]
                    refine wpAnyH_ready (rs := [13]) (by kernel_rfl) (by simp) ?_
                    refine AllReadyH.cons rfl (fun K hK => ?_) AllReadyH.nil
                    rw [if_pos (by rfl)]
                    have ho8 : W24.ownsRow V2.heap.size 71 5 v24 (es.drop c ++ es.take c ++ [endI]).length (ins (es.drop c ++ es.take c ++ [endI])) := by have h := hT.hu; have e := hsum.out; rw [ins_append, ins_append, List.length_append, List.length_append]; rw [← e.1, ← e.2]; simpa [ins] using h
                    obtain ⟨q8, hq8, hz1, hz2, hq8'⟩ := rdi_own ho8 (hlabc.out) hHeld.size
                    clear hT ho8 hz1 hz2
                    go_wp2_with fail
                    refine (wrows_is (.slice none 0 0) ⟨[], pn, ps, pa, pk, pf⟩ v24 q8 (es.drop c ++ es.take c ++ [endI]) _ (opsIn_nil _) (small_plain hS'.out) (by simp) hq8 hq8' (by simp only [List.length_append, List.length_drop, List.length_take, hK0.out, List.length_cons, List.length_nil]; omega)).mono ?_
                    rintro e W9 ⟨u9, rfl, hu9, b9⟩
                    have hr9 : Hid (RdR W9 u9 (rowsR ⟨[], pn, ps, pa, pk, pf⟩ r0 (es ++ [endI]))) := by
                      have h := rdr_own hu9
                      rw [hO1.out] at h
                      exact h
                    clear hu9 hq8
                    have hH9 := below_call hHeld b9
                    clear hHeld b9
                    go_wp2_with fail
                    refine hK.out _ _ (hH9) (fun hHeld => ?_)
                    clear hK K hH9
                    try simp only [Act.put, List.setIfInBounds_toArray, List.set_cons_zero, List.set_cons_succ]
                    refine take_at (i := 14) (v := u9) rfl rfl (by kernel_rfl) (by kernel_rfl) (by kernel_rfl) (fun _ _ _ h => h) (Or.inl ⟨by rfl, fun X _ => by go_simp⟩) hHeld ?_
                    try simp only [Act.put, List.setIfInBounds_toArray, List.set_cons_zero, List.set_cons_succ]
                    refine wpAnyH_done (by kernel_rfl) ?_ _
                    go_wp2_with fail
                    go_meet
                    exact ⟨hr9, hHeld⟩
                  · rw [if_pos (by rfl)]
                    go_simp
                    have hTn : Two (W21.alloc (.cells #[.bool true, .int .i64 1000, .int .i64 0, .int .i64 0, .int .u64 0] 71)) V2.heap.size 71 5 v21 (.slice (some ⟨W21.heap.size, 0, none⟩) 1 1) (0 + (ke - c)) 1 ((ins []) ++ (ins (es.drop c))) (ins [endI]) := two_lit1R endI hT (show V2.heap.size ≤ W21.heap.size from hHeld.size)
                    have hHn : Below V2.heap.size V2 (W21.alloc (.cells #[.bool true, .int .i64 1000, .int .i64 0, .int .i64 0, .int .u64 0] 71)) := below_call hHeld (below_alloc _ _)
                    obtain ⟨Y22, hY⟩ : ∃ Y, Hid (W21.alloc (.cells #[.bool true, .int .i64 1000, .int .i64 0, .int .i64 0, .int .u64 0] 71) = Y) := ⟨_, rfl⟩
                    rw [hY.out] at hTn hHn ⊢
                    clear hY hT hHeld
                    have hT := hTn
                    clear hTn
                    refine hK.out _ _ (hHn) (fun hHeld => ?_)
                    clear hK K hHn
                    try simp only [Act.put, List.setIfInBounds_toArray, List.set_cons_zero, List.set_cons_succ]
                    refine wpAnyH_ready (rs := [9]) (by kernel_rfl) (by simp) ?_
                    refine AllReadyH.cons rfl (fun K hK => ?_) AllReadyH.nil
                    refine step_append_srcY rfl rfl (.tmp 59) (.tmp 62) 55 rfl 5 V2.heap.size 71 i0 izero 40 Try.underlying55 hi hx0 hx1 hx2 rfl (by decide) v21 (0 + (ke - c)) ((ins []) ++ (ins (es.drop c))) rfl hT.hu (.slice (some ⟨g, 0, none⟩) c ec) c (ins (es.take c)) rfl (hs2.out.below hHeld) (ins_one _) (by unfold maxLen; omega) (by omega) (show V2.heap.size ≤ Y22.heap.size from hHeld.size) ?_
                    intro v23 W23 o23 b23 g23 f23
                    replace hT := hT.left o23 g23 (fun z hz => by have h := f23 z hz; simpa using h)
                    have hH23 := hHeld.trans b23
                    clear o23 b23 g23 f23 hHeld
                    refine hK.out _ _ (hH23) (fun hHeld => ?_)
                    clear hK K hH23
                    try simp only [Act.put, List.setIfInBounds_toArray, List.set_cons_zero, List.set_cons_succ]
                    refine wpAnyH_ready (rs := [12]) (by kernel_rfl) (by simp) ?_
                    refine AllReadyH.cons rfl (fun K hK => ?_) AllReadyH.nil
                    refine step_append_srcY rfl rfl (.tmp 63) (.tmp 65) 55 rfl 5 V2.heap.size 71 i0 izero 40 Try.underlying55 hi hx0 hx1 hx2 rfl (by decide) v23 ((0 + (ke - c)) + c) (((ins []) ++ (ins (es.drop c))) ++ (ins (es.take c))) rfl hT.hu (.slice (some ⟨W21.heap.size, 0, none⟩) 1 1) 1 (ins [endI]) rfl ((srcN_own hT.hv)) (ins_one _) (by unfold maxLen; omega) (by omega) (show V2.heap.size ≤ W23.heap.size from hHeld.size) ?_
                    intro v24 W24 o24 b24 g24 f24
                    replace hT := hT.left o24 g24 (fun z hz => by have h := f24 z hz; simpa using h)
                    have hH24 := hHeld.trans b24
                    clear o24 b24 g24 f24 hHeld
                    refine hK.out _ _ (hH24) (fun hHeld => ?_)
                    clear hK K hH24
                    try simp only [Act.put, List.setIfInBounds_toArray, List.set_cons_zero, List.set_cons_succ]
                    refine wpAnyH_ready (rs := [13]) (by kernel_rfl) (by simp) ?_
                    refine AllReadyH.cons rfl (fun K hK => ?_) AllReadyH.nil
                    rw [if_pos (by rfl)]
                    have ho8 : W24.ownsRow V2.heap.size 71 5 v24 (es.drop c ++ es.take c ++ [endI]).length (ins (es.drop c ++ es.take c ++ [endI])) := by have h := hT.hu; have e := hsum.out; rw [ins_append, ins_append, List.length_append, List.length_append]; rw [← e.1, ← e.2]; simpa [ins] using h
                    obtain ⟨q8, hq8, hz1, hz2, hq8'⟩ := rdi_own ho8 (hlabc.out) hHeld.size
                    clear hT ho8 hz1 hz2
                    go_wp2_with fail
                    refine (wrows_is (.slice none 0 0) ⟨[], pn, ps, pa, pk, pf⟩ v24 q8 (es.drop c ++ es.take c ++ [endI]) _ (opsIn_nil _) (small_plain hS'.out) (by simp) hq8 hq8' (by simp only [List.length_append, List.length_drop, List.length_take, hK0.out, List.length_cons, List.length_nil]; omega)).mono ?_
                    rintro e W9 ⟨u9, rfl, hu9, b9⟩
                    have hr9 : Hid (RdR W9 u9 (rowsR ⟨[], pn, ps, pa, pk, pf⟩ r0 (es ++ [endI]))) := by
                      have h := rdr_own hu9
                      rw [hO1.out] at h
                      exact h
                    clear hu9 hq8
                    have hH9 := below_call hHeld b9
                    clear hHeld b9
                    go_wp2_with fail
                    refine hK.out _ _ (hH9) (fun hHeld => ?_)
                    clear hK K hH9
                    try simp only [Act.put, List.setIfInBounds_toArray, List.set_cons_zero, List.set_cons_succ]
                    refine take_at (i := 14) (v := u9) rfl rfl (by kernel_rfl) (by kernel_rfl) (by kernel_rfl) (fun _ _ _ h => h) (Or.inl ⟨by rfl, fun X _ => by go_simp⟩) hHeld ?_
                    try simp only [Act.put, List.setIfInBounds_toArray, List.set_cons_zero, List.set_cons_succ]
                    refine wpAnyH_done (by kernel_rfl) ?_ _
                    go_wp2_with fail
                    go_meet
                    exact ⟨hr9, hHeld⟩
                · rw [if_pos (by rfl)]
                  go_simp
                  have hTn : Two (Y20.alloc (.cells #[.bool true, .int .i64 1000, .int .i64 0, .int .i64 0, .int .u64 0] 71)) V2.heap.size 71 5 (.slice (some ⟨V.heap.size, 0, none⟩) 0 0) (.slice (some ⟨Y20.heap.size, 0, none⟩) 1 1) 0 1 (ins []) (ins [endI]) := two_lit1R endI hT (show V2.heap.size ≤ Y20.heap.size from hHeld.size)
                  have hHn : Below V2.heap.size V2 (Y20.alloc (.cells #[.bool true, .int .i64 1000, .int .i64 0, .int .i64 0, .int .u64 0] 71)) := below_call hHeld (below_alloc _ _)
                  obtain ⟨Y21, hY⟩ : ∃ Y, Hid (Y20.alloc (.cells #[.bool true, .int .i64 1000, .int .i64 0, .int .i64 0, .int .u64 0] 71) = Y) := ⟨_, rfl⟩
                  rw [hY.out] at hTn hHn ⊢
                  clear hY hT hHeld
                  have hT := hTn
                  clear hTn
                  refine hK.out _ _ (hHn) (fun hHeld => ?_)
                  clear hK K hHn
                  try simp only [Act.put, List.setIfInBounds_toArray, List.set_cons_zero, List.set_cons_succ]
                  refine wpAnyH_ready (rs := [5]) (by kernel_rfl) (by simp) ?_
                  refine AllReadyH.cons rfl (fun K hK => ?_) AllReadyH.nil
                  refine step_append_srcY rfl rfl (.tmp 55) (.tmp 58) 55 rfl 5 V2.heap.size 71 i0 izero 40 Try.underlying55 hi hx0 hx1 hx2 rfl (by decide) (.slice (some ⟨V.heap.size, 0, none⟩) 0 0) 0 (ins []) rfl hT.hu (.slice (some ⟨g, c * 5, none⟩) (ke - c) (ec - c)) (ke - c) (ins (es.drop c)) rfl (hs1'.out.below hHeld) (ins_one _) (by unfold maxLen; omega) (by omega) (show V2.heap.size ≤ Y21.heap.size from hHeld.size) ?_
                  intro v22 W22 o22 b22 g22 f22
                  replace hT := hT.left o22 g22 (fun z hz => by have h := f22 z hz; simpa using h)
                  have hH22 := hHeld.trans b22
                  clear o22 b22 g22 f22 hHeld
                  refine hK.out _ _ (hH22) (fun hHeld => ?_)
                  clear hK K hH22
                  try simp only [Act.put, List.setIfInBounds_toArray, List.set_cons_zero, List.set_cons_succ]
                  refine wpAnyH_ready (rs := [9]) (by kernel_rfl) (by simp) ?_
                  refine AllReadyH.cons rfl (fun K hK => ?_) AllReadyH.nil
                  refine step_append_srcY rfl rfl (.tmp 59) (.tmp 62) 55 rfl 5 V2.heap.size 71 i0 izero 40 Try.underlying55 hi hx0 hx1 hx2 rfl (by decide) v22 (0 + (ke - c)) ((ins []) ++ (ins (es.drop c))) rfl hT.hu (.slice (some ⟨g, 0, none⟩) c ec) c (ins (es.take c)) rfl (hs2.out.below hHeld) (ins_one _) (by unfold maxLen; omega) (by omega) (show V2.heap.size ≤ W22.heap.size from hHeld.size) ?_
                  intro v23 W23 o23 b23 g23 f23
                  replace hT := hT.left o23 g23 (fun z hz => by have h := f23 z hz; simpa using h)
                  have hH23 := hHeld.trans b23
                  clear o23 b23 g23 f23 hHeld
                  refine hK.out _ _ (hH23) (fun hHeld => ?_)
                  clear hK K hH23
                  try simp only [Act.put, List.setIfInBounds_toArray, List.set_cons_zero, List.set_cons_succ]
                  refine wpAnyH_ready (rs := [12]) (by kernel_rfl) (by simp) ?_
                  refine AllReadyH.cons rfl (fun K hK => ?_) AllReadyH.nil
                  refine step_append_srcY rfl rfl (.tmp 63) (.tmp 65) 55 rfl 5 V2.heap.size 71 i0 izero 40 Try.underlying55 hi hx0 hx1 hx2 rfl (by decide) v23 ((0 + (ke - c)) + c) (((ins []) ++ (ins (es.drop c))) ++ (ins (es.take c))) rfl hT.hu (.slice (some ⟨Y20.heap.size, 0, none⟩) 1 1) 1 (ins [endI]) rfl ((srcN_own hT.hv)) (ins_one _) (by unfold maxLen; omega) (by omega) (show V2.heap.size ≤ W23.heap.size from hHeld.size) ?_
                  intro v24 W24 o24 b24 g24 f24
                  replace hT := hT.left o24 g24 (fun z hz => by have h := f24 z hz; simpa using h)
                  have hH24 := hHeld.trans b24
                  clear o24 b24 g24 f24 hHeld
                  refine hK.out _ _ (hH24) (fun hHeld => ?_)
                  clear hK K hH24
                  try simp only [Act.put, List.setIfInBounds_toArray, List.set_cons_zero, List.set_cons_succ]
                  refine wpAnyH_ready (rs := [13]) (by kernel_rfl) (by simp) ?_
                  refine AllReadyH.cons rfl (fun K hK => ?_) AllReadyH.nil
                  rw [if_pos (by rfl)]
                  have ho8 : W24.ownsRow V2.heap.size 71 5 v24 (es.drop c ++ es.take c ++ [endI]).length (ins (es.drop c ++ es.take c ++ [endI])) := by have h := hT.hu; have e := hsum.out; rw [ins_append, ins_append, List.length_append, List.length_append]; rw [← e.1, ← e.2]; simpa [ins] using h
                  obtain ⟨q8, hq8, hz1, hz2, hq8'⟩ := rdi_own ho8 (hlabc.out) hHeld.size
                  clear hT ho8 hz1 hz2
                  go_wp2_with fail
                  refine (wrows_is (.slice none 0 0) ⟨[], pn, ps, pa, pk, pf⟩ v24 q8 (es.drop c ++ es.take c ++ [endI]) _ (opsIn_nil _) (small_plain hS'.out) (by simp) hq8 hq8' (by simp only [List.length_append, List.length_drop, List.length_take, hK0.out, List.length_cons, List.length_nil]; omega)).mono ?_
                  rintro e W9 ⟨u9, rfl, hu9, b9⟩
                  have hr9 : Hid (RdR W9 u9 (rowsR ⟨[], pn, ps, pa, pk, pf⟩ r0 (es ++ [endI]))) := by
                    have h := rdr_own hu9
                    rw [hO1.out] at h
                    exact h
                  clear hu9 hq8
                  have hH9 := below_call hHeld b9
                  clear hHeld b9
                  go_wp2_with fail
                  refine hK.out _ _ (hH9) (fun hHeld => ?_)
                  clear hK K hH9
                  try simp only [Act.put, List.setIfInBounds_toArray, List.set_cons_zero, List.set_cons_succ]
                  refine take_at (i := 14) (v := u9) rfl rfl (by kernel_rfl) (by kernel_rfl) (by kernel_rfl) (fun _ _ _ h => h) (Or.inl ⟨by rfl, fun X _ => by go_simp⟩) hHeld ?_
                  try simp only [Act.put, List.setIfInBounds_toArray, List.set_cons_zero, List.set_cons_succ]
                  refine wpAnyH_done (by kernel_rfl) ?_ _
                  go_wp2_with fail
                  go_meet
                  exact ⟨hr9, hHeld⟩
              · rw [if_pos (by rfl)]
                go_simp
                have hTn : Two (V.alloc (.cells #[.bool true, .int .i64 1000, .int .i64 0, .int .i64 0, .int .u64 0] 71)) V2.heap.size 71 5 (.slice none 0 0) (.slice (some ⟨V.heap.size, 0, none⟩) 1 1) 0 1 [] (ins [endI]) := two_lit1R endI hT (show V2.heap.size ≤ V.heap.size from hHeld.size)
                have hHn : Below V2.heap.size V2 (V.alloc (.cells #[.bool true, .int .i64 1000, .int .i64 0, .int .i64 0, .int .u64 0] 71)) := below_call hHeld (below_alloc _ _)
                obtain ⟨Y20, hY⟩ : ∃ Y, Hid (V.alloc (.cells #[.bool true, .int .i64 1000, .int .i64 0, .int .i64 0, .int .u64 0] 71) = Y) := ⟨_, rfl⟩
                rw [hY.out] at hTn hHn ⊢
                clear hY hT hHeld
                have hT := hTn
                clear hTn
                refine hK.out _ _ (hHn) (fun hHeld => ?_)
                clear hK K hHn
                try simp only [Act.put, List.setIfInBounds_toArray, List.set_cons_zero, List.set_cons_succ]
                refine wpAnyH_ready (rs := [1]) (by kernel_rfl) (by simp) ?_
                refine AllReadyH.cons rfl (fun K hK => ?_) AllReadyH.nil
                rw [if_pos (by rfl)]
                go_simp
                have hTn : Two (Y20.alloc (.cells #[] 71)) V2.heap.size 71 5 (.slice (some ⟨Y20.heap.size, 0, none⟩) 0 0) (.slice (some ⟨V.heap.size, 0, none⟩) 1 1) 0 1 (ins []) (ins [endI]) := two_lit0L hT (show V2.heap.size ≤ Y20.heap.size from hHeld.size)
                have hHn : Below V2.heap.size V2 (Y20.alloc (.cells #[] 71)) := below_call hHeld (below_alloc _ _)
                obtain ⟨Y21, hY⟩ : ∃ Y, Hid (Y20.alloc (.cells #[] 71) = Y) := ⟨_, rfl⟩
                rw [hY.out] at hTn hHn ⊢
                clear hY hT hHeld
                have hT := hTn
                clear hTn
                refine hK.out _ _ (hHn) (fun hHeld => ?_)
                clear hK K hHn
                try simp only [Act.put, List.setIfInBounds_toArray, List.set_cons_zero, List.set_cons_succ]
                refine wpAnyH_ready (rs := [5]) (by kernel_rfl) (by simp) ?_
                refine AllReadyH.cons rfl (fun K hK => ?_) AllReadyH.nil
                refine step_append_srcY rfl rfl (.tmp 55) (.tmp 58) 55 rfl 5 V2.heap.size 71 i0 izero 40 Try.underlying55 hi hx0 hx1 hx2 rfl (by decide) (.slice (some ⟨Y20.heap.size, 0, none⟩) 0 0) 0 (ins []) rfl hT.hu (.slice (some ⟨g, c * 5, none⟩) (ke - c) (ec - c)) (ke - c) (ins (es.drop c)) rfl (hs1'.out.below hHeld) (ins_one _) (by unfold maxLen; omega) (by omega) (show V2.heap.size ≤ Y21.heap.size from hHeld.size) ?_
                intro v22 W22 o22 b22 g22 f22
                replace hT := hT.left o22 g22 (fun z hz => by have h := f22 z hz; simpa using h)
                have hH22 := hHeld.trans b22
                clear o22 b22 g22 f22 hHeld
                refine hK.out _ _ (hH22) (fun hHeld => ?_)
                clear hK K hH22
                try simp only [Act.put, List.setIfInBounds_toArray, List.set_cons_zero, List.set_cons_succ]
                refine wpAnyH_ready (rs := [9]) (by kernel_rfl) (by simp) ?_
                refine AllReadyH.cons rfl (fun K hK => ?_) AllReadyH.nil
                refine step_append_srcY rfl rfl (.tmp 59) (.tmp 62) 55 rfl 5 V2.heap.size 71 i0 izero 40 Try.underlying55 hi hx0 hx1 hx2 rfl (by decide) v22 (0 + (ke - c)) ((ins []) ++ (ins (es.drop c))) rfl hT.hu (.slice (some ⟨g, 0, none⟩) c ec) c (ins (es.take c)) rfl (hs2.out.below hHeld) (ins_one _) (by unfold maxLen; omega) (by omega) (show V2.heap.size ≤ W22.heap.size from hHeld.size) ?_
                intro v23 W23 o23 b23 g23 f23
                replace hT := hT.left o23 g23 (fun z hz => by have h := f23 z hz; simpa using h)
                have hH23 := hHeld.trans b23
                clear o23 b23 g23 f23 hHeld
                refine hK.out _ _ (hH23) (fun hHeld => ?_)
                clear hK K hH23
                try simp only [Act.put, List.setIfInBounds_toArray, List.set_cons_zero, List.set_cons_succ]
                refine wpAnyH_ready (rs := [12]) (by kernel_rfl) (by simp) ?_
                refine AllReadyH.cons rfl (fun K hK => ?_) AllReadyH.nil
                refine step_append_srcY rfl rfl (.tmp 63) (.tmp 65) 55 rfl 5 V2.heap.size 71 i0 izero 40 Try.underlying55 hi hx0 hx1 hx2 rfl (by decide) v23 ((0 + (ke - c)) + c) (((ins []) ++ (ins (es.drop c))) ++ (ins (es.take c))) rfl hT.hu (.slice (some ⟨V.heap.size, 0, none⟩) 1 1) 1 (ins [endI]) rfl ((srcN_own hT.hv)) (ins_one _) (by unfold maxLen; omega) (by omega) (show V2.heap.size ≤ W23.heap.size from hHeld.size) ?_
                intro v24 W24 o24 b24 g24 f24
                replace hT := hT.left o24 g24 (fun z hz => by have h := f24 z hz; simpa using h)
                have hH24 := hHeld.trans b24
                clear o24 b24 g24 f24 hHeld
                refine hK.out _ _ (hH24) (fun hHeld => ?_)
                clear hK K hH24
                try simp only [Act.put, List.setIfInBounds_toArray, List.set_cons_zero, List.set_cons_succ]
                refine wpAnyH_ready (rs := [13]) (by kernel_rfl) (by simp) ?_
                refine AllReadyH.cons rfl (fun K hK => ?_) AllReadyH.nil
                rw [if_pos (by rfl)]
                have ho8 : W24.ownsRow V2.heap.size 71 5 v24 (es.drop c ++ es.take c ++ [endI]).length (ins (es.drop c ++ es.take c ++ [endI])) := by have h := hT.hu; have e := hsum.out; rw [ins_append, ins_append, List.length_append, List.length_append]; rw [← e.1, ← e.2]; simpa [ins] using h
                obtain ⟨q8, hq8, hz1, hz2, hq8'⟩ := rdi_own ho8 (hlabc.out) hHeld.size
                clear hT ho8 hz1 hz2
                go_wp2_with fail
                refine (wrows_is (.slice none 0 0) ⟨[], pn, ps, pa, pk, pf⟩ v24 q8 (es.drop c ++ es.take c ++ [endI]) _ (opsIn_nil _) (small_plain hS'.out) (by simp) hq8 hq8' (by simp only [List.length_append, List.length_drop, List.length_take, hK0.out, List.length_cons, List.length_nil]; omega)).mono ?_
                rintro e W9 ⟨u9, rfl, hu9, b9⟩
                have hr9 : Hid (RdR W9 u9 (rowsR ⟨[], pn, ps, pa, pk, pf⟩ r0 (es ++ [endI]))) := by
                  have h := rdr_own hu9
                  rw [hO1.out] at h
                  exact h
                clear hu9 hq8
                have hH9 := below_call hHeld b9
                clear hHeld b9
                go_wp2_with fail
                refine hK.out _ _ (hH9) (fun hHeld => ?_)
                clear hK K hH9
                try simp only [Act.put, List.setIfInBounds_toArray, List.set_cons_zero, List.set_cons_succ]
                refine take_at (i := 14) (v := u9) rfl rfl (by kernel_rfl) (by kernel_rfl) (by kernel_rfl) (fun _ _ _ h => h) (Or.inl ⟨by rfl, fun X _ => by go_simp⟩) hHeld ?_
                try simp only [Act.put, List.setIfInBounds_toArray, List.set_cons_zero, List.set_cons_succ]
                refine wpAnyH_done (by kernel_rfl) ?_ _
                go_wp2_with fail
                go_meet
                exact ⟨hr9, hHeld⟩
        case rest =>
          obtain ⟨hA2, hBV⟩ := hcut
          obtain ⟨V3, hV3⟩ : ∃ X, X = wc := ⟨_, rfl⟩
          subst hV3
          have hz3 : V2.heap.size ≤ V3.heap.size := hBV.out.size
          have hEn3 : Hid (Ink V3 ge endI) := hEn2.out.keep (hBV.out.block ge hge2)
          have hP3 : Hid (Pik V3 gp (.slice none 0 0) pn ps pa pk pf) := hP2.out.call hBV.out
          have hT3 : Hid (V3.ownsRow B 71 5 (.slice ea ke ec) ke (ins es)) := own_below hT2.out hBV.out
          have hB3 : Hid (Below g0 w V3) := hB2.out.trans (hBV.out.mono (by omega))
          replace hA : Hid (RdR V3 u15 (rowsR ⟨[], pn, ps, pa, pk, pf⟩ r0 (es ++ [endI]))) := hA.out.below hBV.out
          clear hEn2 hP2 hT2 hB2 hBV
          go_wp2_with fail
          refine (O.within_any key 4 200 _ (by decide) (by decide) (by decide)).mono ?_
          rintro e V ⟨⟨y, hy0, hy1, rfl⟩, he⟩; obtain rfl := he.symm; clear he
          have hge3 : ge < V3.heap.size := by omega
          have hPX3 : gp < V3.heap.size := by omega
          go_upto_region 15 with fail
          go_cut [18] (fun q wx => Hid (wx.ownsRow V3.heap.size 71 5 q (ke + 2) (ins (es ++ [(⟨false, ⟨5, y, 1, 1⟩⟩ : Inp), endI]))) ∧ Hid (Below V3.heap.size V3 wx))
          case first =>
            have hHeld0 : Below V3.heap.size V3 V3.drew := (Below.refl _ _).drew
            have hEn := hEn3
            refine wp_region_held_drew (S := fun X => Below V3.heap.size V3 X) (by kernel_rfl) hHeld0 (fun hHeld => ?_)
            generalize V3.drew = V at hHeld0 hHeld ⊢
            clear hHeld0
            have hT : Two V V3.heap.size 71 5 (.slice none 0 0) (.slice none 0 0) 0 0 [] [] := two_nil _ _ _ _
            refine take_at (i := 1) (v := (.slice ea ke ec)) rfl rfl (by kernel_rfl) (by kernel_rfl) (by kernel_rfl) (fun _ _ _ h => h) (Or.inl ⟨by rfl, fun X _ => by go_simp⟩) hHeld ?_
            try simp only [Act.put, List.setIfInBounds_toArray, List.set_cons_zero, List.set_cons_succ]
            refine take_at (i := 3) (v := .int .i64 y) rfl rfl (by kernel_rfl) (by kernel_rfl) (by kernel_rfl) (fun _ _ _ h => h) (Or.inl ⟨by rfl, fun X _ => by go_simp⟩) hHeld ?_
            try simp only [Act.put, List.setIfInBounds_toArray, List.set_cons_zero, List.set_cons_succ]
            refine take_at (i := 4) (v := .agg #[.int .i64 5, .int .i64 y, .int .i64 1, .int .u64 1]) rfl rfl (by kernel_rfl) (by kernel_rfl) (by kernel_rfl) (fun _ _ _ h => h) (Or.inl ⟨by rfl, fun X _ => by go_simp⟩) hHeld ?_
            try simp only [Act.put, List.setIfInBounds_toArray, List.set_cons_zero, List.set_cons_succ]
            refine take_at (i := 5) (v := .agg #[.bool false, .int .i64 5, .int .i64 y, .int .i64 1, .int .u64 1]) rfl rfl (by kernel_rfl) (by kernel_rfl) (by kernel_rfl) (fun _ _ _ h => h) (Or.inl ⟨by rfl, fun X _ => by go_simp⟩) hHeld ?_
            try simp only [Act.put, List.setIfInBounds_toArray, List.set_cons_zero, List.set_cons_succ]
            refine take_at (i := 6) (v := .agg #[.bool true, .int .i64 1000, .int .i64 0, .int .i64 0, .int .u64 0]) rfl rfl (by kernel_rfl) (by kernel_rfl) (by kernel_rfl) (fun _ _ _ h => h) (Or.inl ⟨by rfl, fun X hX => by obtain ⟨k0, k1, k2, k3, k4⟩ := InAt.keep hEn.out.c (hX.block ge (by omega)); simp only [endI] at k0 k1 k2 k3 k4; go_simp⟩) hHeld ?_
            try simp only [Act.put, List.setIfInBounds_toArray, List.set_cons_zero, List.set_cons_succ]
            refine wpAnyH_ready (rs := [0, 7]) (by kernel_rfl) (by simp) ?_
            refine AllReadyH.cons rfl (fun K hK => ?_) (AllReadyH.cons rfl (fun K hK => ?_) AllReadyH.nil)
            · rw [if_pos (by rfl)]
              go_simp
              have hTn : Two (V.alloc (.cells #[] 71)) V3.heap.size 71 5 (.slice (some ⟨V.heap.size, 0, none⟩) 0 0) (.slice none 0 0) 0 0 (ins []) [] := two_lit0L hT (show V3.heap.size ≤ V.heap.size from hHeld.size)
              have hHn : Below V3.heap.size V3 (V.alloc (.cells #[] 71)) := below_call hHeld (below_alloc _ _)
              obtain ⟨Y20, hY⟩ : ∃ Y, Hid (V.alloc (.cells #[] 71) = Y) := ⟨_, rfl⟩
              rw [hY.out] at hTn hHn ⊢
              clear hY hT hHeld
              have hT := hTn
              clear hTn
              refine hK.out _ _ (hHn) (fun hHeld => ?_)
              clear hK K hHn
              try simp only [Act.put, List.setIfInBounds_toArray, List.set_cons_zero, List.set_cons_succ]
              refine wpAnyH_ready (rs := [2, 7]) (by kernel_rfl) (by simp) ?_
              refine AllReadyH.cons rfl (fun K hK => ?_) (AllReadyH.cons rfl (fun K hK => ?_) AllReadyH.nil)
              · refine step_append_srcY rfl rfl (.tmp 70) (.tmp 71) 55 rfl 5 V3.heap.size 71 i0 izero 40 Try.underlying55 hi hx0 hx1 hx2 rfl (by decide) (.slice (some ⟨V.heap.size, 0, none⟩) 0 0) 0 (ins []) rfl hT.hu (.slice ea ke ec) ke (ins es) rfl ((srcN_own hT3.out).below hHeld) (ins_one _) (by unfold maxLen; omega) (by omega) (show V3.heap.size ≤ Y20.heap.size from hHeld.size) ?_
                intro v21 W21 o21 b21 g21 f21
                replace hT := hT.left o21 g21 (fun z hz => by have h := f21 z hz; simpa using h)
                have hH21 := hHeld.trans b21
                clear o21 b21 g21 f21 hHeld
                refine hK.out _ _ (hH21) (fun hHeld => ?_)
                clear hK K hH21
                try simp only [Act.put, List.setIfInBounds_toArray, List.set_cons_zero, List.set_cons_succ]
                refine wpAnyH_ready (rs := [7]) (by kernel_rfl) (by simp) ?_
                refine AllReadyH.cons rfl (fun K hK => ?_) AllReadyH.nil
                rw [if_pos (by rfl)]
                go_simp
                have hTn : Two (W21.alloc (.cells #[.bool false, .int .i64 5, .int .i64 y, .int .i64 1, .int .u64 1, .bool true, .int .i64 1000, .int .i64 0, .int .i64 0, .int .u64 0] 71)) V3.heap.size 71 5 v21 (.slice (some ⟨W21.heap.size, 0, none⟩) 2 2) (0 + ke) 2 ((ins []) ++ (ins es)) (ins [(⟨false, ⟨5, y, 1, 1⟩⟩ : Inp), endI]) := two_lit2R ⟨false, ⟨5, y, 1, 1⟩⟩ endI hT (show V3.heap.size ≤ W21.heap.size from hHeld.size)
                have hHn : Below V3.heap.size V3 (W21.alloc (.cells #[.bool false, .int .i64 5, .int .i64 y, .int .i64 1, .int .u64 1, .bool true, .int .i64 1000, .int .i64 0, .int .i64 0, .int .u64 0] 71)) := below_call hHeld (below_alloc _ _)
                obtain ⟨Y22, hY⟩ : ∃ Y, Hid (W21.alloc (.cells #[.bool false, .int .i64 5, .int .i64 y, .int .i64 1, .int .u64 1, .bool true, .int .i64 1000, .int .i64 0, .int .i64 0, .int .u64 0] 71) = Y) := ⟨_, rfl⟩
                rw [hY.out] at hTn hHn ⊢
                clear hY hT hHeld
                have hT := hTn
                clear hTn
                refine hK.out _ _ (hHn) (fun hHeld => ?_)
                clear hK K hHn
                try simp only [Act.put, List.setIfInBounds_toArray, List.set_cons_zero, List.set_cons_succ]
                refine wpAnyH_ready (rs := [8]) (by kernel_rfl) (by simp) ?_
                refine AllReadyH.cons rfl (fun K hK => ?_) AllReadyH.nil
                refine step_append_srcY rfl rfl (.tmp 72) (.tmp 77) 55 rfl 5 V3.heap.size 71 i0 izero 40 Try.underlying55 hi hx0 hx1 hx2 rfl (by decide) v21 (0 + ke) ((ins []) ++ (ins es)) rfl hT.hu (.slice (some ⟨W21.heap.size, 0, none⟩) 2 2) 2 (ins [(⟨false, ⟨5, y, 1, 1⟩⟩ : Inp), endI]) rfl ((srcN_own hT.hv)) (ins_one _) (by unfold maxLen; omega) (by omega) (show V3.heap.size ≤ Y22.heap.size from hHeld.size) ?_
                intro v23 W23 o23 b23 g23 f23
                replace hT := hT.left o23 g23 (fun z hz => by have h := f23 z hz; simpa using h)
                have hH23 := hHeld.trans b23
                clear o23 b23 g23 f23 hHeld
                refine hK.out _ _ (hH23) (fun hHeld => ?_)
                clear hK K hH23
                try simp only [Act.put, List.setIfInBounds_toArray, List.set_cons_zero, List.set_cons_succ]
                refine take_at (i := 9) (v := v23) rfl rfl (by kernel_rfl) (by kernel_rfl) (by kernel_rfl) (fun _ _ _ h => h) (Or.inl ⟨by rfl, fun X _ => by go_simp⟩) hHeld ?_
                try simp only [Act.put, List.setIfInBounds_toArray, List.set_cons_zero, List.set_cons_succ]
                have ho9 : Hid (W23.ownsRow V3.heap.size 71 5 v23 (ke + 2) (ins (es ++ [(⟨false, ⟨5, y, 1, 1⟩⟩ : Inp), endI]))) := by
                  have h : W23.ownsRow V3.heap.size 71 5 v23 (ke + 2) (ins (es ++ [(⟨false, ⟨5, y, 1, 1⟩⟩ : Inp), endI])) := by have h := hT.hu; rw [ins_append]; simpa [ins] using h
                  exact h
                clear hT
                refine wpAnyH_done (by kernel_rfl) ?_ _
                go_wp2_with fail
                go_meet
                exact ⟨ho9, hHeld⟩
              · rw [if_pos (by rfl)]
                go_simp
                have hTn : Two (Y20.alloc (.cells #[.bool false, .int .i64 5, .int .i64 y, .int .i64 1, .int .u64 1, .bool true, .int .i64 1000, .int .i64 0, .int .i64 0, .int .u64 0] 71)) V3.heap.size 71 5 (.slice (some ⟨V.heap.size, 0, none⟩) 0 0) (.slice (some ⟨Y20.heap.size, 0, none⟩) 2 2) 0 2 (ins []) (ins [(⟨false, ⟨5, y, 1, 1⟩⟩ : Inp), endI]) := two_lit2R ⟨false, ⟨5, y, 1, 1⟩⟩ endI hT (show V3.heap.size ≤ Y20.heap.size from hHeld.size)
                have hHn : Below V3.heap.size V3 (Y20.alloc (.cells #[.bool false, .int .i64 5, .int .i64 y, .int .i64 1, .int .u64 1, .bool true, .int .i64 1000, .int .i64 0, .int .i64 0, .int .u64 0] 71)) := below_call hHeld (below_alloc _ _)
                obtain ⟨Y21, hY⟩ : ∃ Y, Hid (Y20.alloc (.cells #[.bool false, .int .i64 5, .int .i64 y, .int .i64 1, .int .u64 1, .bool true, .int .i64 1000, .int .i64 0, .int .i64 0, .int .u64 0] 71) = Y) := ⟨_, rfl⟩
                rw [hY.out] at hTn hHn ⊢
                clear hY hT hHeld
                have hT := hTn
                clear hTn
                refine hK.out _ _ (hHn) (fun hHeld => ?_)
                clear hK K hHn
                try simp only [Act.put, List.setIfInBounds_toArray, List.set_cons_zero, List.set_cons_succ]
                refine wpAnyH_ready (rs := [2]) (by kernel_rfl) (by simp) ?_
                refine AllReadyH.cons rfl (fun K hK => ?_) AllReadyH.nil
                refine step_append_srcY rfl rfl (.tmp 70) (.tmp 71) 55 rfl 5 V3.heap.size 71 i0 izero 40 Try.underlying55 hi hx0 hx1 hx2 rfl (by decide) (.slice (some ⟨V.heap.size, 0, none⟩) 0 0) 0 (ins []) rfl hT.hu (.slice ea ke ec) ke (ins es) rfl ((srcN_own hT3.out).below hHeld) (ins_one _) (by unfold maxLen; omega) (by omega) (show V3.heap.size ≤ Y21.heap.size from hHeld.size) ?_
                intro v22 W22 o22 b22 g22 f22
                replace hT := hT.left o22 g22 (fun z hz => by have h := f22 z hz; simpa using h)
                have hH22 := hHeld.trans b22
                clear o22 b22 g22 f22 hHeld
                refine hK.out _ _ (hH22) (fun hHeld => ?_)
                clear hK K hH22
                try simp only [Act.put, List.setIfInBounds_toArray, List.set_cons_zero, List.set_cons_succ]
                refine wpAnyH_ready (rs := [8]) (by kernel_rfl) (by simp) ?_
                refine AllReadyH.cons rfl (fun K hK => ?_) AllReadyH.nil
                refine step_append_srcY rfl rfl (.tmp 72) (.tmp 77) 55 rfl 5 V3.heap.size 71 i0 izero 40 Try.underlying55 hi hx0 hx1 hx2 rfl (by decide) v22 (0 + ke) ((ins []) ++ (ins es)) rfl hT.hu (.slice (some ⟨Y20.heap.size, 0, none⟩) 2 2) 2 (ins [(⟨false, ⟨5, y, 1, 1⟩⟩ : Inp), endI]) rfl ((srcN_own hT.hv)) (ins_one _) (by unfold maxLen; omega) (by omega) (show V3.heap.size ≤ W22.heap.size from hHeld.size) ?_
                intro v23 W23 o23 b23 g23 f23
                replace hT := hT.left o23 g23 (fun z hz => by have h := f23 z hz; simpa using h)
                have hH23 := hHeld.trans b23
                clear o23 b23 g23 f23 hHeld
                refine hK.out _ _ (hH23) (fun hHeld => ?_)
                clear hK K hH23
                try simp only [Act.put, List.setIfInBounds_toArray, List.set_cons_zero, List.set_cons_succ]
                refine take_at (i := 9) (v := v23) rfl rfl (by kernel_rfl) (by kernel_rfl) (by kernel_rfl) (fun _ _ _ h => h) (Or.inl ⟨by rfl, fun X _ => by go_simp⟩) hHeld ?_
                try simp only [Act.put, List.setIfInBounds_toArray, List.set_cons_zero, List.set_cons_succ]
                have ho9 : Hid (W23.ownsRow V3.heap.size 71 5 v23 (ke + 2) (ins (es ++ [(⟨false, ⟨5, y, 1, 1⟩⟩ : Inp), endI]))) := by
                  have h : W23.ownsRow V3.heap.size 71 5 v23 (ke + 2) (ins (es ++ [(⟨false, ⟨5, y, 1, 1⟩⟩ : Inp), endI])) := by have h := hT.hu; rw [ins_append]; simpa [ins] using h
                  exact h
                clear hT
                refine wpAnyH_done (by kernel_rfl) ?_ _
                go_wp2_with fail
                go_meet
                exact ⟨ho9, hHeld⟩
            · rw [if_pos (by rfl)]
              go_simp
              have hTn : Two (V.alloc (.cells #[.bool false, .int .i64 5, .int .i64 y, .int .i64 1, .int .u64 1, .bool true, .int .i64 1000, .int .i64 0, .int .i64 0, .int .u64 0] 71)) V3.heap.size 71 5 (.slice none 0 0) (.slice (some ⟨V.heap.size, 0, none⟩) 2 2) 0 2 [] (ins [(⟨false, ⟨5, y, 1, 1⟩⟩ : Inp), endI]) := two_lit2R ⟨false, ⟨5, y, 1, 1⟩⟩ endI hT (show V3.heap.size ≤ V.heap.size from hHeld.size)
              have hHn : Below V3.heap.size V3 (V.alloc (.cells #[.bool false, .int .i64 5, .int .i64 y, .int .i64 1, .int .u64 1, .bool true, .int .i64 1000, .int .i64 0, .int .i64 0, .int .u64 0] 71)) := below_call hHeld (below_alloc _ _)
              obtain ⟨Y20, hY⟩ : ∃ Y, Hid (V.alloc (.cells #[.bool false, .int .i64 5, .int .i64 y, .int .i64 1, .int .u64 1, .bool true, .int .i64 1000, .int .i64 0, .int .i64 0, .int .u64 0] 71) = Y) := ⟨_, rfl⟩
              rw [hY.out] at hTn hHn ⊢
              clear hY hT hHeld
              have hT := hTn
              clear hTn
              refine hK.out _ _ (hHn) (fun hHeld => ?_)
              clear hK K hHn
              try simp only [Act.put, List.setIfInBounds_toArray, List.set_cons_zero, List.set_cons_succ]
              refine wpAnyH_ready (rs := [0]) (by kernel_rfl) (by simp) ?_
              refine AllReadyH.cons rfl (fun K hK => ?_) AllReadyH.nil
              rw [if_pos (by rfl)]
              go_simp
              have hTn : Two (Y20.alloc (.cells #[] 71)) V3.heap.size 71 5 (.slice (some ⟨Y20.heap.size, 0, none⟩) 0 0) (.slice (some ⟨V.heap.size, 0, none⟩) 2 2) 0 2 (ins []) (ins [(⟨false, ⟨5, y, 1, 1⟩⟩ : Inp), endI]) := two_lit0L hT (show V3.heap.size ≤ Y20.heap.size from hHeld.size)
              have hHn : Below V3.heap.size V3 (Y20.alloc (.cells #[] 71)) := below_call hHeld (below_alloc _ _)
              obtain ⟨Y21, hY⟩ : ∃ Y, Hid (Y20.alloc (.cells #[] 71) = Y) := ⟨_, rfl⟩
              rw [hY.out] at hTn hHn ⊢
              clear hY hT hHeld
              have hT := hTn
              clear hTn
              refine hK.out _ _ (hHn) (fun hHeld => ?_)
              clear hK K hHn
              try simp only [Act.put, List.setIfInBounds_toArray, List.set_cons_zero, List.set_cons_succ]
              refine wpAnyH_ready (rs := [2]) (by kernel_rfl) (by simp) ?_
              refine AllReadyH.cons rfl (fun K hK => ?_) AllReadyH.nil
              refine step_append_srcY rfl rfl (.tmp 70) (.tmp 71) 55 rfl 5 V3.heap.size 71 i0 izero 40 Try.underlying55 hi hx0 hx1 hx2 rfl (by decide) (.slice (some ⟨Y20.heap.size, 0, none⟩) 0 0) 0 (ins []) rfl hT.hu (.slice ea ke ec) ke (ins es) rfl ((srcN_own hT3.out).below hHeld) (ins_one _) (by unfold maxLen; omega) (by omega) (show V3.heap.size ≤ Y21.heap.size from hHeld.size) ?_
              intro v22 W22 o22 b22 g22 f22
              replace hT := hT.left o22 g22 (fun z hz => by have h := f22 z hz; simpa using h)
              have hH22 := hHeld.trans b22
              clear o22 b22 g22 f22 hHeld
              refine hK.out _ _ (hH22) (fun hHeld => ?_)
              clear hK K hH22
              try simp only [Act.put, List.setIfInBounds_toArray, List.set_cons_zero, List.set_cons_succ]
              refine wpAnyH_ready (rs := [8]) (by kernel_rfl) (by simp) ?_
              refine AllReadyH.cons rfl (fun K hK => ?_) AllReadyH.nil
              refine step_append_srcY rfl rfl (.tmp 72) (.tmp 77) 55 rfl 5 V3.heap.size 71 i0 izero 40 Try.underlying55 hi hx0 hx1 hx2 rfl (by decide) v22 (0 + ke) ((ins []) ++ (ins es)) rfl hT.hu (.slice (some ⟨V.heap.size, 0, none⟩) 2 2) 2 (ins [(⟨false, ⟨5, y, 1, 1⟩⟩ : Inp), endI]) rfl ((srcN_own hT.hv)) (ins_one _) (by unfold maxLen; omega) (by omega) (show V3.heap.size ≤ W22.heap.size from hHeld.size) ?_
              intro v23 W23 o23 b23 g23 f23
              replace hT := hT.left o23 g23 (fun z hz => by have h := f23 z hz; simpa using h)
              have hH23 := hHeld.trans b23
              clear o23 b23 g23 f23 hHeld
              refine hK.out _ _ (hH23) (fun hHeld => ?_)
              clear hK K hH23
              try simp only [Act.put, List.setIfInBounds_toArray, List.set_cons_zero, List.set_cons_succ]
              refine take_at (i := 9) (v := v23) rfl rfl (by kernel_rfl) (by kernel_rfl) (by kernel_rfl) (fun _ _ _ h => h) (Or.inl ⟨by rfl, fun X _ => by go_simp⟩) hHeld ?_
              try simp only [Act.put, List.setIfInBounds_toArray, List.set_cons_zero, List.set_cons_succ]
              have ho9 : Hid (W23.ownsRow V3.heap.size 71 5 v23 (ke + 2) (ins (es ++ [(⟨false, ⟨5, y, 1, 1⟩⟩ : Inp), endI]))) := by
                have h : W23.ownsRow V3.heap.size 71 5 v23 (ke + 2) (ins (es ++ [(⟨false, ⟨5, y, 1, 1⟩⟩ : Inp), endI])) := by have h := hT.hu; rw [ins_append]; simpa [ins] using h
                exact h
              clear hT
              refine wpAnyH_done (by kernel_rfl) ?_ _
              go_wp2_with fail
              go_meet
              exact ⟨ho9, hHeld⟩
          case rest =>
            obtain ⟨hM, hBV⟩ := hcut
            obtain ⟨V4, hV4⟩ : ∃ X, X = wc := ⟨_, rfl⟩
            subst hV4
            have hz4 : V3.heap.size ≤ V4.heap.size := hBV.out.size
            have hP4 : Hid (Pik V4 gp (.slice none 0 0) pn ps pa pk pf) := hP3.out.call hBV.out
            have hB4 : Hid (Below g0 w V4) := hB3.out.trans (hBV.out.mono (by omega))
            replace hA : Hid (RdR V4 u15 (rowsR ⟨[], pn, ps, pa, pk, pf⟩ r0 (es ++ [endI]))) := hA.out.below hBV.out
            replace hA2 : Hid (RdR V4 u16 (rowsR ⟨[], pn, ps, pa, pk, pf⟩ r0 (es ++ [endI]))) := hA2.out.below hBV.out
            have hO2' : Hid (rowsP (fun k => !decide (k = y)) (rowsR ⟨[], pn, ps, pa, pk, pf⟩ r0 (es ++ [(⟨false, ⟨5, y, 1, 1⟩⟩ : Inp), endI])) = rowsR ⟨[], pn, ps, pa, pk, pf⟩ r0 (es ++ [endI])) := hO2.out y hy0
            have hlabM : Hid (∀ i ∈ (es ++ [(⟨false, ⟨5, y, 1, 1⟩⟩ : Inp), endI]), i.e.l < 18446744073709551616) := by
              have h : ∀ i ∈ (es ++ [(⟨false, ⟨5, y, 1, 1⟩⟩ : Inp), endI]), i.e.l < 18446744073709551616 := fun i hi => by
                rcases List.mem_append.1 hi with h | h
                · exact hlab.out i h
                · rcases List.mem_cons.1 h with rfl | h
                  · show (1 : Nat) < 18446744073709551616; decide
                  · rw [List.mem_singleton.1 h]; decide
              exact h
            have hlenM : Hid (((es ++ [(⟨false, ⟨5, y, 1, 1⟩⟩ : Inp), endI])).length = ke + 2) := by
              have h : ((es ++ [(⟨false, ⟨5, y, 1, 1⟩⟩ : Inp), endI])).length = ke + 2 := by rw [List.length_append, hK0.out]; rfl
              exact h
            obtain ⟨q7, hq7, hz1, hz2', hq7'⟩ := rdi_own hM.out hlabM.out hz4
            clear hz1 hz2' hP3 hB3 hT3 hEn3 hM hBV hO1 hO2 hlab
            have hI7 : Hid (RdI V4 u18 q7 (es ++ [(⟨false, ⟨5, y, 1, 1⟩⟩ : Inp), endI])) := hq7
            clear hq7
            generalize (es ++ [(⟨false, ⟨5, y, 1, 1⟩⟩ : Inp), endI]) = js at hO2' hlabM hlenM hI7
            have c0 := hP4.out.c0
            have c1 := hP4.out.c1
            have c2 := hP4.out.c2
            have c3 := hP4.out.c3
            have c4 := hP4.out.c4
            have c5 := hP4.out.c5
            go_wp2_with fail
            refine (wrows_is (.slice none 0 0) ⟨[], pn, ps, pa, pk, pf⟩ u18 q7 js _ (opsIn_nil _) (small_plain hS'.out) (by simp) hI7.out hq7' (by rw [hlenM.out]; omega)).mono ?_
            rintro e W7 ⟨u7, rfl, hu7, b7⟩
            obtain ⟨ra, rc, rfl⟩ := own_len hu7
            have hr7 : Hid (RdR W7 (.slice ra (rowsR ⟨[], pn, ps, pa, pk, pf⟩ r0 js).length rc) (rowsR ⟨[], pn, ps, pa, pk, pf⟩ r0 js)) := rdr_own hu7
            have hMb := (rows_len ⟨[], pn, ps, pa, pk, pf⟩ js).1
            rw [hlenM.out] at hMb
            replace hA : Hid (RdR W7 u15 (rowsR ⟨[], pn, ps, pa, pk, pf⟩ r0 (es ++ [endI]))) := hA.out.below b7
            replace hA2 : Hid (RdR W7 u16 (rowsR ⟨[], pn, ps, pa, pk, pf⟩ r0 (es ++ [endI]))) := hA2.out.below b7
            have hB7 : Hid (Below g0 w W7) := hB4.out.trans (b7.mono (by omega))
            have hz7 : g0 ≤ W7.heap.size := by have := b7.size; omega
            clear hu7 b7 hP4 hB4 hI7 hlabM hlenM c0 c1 c2 c3 c4 c5
            generalize rowsR ⟨[], pn, ps, pa, pk, pf⟩ r0 js = E at hr7 hMb hO2' ⊢
            generalize rowsR ⟨[], pn, ps, pa, pk, pf⟩ r0 (es ++ [endI]) = A at hA hA2 hO2'
            obtain ⟨n, hn⟩ : ∃ n, Hid (E.length = n) := ⟨_, rfl⟩
            rw [hn.out] at hr7 hMb ⊢
            go_wp2_with fail
            go_loopw [19, 83] (fun u i wr => ∃ j : Nat, j ≤ n ∧ i = .int .i64 j ∧ Hid (wr.ownsRow W7.heap.size 45 5 u (rowsP (fun k => !decide (k = y)) (E.take j)).length (rcs (rowsP (fun k => !decide (k = y)) (E.take j)))) ∧ Hid (Below W7.heap.size W7 wr)) (fun _ i _ => n - (intOf i).toNat)
            case atStart => exact ⟨0, Nat.zero_le _, rfl, World.ownsRow_nil _ _ _ _, Below.refl _ _⟩
            case round =>
              obtain ⟨j, hj, rfl, hT, hBr⟩ := hrel
              have hBz : W7.heap.size ≤ wr.heap.size := hBr.out.size
              by_cases hlt : j < n
              · have hjl : j < E.length := by rw [hn.out]; exact hlt
                obtain ⟨hl, ao', cap', he', hlc, hcm', hcell⟩ := hr7.out.below hBr.out
                injection he' with he1 he2 he3
                subst he1 he3
                obtain ⟨gb, off, rfl, hgb, hrow⟩ := hcell (by omega)
                have hat := hrow j hjl
                have hfb := rowsP_step (fun k => !decide (k = y)) E j hjl
                have hlb := rowsP_len (fun k => !decide (k = y)) E j
                obtain ⟨x, hx⟩ : ∃ x, Hid (pAt E j = x) := ⟨_, rfl⟩
                rw [hx.out] at hat hfb
                have hfb' : Hid (rowsP (fun k => !decide (k = y)) (E.take (j + 1)) = rowsP (fun k => !decide (k = y)) (E.take j) ++ (if (fun k => !decide (k = y)) x.k = true then [x] else [])) := hfb
                clear hcell hrow hl hlc hcm' he2 hgb hx hfb hjl
                generalize rowsP (fun k => !decide (k = y)) (E.take j) = xb at hT hfb' hlb
                obtain ⟨d0, d1, d2, d3, d4⟩ := hat
                go_upto_region 20 with fail
                clear d0 d1 d2 d3 d4
                refine world_gen (fun X => Hid (Rok X wr.heap.size x) ∧ Hid (X.ownsRow W7.heap.size 45 5 u19 xb.length (rcs xb)) ∧ Hid (Below W7.heap.size W7 X)) ⟨rok_new _ _, hT.out.alloc _, hBr.out.trans ((below_alloc _ _).mono hBz)⟩ ?_
                clear hT hBr
                rintro X ⟨hK, hT, hBr⟩
                generalize wr.heap.size = gi at hK hBz ⊢
                obtain ⟨xs, xk, xc, xv, xl⟩ := x
                obtain ⟨c0, c1, c2, c3, c4⟩ := Rok.c hK.out
                simp only at c0 c1 c2 c3 c4
                have hXz7 : W7.heap.size ≤ X.heap.size := hBr.out.size
                by_cases hky : xk = y
                · have hy2 : y = xk := hky.symm
                  subst hy2
                  have hd3 : (y != y) = false := by simp
                  have eqb : rowsP (fun k => !decide (k = y)) (E.take (j + 1)) = xb := by rw [hfb'.out]; simp
                  have hT8 : Hid (X.ownsRow W7.heap.size 45 5 u19 (rowsP (fun k => !decide (k = y)) (E.take (j + 1))).length (rcs (rowsP (fun k => !decide (k = y)) (E.take (j + 1))))) := by
                    have h : X.ownsRow W7.heap.size 45 5 u19 (rowsP (fun k => !decide (k = y)) (E.take (j + 1))).length (rcs (rowsP (fun k => !decide (k = y)) (E.take (j + 1)))) := by rw [eqb]; exact hT.out
                    exact h
                  clear eqb hT hK
                  go_wp2_with fail
                  go_roundw
                  case rel => exact ⟨j + 1, by omega, by go_num, hT8, hBr⟩
                  case measure => simp [intOf]; omega
                · have hk2 : (xk != y) = true := by simpa using hky
                  go_wp2_with (at_builtin; refine wpList_append_srcN _ (by rfl) _ _ 39 rfl 5 W7.heap.size 45 j0 rzero 40 Try.underlying39 hj0 hr0 hr1 hr2 rfl (by decide) u19 xb.length (rcs xb) rfl (hT.out.alloc _) (.slice (some ⟨X.heap.size, 0, none⟩) 1 1) 1 (rcs [(⟨xs, xk, xc, xv, xl⟩ : Pn)]) rfl (row_src X ⟨xs, xk, xc, xv, xl⟩ _ rfl) (rcs_one _) ?c1 ?c2 ?c3 ?_)
                  case c1 => unfold maxLen; omega
                  case c2 => omega
                  case c3 => first | omega | (simp; omega)
                  intro v8 W8 o8 b8
                  have hB8 : Hid (Below W7.heap.size W7 W8) := (hBr.out.trans ((below_alloc X _).mono hXz7)).trans b8
                  have eqb : rowsP (fun k => !decide (k = y)) (E.take (j + 1)) = xb ++ [(⟨xs, xk, xc, xv, xl⟩ : Pn)] := by rw [hfb'.out]; simp [hky]
                  have hT8 : Hid (W8.ownsRow W7.heap.size 45 5 v8 (rowsP (fun k => !decide (k = y)) (E.take (j + 1))).length (rcs (rowsP (fun k => !decide (k = y)) (E.take (j + 1))))) := by
                    have h : W8.ownsRow W7.heap.size 45 5 v8 (rowsP (fun k => !decide (k = y)) (E.take (j + 1))).length (rcs (rowsP (fun k => !decide (k = y)) (E.take (j + 1)))) := by rw [eqb, rcs_append, List.length_append]; exact o8
                    exact h
                  clear hky eqb hT hBr hK o8 b8 c0 c1 c2 c3 c4
                  go_wp2_with fail
                  go_roundw
                  case rel => exact ⟨j + 1, by omega, by go_num, hT8, hB8⟩
                  case measure => simp [intOf]; omega
              · obtain rfl : n = j := by omega
                rw [List.take_of_length_le (Nat.le_of_eq hn.out), hO2'.out] at hT
                have hx1 : Hid (RdR wr u19 A) := rdr_own hT.out
                replace hA : Hid (RdR wr u15 A) := hA.out.below hBr.out
                replace hA2 : Hid (RdR wr u16 A) := hA2.out.below hBr.out
                have hBF : Hid (Below g0 w wr) := hB7.out.trans (hBr.out.mono hz7)
                have hzr : g0 ≤ wr.heap.size := by omega
                clear hT hr7 hBr hB7 hO2' hn hBz
                go_wp2_with fail
                refine (same_r u15 u16 A _ hA.out hA2.out).mono ?_
                rintro e W10 ⟨rfl, b9⟩
                replace hA : Hid (RdR W10 u15 A) := hA.out.below b9
                replace hx1 : Hid (RdR W10 u19 A) := hx1.out.below b9
                replace hBF : Hid (Below g0 w W10) := hBF.out.trans (b9.mono hzr)
                have hzr2 : g0 ≤ W10.heap.size := by have := b9.size; omega
                clear hA2 b9
                go_wp2_with fail
                refine (same_r u19 u15 A _ hx1.out hA.out).mono ?_
                rintro e W11 ⟨rfl, b9⟩
                replace hBF : Hid (Below g0 w W11) := hBF.out.trans (b9.mono hzr2)
                have hzr3 : g0 ≤ W11.heap.size := by have := b9.size; omega
                clear hA hx1 b9
                go_wp2_with fail
                refine (wholeRuns_walk _).mono ?_
                rintro e W12 ⟨rfl, b9⟩
                replace hBF : Hid (Below g0 w W12) := hBF.out.trans (b9.mono hzr3)
                clear b9
                go_wp2_with fail
                go_ret
                exact ⟨rfl, by rw [hg0.out]; exact hBF.out⟩
end Go.Proofs.Ytombgbdplafooaa
