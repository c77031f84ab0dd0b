/- WholeParts, walked. -/
import Derived.Test.YtombgbdplafooaaWTwo
import Derived.Deep.QuietTactic
import Derived.BigQuiet
namespace Go.Proofs.Ytombgbdplafooaa
open Go.RowKit M
open O (RdO Kpk Pik Small Ints)
open O.MO (Oq Pq rightP)
set_option linter.unusedVariables false
set_option linter.unusedSimpArgs false
attribute [local go_sem ↓] Go.wp_at_zero Go.wp_at_succ

theorem forP_true (P : Int → Bool) (i : Inp) (h : i.mrk = true) : forP P i = true := by simp [forP, h]
theorem forP_key (P : Int → Bool) (i : Inp) (h : i.mrk = false) : forP P i = P i.e.k := by simp [forP, h]

set_option maxHeartbeats 8000000 in
set_option maxRecDepth 100000 in
theorem wholeParts_walk (k : KeepIn) (la : Option Addr) (ll lc : Nat) (key : Int) (w : World) (hk : IsKeep w k) (hI : Ins4 w la ll lc) (hkey : (Lit.int .i64 key).wf = true) :
    Calls Try.prog 11 #[kin k, .slice la ll lc, .int .i64 key] w fun e w' => e = .returned (.bool true) ∧ Below w.heap.size w w' := by
  obtain ⟨ao, lo, co, an, ln, cn, kn, ks, kg, kk, kf⟩ := k
  unfold kin
  obtain ⟨hk1, hk2⟩ := hk
  simp only at hk1 hk2
  have hI' : Hid (Ins4 w la ll lc) := hI
  clear hI
  go_enter Try.func11, Try.ntmps11
  go_upto_region 1 with fail
  refine world_gen (fun W => Hid (Kpk W w.heap.size (.slice ao lo co) (.slice an ln cn) kn ks kg kk kf) ∧ Hid (Ints W ao lo co) ∧ Hid (Ints W an ln cn) ∧ Hid (Below w.heap.size w W)) ⟨O.kpk_new _ _ _ _ _ _ _ _, hk1.call (below_alloc _ _), hk2.call (below_alloc _ _), below_alloc _ _⟩ ?_
  clear hk1 hk2
  rintro W ⟨hK, hk1, hk2, hB⟩
  obtain ⟨g0, hg0⟩ : ∃ x, Hid (w.heap.size = x) := ⟨_, rfl⟩
  rw [hg0.out] at hK hB ⊢
  have c0 := hK.out.c0
  have c1 := hK.out.c1
  have c2 := hK.out.c2
  have c3 := hK.out.c3
  have c4 := hK.out.c4
  have c5 := hK.out.c5
  have c6 := hK.out.c6
  go_wp2_with fail
  refine (O.keep_any ao lo co an ln cn kn ks kg kk kf _ hk1.out hk2.out).mono ?_
  rintro e W1 ⟨⟨os, pn, ps, pa, pk, pf⟩, u, hS, he, ho, hu, b1⟩
  simp only at he ho
  subst he
  obtain ⟨ua, uc, rfl⟩ := own_len ho
  have hS' : Hid (Small ⟨os, pn, ps, pa, pk, pf⟩) := hS
  have hO : Hid (OpsIn W1 (.slice ua os.length uc) os) := ⟨O.own_base ho (Nat.zero_le _), (small_new hS).2.2.1⟩
  have hWz : g0 ≤ W.heap.size := by have := hB.out.size; have := hg0.out; omega
  replace hB : Hid (Below g0 w W1) := hB.out.trans (b1.mono hWz)
  clear hK hk1 hk2 c0 c1 c2 c3 c4 c5 c6 ho hu b1 hS
  go_upto_region 2 with fail
  refine world_gen (fun X => Hid (Pik X W1.heap.size (.slice ua os.length uc) pn ps pa pk pf) ∧ Hid (OpsIn X (.slice ua os.length uc) os) ∧ Hid (Below g0 w X) ∧ W1.heap.size < X.heap.size) ⟨O.pik_new _ _ _ _ _ _ _, hO.out.below (below_alloc _ _), hB.out.alloc (by have := hB.out.size; have := hg0.out; omega) _, by simp⟩ ?_
  have hgw : g0 ≤ W1.heap.size := by have := hB.out.size; have := hg0.out; omega
  clear hO hB
  generalize W1.heap.size = gp at hgw ⊢
  rintro W0 ⟨hP, hO, hB, hgp⟩
  have f0 := hP.out.free 0
  have c0 := hP.out.c0
  go_upto_region 3 with fail
  refine world_gen (fun X => Hid (Pik X gp (.slice none 0 0) pn ps pa pk pf) ∧ Hid (Below g0 w X) ∧ gp < X.heap.size) ⟨hP.out.set0 _, hB.out.setCell (show g0 ≤ gp from hgw) _, by simpa [World.setCell] using hgp⟩ ?_
  clear hP hO hB hgp f0 c0
  rintro X0 ⟨hP, hB, hgp⟩
  go_wp2_with fail
  refine (O.within_any key 0 3 _ (by decide) (by decide) (by decide)).mono ?_
  rintro e V ⟨⟨y, hy0, hy1, rfl⟩, he⟩; obtain rfl := he.symm; clear he
  obtain ⟨i0, hi, hx0, hx1, hx2⟩ := info_parts Try.info71
  obtain ⟨j0, hj0, hr0, hr1, hr2⟩ := info_parts Try.info45
  go_wp2_with fail
  refine (inputs_is la ll lc _ (hI'.out.below hB.out (Nat.le_of_eq hg0.out) hB.out.size)).mono ?_
  rintro e W3 ⟨iu, is, rfl, hl25, hG, ho, b3⟩
  obtain ⟨ia, ic, rfl⟩ := own_len ho
  have hG' : Hid (∀ i ∈ is, Good i) := hG
  have hz3 : X0.heap.size ≤ W3.heap.size := b3.size
  obtain ⟨m, hm⟩ : ∃ m, Hid (is.length = m) := ⟨_, rfl⟩
  rw [hm.out] at hl25 ho ⊢
  go_wp2_with (at_builtin; refine wpList_append_srcN _ (by rfl) _ _ 55 rfl 5 X0.heap.size 71 i0 izero 40 Try.underlying55 hi hx0 hx1 hx2 rfl (by decide) (.slice ia m ic) m (ins is) rfl (ho.alloc _) (.slice (some ⟨W3.heap.size, 0, none⟩) 1 1) 1 (ins [endI]) rfl (in_src W3 endI _ rfl) (ins_one _) (by unfold maxLen; omega) (by omega) (by simp; omega) ?_)
  intro v5 W5 o5 b5
  have hb5 : Below X0.heap.size X0 W5 := (b3.trans ((below_alloc W3 _).mono hz3)).trans b5
  have ho5 : W5.ownsRow X0.heap.size 71 5 v5 (is ++ [endI]).length (ins (is ++ [endI])) := by rw [ins_append, List.length_append, hm.out]; exact o5
  have hlab : Hid (∀ i ∈ is ++ [endI], i.e.l < 18446744073709551616) := end_l (good_l hG'.out)
  obtain ⟨qi0, hI5, _, _, hq5⟩ := rdi_own ho5 hlab.out hb5.size
  have hE0 : WE w W5 g0 gp (.slice none 0 0) ⟨[], pn, ps, pa, pk, pf⟩ qi0 v5 (is ++ [endI]) := ⟨hP.out.call hb5, opsIn_nil _, hI5, hB.out.trans (hb5.mono (by omega)), hgw, by have := hb5.size; omega, hq5⟩
  obtain ⟨qi, hE1, hqi⟩ := hE0.some
  obtain ⟨ja, jc, rfl⟩ := own_len ho5
  have hlen : (is ++ [endI]).length = m + 1 := by rw [List.length_append, hm.out]; rfl
  rw [hlen] at hE1 ⊢
  have hE : Hid (WE w W5 g0 gp (.slice none 0 0) ⟨[], pn, ps, pa, pk, pf⟩ qi (.slice ja (m + 1) jc) (is ++ [endI])) := hE1
  have hlen' : Hid ((is ++ [endI]).length = m + 1) := hlen
  clear hE0 hE1 hI5 hq5 ho5 hb5 o5 b5 ho b3 hG hP hB hlen hG' hm
  generalize is ++ [endI] = js at hE hlen' hlab
  obtain ⟨B, hB⟩ : ∃ B, Hid (W5.heap.size = B) := ⟨_, rfl⟩
  have hBg : gp < B ∧ qi < B := ⟨by have := hE.out.hp; have := hB.out; omega, by have := hB.out; omega⟩
  clear hqi hgp hz3
  go_wp2_with fail
  go_loopw [10, 11, 31] (fun u v i wr => ∃ j : Nat, j ≤ m + 1 ∧ i = .int .i64 j ∧ Hid (Two wr B 71 5 u v ((js.take j).filter (forP fun k => decide (k = y))).length ((js.take j).filter (forP fun k => !decide (k = y))).length (ins ((js.take j).filter (forP fun k => decide (k = y)))) (ins ((js.take j).filter (forP fun k => !decide (k = y))))) ∧ Hid (WE w wr g0 gp (.slice none 0 0) ⟨[], pn, ps, pa, pk, pf⟩ qi (.slice ja (m + 1) jc) js) ∧ B ≤ wr.heap.size) (fun _ _ i _ => m + 1 - (intOf i).toNat)
  case atStart => exact ⟨0, Nat.zero_le _, rfl, two_nil _ _ _ _, hE, Nat.le_of_eq hB.out.symm⟩
  case round =>
    obtain ⟨j, hj, rfl, hT, hE, hBz⟩ := hrel
    by_cases hlt : j < m + 1
    · have hjl : j < js.length := by rw [hlen'.out]; exact hlt
      obtain ⟨hl, _, ao', cap', he', hlc, hcm', hcell⟩ := hE.out.I
      injection he' with he1 he2 he3
      subst he1 he3
      obtain ⟨off, rfl, hgb, hrow⟩ := hcell (by omega)
      have hat := hrow j hjl
      have hel := hlab.out _ (iAt_mem js j hjl)
      have hfa := filt_step (forP fun k => decide (k = y)) js j hjl
      have hfb := filt_step (forP fun k => !decide (k = y)) js j hjl
      have hla := filt_len (forP fun k => decide (k = y)) js j
      have hlb := filt_len (forP fun k => !decide (k = y)) js j
      obtain ⟨x, hx⟩ : ∃ x, Hid (iAt js j = x) := ⟨_, rfl⟩
      rw [hx.out] at hat hel hfa hfb
      have hfa' : Hid ((js.take (j + 1)).filter (forP fun k => decide (k = y)) = (js.take j).filter (forP fun k => decide (k = y)) ++ (if forP (fun k => decide (k = y)) x = true then [x] else [])) := hfa
      have hfb' : Hid ((js.take (j + 1)).filter (forP fun k => !decide (k = y)) = (js.take j).filter (forP fun k => !decide (k = y)) ++ (if forP (fun k => !decide (k = y)) x = true then [x] else [])) := hfb
      have hel' : Hid (x.e.l < 18446744073709551616) := hel
      have hjl' : Hid (j < js.length) := hjl
      clear hcell hrow hl hlc hcm' he2 hgb hx hel hfa hfb hjl
      generalize (js.take j).filter (forP fun k => decide (k = y)) = fa at hT hfa' hla
      generalize (js.take j).filter (forP fun k => !decide (k = y)) = fb at hT hfb' hlb
      obtain ⟨d0, d1, d2, d3, d4⟩ := hat
      go_upto_region 9 with fail
      clear d0 d1 d2 d3 d4
      refine world_gen (fun X => Hid (Ink X wr.heap.size x) ∧ Hid (Two X B 71 5 u10 u11 fa.length fb.length (ins fa) (ins fb)) ∧ Hid (WE w X g0 gp (.slice none 0 0) ⟨[], pn, ps, pa, pk, pf⟩ qi (.slice (some ⟨qi, off, none⟩) (m + 1) jc) js) ∧ Hid (∀ k, u10.ownBlock = some k → k < wr.heap.size) ∧ wr.heap.size < X.heap.size) ⟨ink_new _ _, hT.out.alloc _, hE.out.alloc _, fun k hk => (hT.out.hu.lt k hk).2, by simp⟩ ?_
      clear hT hE
      rintro X ⟨hK, hT, hE, hU, hXz⟩
      generalize wr.heap.size = gi at hK hBz hXz hU ⊢
      obtain ⟨mk, ⟨et, ek, ev, el⟩⟩ := x
      obtain ⟨c0, c1, c2, c3, c4⟩ := hK.out.c
      simp only at c0 c1 c2 c3 c4
      cases mk with
      | true =>
        go_wp2_with (at_builtin; refine wpList_append_srcF _ (by rfl) _ _ 55 rfl 5 B 71 i0 izero 40 Try.underlying55 hi hx0 hx1 hx2 rfl (by decide) u10 fa.length (ins fa) rfl (hT.out.alloc _).hu (.slice (some ⟨X.heap.size, 0, none⟩) 1 1) 1 (ins [(⟨true, ⟨et, ek, ev, el⟩⟩ : Inp)]) rfl (in_src X ⟨true, ⟨et, ek, ev, el⟩⟩ _ rfl) (ins_one _) ?c1 ?c2 ?c3 ?_)
        case c1 => unfold maxLen; omega
        case c2 => omega
        case c3 => first | omega | (simp; omega)
        intro v5 W5 o5 b5 g5 f5
        have hS5 : X.heap.size < W5.heap.size := Nat.lt_of_lt_of_le (by simp) b5.size
        have hE5 : Hid (WE w W5 g0 gp (.slice none 0 0) ⟨[], pn, ps, pa, pk, pf⟩ qi (.slice (some ⟨qi, off, none⟩) (m + 1) jc) js) := (hE.out.alloc _).keep b5 b5.size hBg.1 (fun k hk => by cases hk) hBg.2 (by simp; omega)
        have hT5 : Hid (Two W5 B 71 5 v5 u11 (fa ++ [(⟨true, ⟨et, ek, ev, el⟩⟩ : Inp)]).length fb.length (ins (fa ++ [(⟨true, ⟨et, ek, ev, el⟩⟩ : Inp)])) (ins fb)) := (hT.out.alloc _).left (by rw [ins_append, List.length_append]; exact o5) g5 (fun k hk => by have h := f5 k hk; simpa using h)
        have hK5 : Hid (Ink W5 gi ⟨true, ⟨et, ek, ev, el⟩⟩) := (hK.out.call (below_alloc _ _)).keep (g5.block gi (by simp; omega) (fun e => absurd (hU.out gi e.symm) (Nat.lt_irrefl _)))
        clear o5 b5 g5 f5 hE hT hK c0 c1 c2 c3 c4
        obtain ⟨c0, c1, c2, c3, c4⟩ := hK5.out.c
        simp only at c0 c1 c2 c3 c4
        go_wp2_with (at_builtin; refine wpList_append_srcF _ (by rfl) _ _ 55 rfl 5 B 71 i0 izero 40 Try.underlying55 hi hx0 hx1 hx2 rfl (by decide) u11 fb.length (ins fb) rfl (hT5.out.alloc _).hv (.slice (some ⟨W5.heap.size, 0, none⟩) 1 1) 1 (ins [(⟨true, ⟨et, ek, ev, el⟩⟩ : Inp)]) rfl (in_src W5 ⟨true, ⟨et, ek, ev, el⟩⟩ _ rfl) (ins_one _) ?c1 ?c2 ?c3 ?_)
        case c1 => unfold maxLen; omega
        case c2 => omega
        case c3 => first | omega | (simp; omega)
        intro v6 W6 o6 b6 g6 f6
        have hS6 : W5.heap.size < W6.heap.size := Nat.lt_of_lt_of_le (by simp) b6.size
        have hE6 : Hid (WE w W6 g0 gp (.slice none 0 0) ⟨[], pn, ps, pa, pk, pf⟩ qi (.slice (some ⟨qi, off, none⟩) (m + 1) jc) js) := (hE5.out.alloc _).keep b6 b6.size hBg.1 (fun k hk => by cases hk) hBg.2 (by simp; omega)
        have hT6 : Hid (Two W6 B 71 5 v5 v6 (fa ++ [(⟨true, ⟨et, ek, ev, el⟩⟩ : Inp)]).length (fb ++ [(⟨true, ⟨et, ek, ev, el⟩⟩ : Inp)]).length (ins (fa ++ [(⟨true, ⟨et, ek, ev, el⟩⟩ : Inp)])) (ins (fb ++ [(⟨true, ⟨et, ek, ev, el⟩⟩ : Inp)]))) := (hT5.out.alloc _).right (by rw [ins_append, List.length_append]; exact o6) g6 (fun k hk => by have h := f6 k hk; simpa using h)
        clear o6 b6 g6 f6 hE5 hT5 hK5 c0 c1 c2 c3 c4
        have eqa : (js.take (j + 1)).filter (forP fun k => decide (k = y)) = fa ++ [(⟨true, ⟨et, ek, ev, el⟩⟩ : Inp)] := by rw [hfa'.out]; simp [forP]
        have eqb : (js.take (j + 1)).filter (forP fun k => !decide (k = y)) = fb ++ [(⟨true, ⟨et, ek, ev, el⟩⟩ : Inp)] := by rw [hfb'.out]; simp [forP]
        have hT9 : Hid (Two W6 B 71 5 v5 v6 ((js.take (j + 1)).filter (forP fun k => decide (k = y))).length ((js.take (j + 1)).filter (forP fun k => !decide (k = y))).length (ins ((js.take (j + 1)).filter (forP fun k => decide (k = y)))) (ins ((js.take (j + 1)).filter (forP fun k => !decide (k = y))))) := by
          have h : Two W6 B 71 5 v5 v6 ((js.take (j + 1)).filter (forP fun k => decide (k = y))).length ((js.take (j + 1)).filter (forP fun k => !decide (k = y))).length (ins ((js.take (j + 1)).filter (forP fun k => decide (k = y)))) (ins ((js.take (j + 1)).filter (forP fun k => !decide (k = y)))) := by rw [eqa, eqb]; exact hT6.out
          exact h
        clear eqa eqb hT6
        go_wp2_with fail
        go_roundw
        case rel => exact ⟨j + 1, by omega, by go_num, hT9, hE6, by omega⟩
        case measure => simp [intOf]; omega
      | false =>
        by_cases hky : ek = y
        · have hy2 : y = ek := hky.symm
          subst hy2
          have hd2 : (y == y) = true := by simp
          have hd3 : (y != y) = false := by simp
          go_wp2_with (at_builtin; refine wpList_append_srcF _ (by rfl) _ _ 55 rfl 5 B 71 i0 izero 40 Try.underlying55 hi hx0 hx1 hx2 rfl (by decide) u10 fa.length (ins fa) rfl (hT.out.alloc _).hu (.slice (some ⟨X.heap.size, 0, none⟩) 1 1) 1 (ins [(⟨false, ⟨et, y, ev, el⟩⟩ : Inp)]) rfl (in_src X ⟨false, ⟨et, y, ev, el⟩⟩ _ rfl) (ins_one _) ?c1 ?c2 ?c3 ?_)
          case c1 => unfold maxLen; omega
          case c2 => omega
          case c3 => first | omega | (simp; omega)
          intro v5 W5 o5 b5 g5 f5
          have hS5 : X.heap.size < W5.heap.size := Nat.lt_of_lt_of_le (by simp) b5.size
          have hE5 : Hid (WE w W5 g0 gp (.slice none 0 0) ⟨[], pn, ps, pa, pk, pf⟩ qi (.slice (some ⟨qi, off, none⟩) (m + 1) jc) js) := (hE.out.alloc _).keep b5 b5.size hBg.1 (fun k hk => by cases hk) hBg.2 (by simp; omega)
          have hT5 : Hid (Two W5 B 71 5 v5 u11 (fa ++ [(⟨false, ⟨et, y, ev, el⟩⟩ : Inp)]).length fb.length (ins (fa ++ [(⟨false, ⟨et, y, ev, el⟩⟩ : Inp)])) (ins fb)) := (hT.out.alloc _).left (by rw [ins_append, List.length_append]; exact o5) g5 (fun k hk => by have h := f5 k hk; simpa using h)
          have hK5 : Hid (Ink W5 gi ⟨false, ⟨et, y, ev, el⟩⟩) := (hK.out.call (below_alloc _ _)).keep (g5.block gi (by simp; omega) (fun e => absurd (hU.out gi e.symm) (Nat.lt_irrefl _)))
          clear o5 b5 g5 f5 hE hT hK c0 c1 c2 c3 c4
          obtain ⟨c0, c1, c2, c3, c4⟩ := hK5.out.c
          simp only at c0 c1 c2 c3 c4
          have eqa : (js.take (j + 1)).filter (forP fun k => decide (k = y)) = fa ++ [(⟨false, ⟨et, y, ev, el⟩⟩ : Inp)] := by rw [hfa'.out]; simp [forP]
          have eqb : (js.take (j + 1)).filter (forP fun k => !decide (k = y)) = fb := by rw [hfb'.out]; simp [forP]
          have hT9 : Hid (Two W5 B 71 5 v5 u11 ((js.take (j + 1)).filter (forP fun k => decide (k = y))).length ((js.take (j + 1)).filter (forP fun k => !decide (k = y))).length (ins ((js.take (j + 1)).filter (forP fun k => decide (k = y)))) (ins ((js.take (j + 1)).filter (forP fun k => !decide (k = y))))) := by
            have h : Two W5 B 71 5 v5 u11 ((js.take (j + 1)).filter (forP fun k => decide (k = y))).length ((js.take (j + 1)).filter (forP fun k => !decide (k = y))).length (ins ((js.take (j + 1)).filter (forP fun k => decide (k = y)))) (ins ((js.take (j + 1)).filter (forP fun k => !decide (k = y)))) := by rw [eqa, eqb]; exact hT5.out
            exact h
          clear eqa eqb hT5 hky
          go_wp2_with fail
          go_roundw
          case rel => exact ⟨j + 1, by omega, by go_num, hT9, hE5, by omega⟩
          case measure => simp [intOf]; omega
        · have hk1 : (ek == y) = false := by simpa using hky
          have hk2 : (ek != y) = true := by simpa using hky
          go_wp2_with (at_builtin; refine wpList_append_srcF _ (by rfl) _ _ 55 rfl 5 B 71 i0 izero 40 Try.underlying55 hi hx0 hx1 hx2 rfl (by decide) u11 fb.length (ins fb) rfl (hT.out.alloc _).hv (.slice (some ⟨X.heap.size, 0, none⟩) 1 1) 1 (ins [(⟨false, ⟨et, ek, ev, el⟩⟩ : Inp)]) rfl (in_src X ⟨false, ⟨et, ek, ev, el⟩⟩ _ rfl) (ins_one _) ?c1 ?c2 ?c3 ?_)
          case c1 => unfold maxLen; omega
          case c2 => omega
          case c3 => first | omega | (simp; omega)
          intro v5 W5 o5 b5 g5 f5
          have hS5 : X.heap.size < W5.heap.size := Nat.lt_of_lt_of_le (by simp) b5.size
          have hE5 : Hid (WE w W5 g0 gp (.slice none 0 0) ⟨[], pn, ps, pa, pk, pf⟩ qi (.slice (some ⟨qi, off, none⟩) (m + 1) jc) js) := (hE.out.alloc _).keep b5 b5.size hBg.1 (fun k hk => by cases hk) hBg.2 (by simp; omega)
          have hT5 : Hid (Two W5 B 71 5 u10 v5 fa.length (fb ++ [(⟨false, ⟨et, ek, ev, el⟩⟩ : Inp)]).length (ins fa) (ins (fb ++ [(⟨false, ⟨et, ek, ev, el⟩⟩ : Inp)]))) := (hT.out.alloc _).right (by rw [ins_append, List.length_append]; exact o5) g5 (fun k hk => by have h := f5 k hk; simpa using h)
          clear o5 b5 g5 f5 hE hT hK c0 c1 c2 c3 c4
          have eqa : (js.take (j + 1)).filter (forP fun k => decide (k = y)) = fa := by rw [hfa'.out]; simp [forP, hky]
          have eqb : (js.take (j + 1)).filter (forP fun k => !decide (k = y)) = fb ++ [(⟨false, ⟨et, ek, ev, el⟩⟩ : Inp)] := by rw [hfb'.out]; simp [forP, hky]
          have hT9 : Hid (Two W5 B 71 5 u10 v5 ((js.take (j + 1)).filter (forP fun k => decide (k = y))).length ((js.take (j + 1)).filter (forP fun k => !decide (k = y))).length (ins ((js.take (j + 1)).filter (forP fun k => decide (k = y)))) (ins ((js.take (j + 1)).filter (forP fun k => !decide (k = y))))) := by
            have h : Two W5 B 71 5 u10 v5 ((js.take (j + 1)).filter (forP fun k => decide (k = y))).length ((js.take (j + 1)).filter (forP fun k => !decide (k = y))).length (ins ((js.take (j + 1)).filter (forP fun k => decide (k = y)))) (ins ((js.take (j + 1)).filter (forP fun k => !decide (k = y)))) := by rw [eqa, eqb]; exact hT5.out
            exact h
          clear eqa eqb hT5 hky
          go_wp2_with fail
          go_roundw
          case rel => exact ⟨j + 1, by omega, by go_num, hT9, hE5, by omega⟩
          case measure => simp [intOf]; omega
    · obtain rfl : j = m + 1 := by omega
      rw [List.take_of_length_le (Nat.le_of_eq hlen'.out)] at hT
      have hfl1 := filt_len (forP fun k => decide (k = y)) js (m + 1)
      have hfl2 := filt_len (forP fun k => !decide (k = y)) js (m + 1)
      rw [List.take_of_length_le (Nat.le_of_eq hlen'.out)] at hfl1 hfl2
      have hLs : Hid (labs js = labs (js.filter (forP fun k => decide (k = y))) ||| labs (js.filter (forP fun k => !decide (k = y)))) := parts_labs (fun k => decide (k = y)) js
      have hRa : Hid (rowsP (fun k => decide (k = y)) (rowsR ⟨[], pn, ps, pa, pk, pf⟩ r0 js) = rowsR ⟨[], pn, ps, pa, pk, pf⟩ r0 (js.filter (forP fun k => decide (k = y)))) := parts_rows rfl _ js
      have hRb : Hid (rowsP (fun k => !decide (k = y)) (rowsR ⟨[], pn, ps, pa, pk, pf⟩ r0 js) = rowsR ⟨[], pn, ps, pa, pk, pf⟩ r0 (js.filter (forP fun k => !decide (k = y)))) := parts_rows rfl _ js
      have hla1 : Hid (∀ i ∈ js.filter (forP fun k => decide (k = y)), i.e.l < 18446744073709551616) := by
        have h : ∀ i ∈ js.filter (forP fun k => decide (k = y)), i.e.l < 18446744073709551616 := fun i hi => hlab.out i (List.mem_filter.1 hi).1
        exact h
      have hla2 : Hid (∀ i ∈ js.filter (forP fun k => !decide (k = y)), i.e.l < 18446744073709551616) := by
        have h : ∀ i ∈ js.filter (forP fun k => !decide (k = y)), i.e.l < 18446744073709551616 := fun i hi => hlab.out i (List.mem_filter.1 hi).1
        exact h
      generalize js.filter (forP fun k => decide (k = y)) = fa at hT hLs hRa hla1 hfl1
      generalize js.filter (forP fun k => !decide (k = y)) = fb at hT hLs hRb hla2 hfl2
      obtain ⟨qa, hia, _, _, hqa⟩ := rdi_own hT.out.hu hla1.out hBz
      obtain ⟨qb, hib, _, _, hqb⟩ := rdi_own hT.out.hv hla2.out hBz
      have hIa : Hid (RdI wr u10 qa fa) := hia
      have hIb : Hid (RdI wr u11 qb fb) := hib
      clear hia hib hT
      have c0 := hE.out.P.c0
      have c1 := hE.out.P.c1
      have c2 := hE.out.P.c2
      have c3 := hE.out.P.c3
      have c4 := hE.out.P.c4
      have c5 := hE.out.P.c5
      go_wp2_with fail
      refine (wrows_is (.slice none 0 0) ⟨[], pn, ps, pa, pk, pf⟩ (.slice ja (m + 1) jc) qi js _ hE.out.O (small_plain hS'.out) (by simp) hE.out.I hE.out.hq (by rw [hlen'.out]; omega)).mono ?_
      rintro e W7 ⟨u7, rfl, hu7, b7⟩
      obtain ⟨ea, ec, rfl⟩ := own_len hu7
      have hE7 : Hid (WE w W7 g0 gp (.slice none 0 0) ⟨[], pn, ps, pa, pk, pf⟩ qi (.slice ja (m + 1) jc) js) := hE.out.call b7
      have hr7 : Hid (RdR W7 (.slice ea (rowsR ⟨[], pn, ps, pa, pk, pf⟩ r0 js).length ec) (rowsR ⟨[], pn, ps, pa, pk, pf⟩ r0 js)) := rdr_own hu7
      have hMb := (rows_len ⟨[], pn, ps, pa, pk, pf⟩ js).1
      replace hIa : Hid (RdI W7 u10 qa fa) := hIa.out.below b7
      replace hIb : Hid (RdI W7 u11 qb fb) := hIb.out.below b7
      have hqa7 : qa ≤ W7.heap.size := by have := b7.size; omega
      have hqb7 : qb ≤ W7.heap.size := by have := b7.size; omega
      rw [hlen'.out] at hMb
      clear hu7 b7 hE hqa hqb hBz c0 c1 c2 c3 c4 c5
      generalize rowsR ⟨[], pn, ps, pa, pk, pf⟩ r0 js = E at hr7 hMb hRa hRb ⊢
      obtain ⟨n, hn⟩ : ∃ n, Hid (E.length = n) := ⟨_, rfl⟩
      rw [hn.out] at hr7 hMb ⊢
      obtain ⟨D, hD⟩ : ∃ D, Hid (W7.heap.size = D) := ⟨_, rfl⟩
      go_wp2_with fail
      go_loopw [14, 15, 66] (fun u v i wr => ∃ j : Nat, j ≤ n ∧ i = .int .i64 j ∧ Hid (Two wr W7.heap.size 45 5 u v (rowsP (fun k => decide (k = y)) (E.take j)).length (rowsP (fun k => !decide (k = y)) (E.take j)).length (rcs (rowsP (fun k => decide (k = y)) (E.take j))) (rcs (rowsP (fun k => !decide (k = y)) (E.take j)))) ∧ Hid (Below W7.heap.size W7 wr)) (fun _ _ i _ => n - (intOf i).toNat)
      case atStart => exact ⟨0, Nat.zero_le _, rfl, two_nil _ _ _ _, Below.refl _ _⟩
      case round =>
        obtain ⟨j, hj, rfl, hT, hB7⟩ := hrel
        have hBz : W7.heap.size ≤ wr.heap.size := hB7.out.size
        by_cases hlt : j < n
        · have hjl : j < E.length := by rw [hn.out]; exact hlt
          obtain ⟨hl, ao', cap', he', hlc, hcm', hcell⟩ := hr7.out.below hB7.out
          injection he' with he1 he2 he3
          subst he1 he3
          obtain ⟨gb, off, rfl, hgb, hrow⟩ := hcell (by omega)
          have hat := hrow j hjl
          have hfa := rowsP_step (fun k => decide (k = y)) E j hjl
          have hfb := rowsP_step (fun k => !decide (k = y)) E j hjl
          have hla := rowsP_len (fun k => decide (k = y)) E j
          have hlb := rowsP_len (fun k => !decide (k = y)) E j
          obtain ⟨x, hx⟩ : ∃ x, Hid (pAt E j = x) := ⟨_, rfl⟩
          rw [hx.out] at hat hfa hfb
          have hfa' : Hid (rowsP (fun k => decide (k = y)) (E.take (j + 1)) = rowsP (fun k => decide (k = y)) (E.take j) ++ (if (fun k => decide (k = y)) x.k = true then [x] else [])) := hfa
          have hfb' : Hid (rowsP (fun k => !decide (k = y)) (E.take (j + 1)) = rowsP (fun k => !decide (k = y)) (E.take j) ++ (if (fun k => !decide (k = y)) x.k = true then [x] else [])) := hfb
          clear hcell hrow hl hlc hcm' he2 hgb hx hfa hfb hjl
          generalize rowsP (fun k => decide (k = y)) (E.take j) = xa at hT hfa' hla
          generalize rowsP (fun k => !decide (k = y)) (E.take j) = xb at hT hfb' hlb
          obtain ⟨d0, d1, d2, d3, d4⟩ := hat
          go_upto_region 18 with fail
          clear d0 d1 d2 d3 d4
          refine world_gen (fun X => Hid (Rok X wr.heap.size x) ∧ Hid (Two X W7.heap.size 45 5 u14 u15 xa.length xb.length (rcs xa) (rcs xb)) ∧ Hid (Below W7.heap.size W7 X)) ⟨rok_new _ _, hT.out.alloc _, hB7.out.trans ((below_alloc _ _).mono hBz)⟩ ?_
          clear hT hB7
          rintro X ⟨hK, hT, hB7⟩
          generalize wr.heap.size = gi at hK hBz ⊢
          obtain ⟨xs, xk, xc, xv, xl⟩ := x
          obtain ⟨c0, c1, c2, c3, c4⟩ := Rok.c hK.out
          simp only at c0 c1 c2 c3 c4
          have hXz : W7.heap.size ≤ X.heap.size := hB7.out.size
          by_cases hky : xk = y
          · have hy2 : y = xk := hky.symm
            subst hy2
            have hd2 : (y == y) = true := by simp
            go_wp2_with (at_builtin; refine wpList_append_srcF _ (by rfl) _ _ 39 rfl 5 W7.heap.size 45 j0 rzero 40 Try.underlying39 hj0 hr0 hr1 hr2 rfl (by decide) u14 xa.length (rcs xa) rfl (hT.out.alloc _).hu (.slice (some ⟨X.heap.size, 0, none⟩) 1 1) 1 (rcs [(⟨xs, y, xc, xv, xl⟩ : Pn)]) rfl (row_src X ⟨xs, y, xc, xv, xl⟩ _ rfl) (rcs_one _) ?c1 ?c2 ?c3 ?_)
            case c1 => unfold maxLen; omega
            case c2 => omega
            case c3 => first | omega | (simp; omega)
            intro v8 W8 o8 b8 g8 f8
            have hB8 : Hid (Below W7.heap.size W7 W8) := (hB7.out.trans ((below_alloc X _).mono hXz)).trans b8
            have eqa : rowsP (fun k => decide (k = y)) (E.take (j + 1)) = (xa ++ [(⟨xs, y, xc, xv, xl⟩ : Pn)]) := by rw [hfa'.out]; simp
            have eqb : rowsP (fun k => !decide (k = y)) (E.take (j + 1)) = xb := by rw [hfb'.out]; simp
            have hT8 : Hid (Two W8 W7.heap.size 45 5 v8 u15 (rowsP (fun k => decide (k = y)) (E.take (j + 1))).length (rowsP (fun k => !decide (k = y)) (E.take (j + 1))).length (rcs (rowsP (fun k => decide (k = y)) (E.take (j + 1)))) (rcs (rowsP (fun k => !decide (k = y)) (E.take (j + 1))))) := by
              have h : Two W8 W7.heap.size 45 5 v8 u15 (xa ++ [(⟨xs, y, xc, xv, xl⟩ : Pn)]).length xb.length (rcs (xa ++ [(⟨xs, y, xc, xv, xl⟩ : Pn)])) (rcs xb) := (hT.out.alloc _).left (by rw [rcs_append, List.length_append]; exact o8) g8 (fun k hk => by have h := f8 k hk; simpa using h)
              have h2 : Two W8 W7.heap.size 45 5 v8 u15 (rowsP (fun k => decide (k = y)) (E.take (j + 1))).length (rowsP (fun k => !decide (k = y)) (E.take (j + 1))).length (rcs (rowsP (fun k => decide (k = y)) (E.take (j + 1)))) (rcs (rowsP (fun k => !decide (k = y)) (E.take (j + 1)))) := by rw [eqa, eqb]; exact h
              exact h2
            clear eqa eqb hT hB7 hK o8 b8 g8 f8 hfa' hfb' c0 c1 c2 c3 c4
            go_wp2_with fail
            go_roundw
            case rel => exact ⟨j + 1, by omega, by go_num, hT8, hB8⟩
            case measure => simp [intOf]; omega
          · have hk1 : (xk == y) = false := by simpa using hky
            go_wp2_with (at_builtin; refine wpList_append_srcF _ (by rfl) _ _ 39 rfl 5 W7.heap.size 45 j0 rzero 40 Try.underlying39 hj0 hr0 hr1 hr2 rfl (by decide) u15 xb.length (rcs xb) rfl (hT.out.alloc _).hv (.slice (some ⟨X.heap.size, 0, none⟩) 1 1) 1 (rcs [(⟨xs, xk, xc, xv, xl⟩ : Pn)]) rfl (row_src X ⟨xs, xk, xc, xv, xl⟩ _ rfl) (rcs_one _) ?c1 ?c2 ?c3 ?_)
            case c1 => unfold maxLen; omega
            case c2 => omega
            case c3 => first | omega | (simp; omega)
            intro v8 W8 o8 b8 g8 f8
            have hB8 : Hid (Below W7.heap.size W7 W8) := (hB7.out.trans ((below_alloc X _).mono hXz)).trans b8
            have eqa : rowsP (fun k => decide (k = y)) (E.take (j + 1)) = xa := by rw [hfa'.out]; simp [hky]
            have eqb : rowsP (fun k => !decide (k = y)) (E.take (j + 1)) = (xb ++ [(⟨xs, xk, xc, xv, xl⟩ : Pn)]) := by rw [hfb'.out]; simp [hky]
            have hT8 : Hid (Two W8 W7.heap.size 45 5 u14 v8 (rowsP (fun k => decide (k = y)) (E.take (j + 1))).length (rowsP (fun k => !decide (k = y)) (E.take (j + 1))).length (rcs (rowsP (fun k => decide (k = y)) (E.take (j + 1)))) (rcs (rowsP (fun k => !decide (k = y)) (E.take (j + 1))))) := by
              have h : Two W8 W7.heap.size 45 5 u14 v8 xa.length (xb ++ [(⟨xs, xk, xc, xv, xl⟩ : Pn)]).length (rcs xa) (rcs (xb ++ [(⟨xs, xk, xc, xv, xl⟩ : Pn)])) := (hT.out.alloc _).right (by rw [rcs_append, List.length_append]; exact o8) g8 (fun k hk => by have h := f8 k hk; simpa using h)
              have h2 : Two W8 W7.heap.size 45 5 u14 v8 (rowsP (fun k => decide (k = y)) (E.take (j + 1))).length (rowsP (fun k => !decide (k = y)) (E.take (j + 1))).length (rcs (rowsP (fun k => decide (k = y)) (E.take (j + 1)))) (rcs (rowsP (fun k => !decide (k = y)) (E.take (j + 1)))) := by rw [eqa, eqb]; exact h
              exact h2
            clear hky eqa eqb hT hB7 hK o8 b8 g8 f8 hfa' hfb' c0 c1 c2 c3 c4
            go_wp2_with fail
            go_roundw
            case rel => exact ⟨j + 1, by omega, by go_num, hT8, hB8⟩
            case measure => simp [intOf]; omega
        · obtain rfl : j = n := by omega
          rw [List.take_of_length_le (Nat.le_of_eq hn.out), hRa.out, hRb.out] at hT
          have hx1 : Hid (RdR wr u14 (rowsR ⟨[], pn, ps, pa, pk, pf⟩ r0 fa)) := rdr_own hT.out.hu
          have hx2 : Hid (RdR wr u15 (rowsR ⟨[], pn, ps, pa, pk, pf⟩ r0 fb)) := rdr_own hT.out.hv
          have hEr : Hid (WE w wr g0 gp (.slice none 0 0) ⟨[], pn, ps, pa, pk, pf⟩ qi (.slice ja (m + 1) jc) js) := hE7.out.call hB7.out
          replace hIa : Hid (RdI wr u10 qa fa) := hIa.out.below hB7.out
          replace hIb : Hid (RdI wr u11 qb fb) := hIb.out.below hB7.out
          have hqa8 : qa ≤ wr.heap.size := by omega
          have hqb8 : qb ≤ wr.heap.size := by omega
          clear hT hE7 hr7 hB7 hRa hRb hn hD hBz hqa7 hqb7 hMb
          have c0 := hEr.out.P.c0
          have c1 := hEr.out.P.c1
          have c2 := hEr.out.P.c2
          have c3 := hEr.out.P.c3
          have c4 := hEr.out.P.c4
          have c5 := hEr.out.P.c5
          go_wp2_with fail
          refine (wrows_is (.slice none 0 0) ⟨[], pn, ps, pa, pk, pf⟩ u10 qa fa _ (opsIn_nil _) (small_plain hS'.out) (by simp) hIa.out hqa8 (by omega)).mono ?_
          rintro e W9 ⟨u9, rfl, hu9, b9⟩
          have hr9 : Hid (RdR W9 u9 (rowsR ⟨[], pn, ps, pa, pk, pf⟩ r0 fa)) := rdr_own hu9
          replace hx1 : Hid (RdR W9 u14 (rowsR ⟨[], pn, ps, pa, pk, pf⟩ r0 fa)) := hx1.out.below b9
          replace hx2 : Hid (RdR W9 u15 (rowsR ⟨[], pn, ps, pa, pk, pf⟩ r0 fb)) := hx2.out.below b9
          replace hEr : Hid (WE w W9 g0 gp (.slice none 0 0) ⟨[], pn, ps, pa, pk, pf⟩ qi (.slice ja (m + 1) jc) js) := hEr.out.call b9
          replace hIa : Hid (RdI W9 u10 qa fa) := hIa.out.below b9
          replace hIb : Hid (RdI W9 u11 qb fb) := hIb.out.below b9
          have hqb9 : qb ≤ W9.heap.size := by have := b9.size; omega
          clear hu9 b9 hqa8 hqb8 c0 c1 c2 c3 c4 c5
          go_wp2_with fail
          refine (same_r u14 u9 (rowsR ⟨[], pn, ps, pa, pk, pf⟩ r0 fa) _ hx1.out hr9.out).mono ?_
          rintro e W10 ⟨rfl, b9⟩
          replace hx2 : Hid (RdR W10 u15 (rowsR ⟨[], pn, ps, pa, pk, pf⟩ r0 fb)) := hx2.out.below b9
          replace hEr : Hid (WE w W10 g0 gp (.slice none 0 0) ⟨[], pn, ps, pa, pk, pf⟩ qi (.slice ja (m + 1) jc) js) := hEr.out.call b9
          replace hIa : Hid (RdI W10 u10 qa fa) := hIa.out.below b9
          replace hIb : Hid (RdI W10 u11 qb fb) := hIb.out.below b9
          have hqb10 : qb ≤ W10.heap.size := by have := b9.size; omega
          clear hx1 hr9 b9 hqb9
          have c0 := hEr.out.P.c0
          have c1 := hEr.out.P.c1
          have c2 := hEr.out.P.c2
          have c3 := hEr.out.P.c3
          have c4 := hEr.out.P.c4
          have c5 := hEr.out.P.c5
          go_wp2_with fail
          refine (wrows_is (.slice none 0 0) ⟨[], pn, ps, pa, pk, pf⟩ u11 qb fb _ (opsIn_nil _) (small_plain hS'.out) (by simp) hIb.out hqb10 (by omega)).mono ?_
          rintro e W11 ⟨u9, rfl, hu9, b9⟩
          have hr9 : Hid (RdR W11 u9 (rowsR ⟨[], pn, ps, pa, pk, pf⟩ r0 fb)) := rdr_own hu9
          replace hx2 : Hid (RdR W11 u15 (rowsR ⟨[], pn, ps, pa, pk, pf⟩ r0 fb)) := hx2.out.below b9
          replace hEr : Hid (WE w W11 g0 gp (.slice none 0 0) ⟨[], pn, ps, pa, pk, pf⟩ qi (.slice ja (m + 1) jc) js) := hEr.out.call b9
          replace hIa : Hid (RdI W11 u10 qa fa) := hIa.out.below b9
          replace hIb : Hid (RdI W11 u11 qb fb) := hIb.out.below b9
          clear hu9 b9 hqb10 c0 c1 c2 c3 c4 c5
          go_wp2_with fail
          refine (same_r u15 u9 (rowsR ⟨[], pn, ps, pa, pk, pf⟩ r0 fb) _ hx2.out hr9.out).mono ?_
          rintro e W12 ⟨rfl, b9⟩
          replace hEr : Hid (WE w W12 g0 gp (.slice none 0 0) ⟨[], pn, ps, pa, pk, pf⟩ qi (.slice ja (m + 1) jc) js) := hEr.out.call b9
          replace hIa : Hid (RdI W12 u10 qa fa) := hIa.out.below b9
          replace hIb : Hid (RdI W12 u11 qb fb) := hIb.out.below b9
          clear hx2 hr9 b9
          go_wp2_with fail
          refine (labels_is (.slice ja (m + 1) jc) qi js _ hEr.out.I).mono ?_
          rintro e W13 ⟨rfl, b9⟩
          replace hEr : Hid (WE w W13 g0 gp (.slice none 0 0) ⟨[], pn, ps, pa, pk, pf⟩ qi (.slice ja (m + 1) jc) js) := hEr.out.call b9
          replace hIa : Hid (RdI W13 u10 qa fa) := hIa.out.below b9
          replace hIb : Hid (RdI W13 u11 qb fb) := hIb.out.below b9
          clear b9
          go_wp2_with fail
          refine (labels_is u10 qa fa _ hIa.out).mono ?_
          rintro e W14 ⟨rfl, b9⟩
          replace hEr : Hid (WE w W14 g0 gp (.slice none 0 0) ⟨[], pn, ps, pa, pk, pf⟩ qi (.slice ja (m + 1) jc) js) := hEr.out.call b9
          replace hIb : Hid (RdI W14 u11 qb fb) := hIb.out.below b9
          clear b9 hIa
          go_wp2_with fail
          refine (labels_is u11 qb fb _ hIb.out).mono ?_
          rintro e W15 ⟨rfl, b9⟩
          replace hEr : Hid (WE w W15 g0 gp (.slice none 0 0) ⟨[], pn, ps, pa, pk, pf⟩ qi (.slice ja (m + 1) jc) js) := hEr.out.call b9
          have hor := u64_or_nat (labs fa) (labs fb) (labs_lt _ hla1.out) (labs_lt _ hla2.out)
          rw [hLs.out]
          clear b9 hIb hLs hla1 hla2
          generalize labs fa = la1 at hor ⊢
          generalize labs fb = la2 at hor ⊢
          go_wp2_with fail
          refine (wholeRuns_walk _).mono ?_
          rintro e W16 ⟨rfl, b9⟩
          have hBB : Hid (Below g0 w W16) := (hEr.out.call b9).B
          clear hEr b9
          go_wp2_with fail
          go_ret
          exact ⟨rfl, by rw [hg0.out]; exact hBB.out⟩
end Go.Proofs.Ytombgbdplafooaa
