/- PanesPlays, walked: of any sizes and any calls it returns true, and nothing that was there is written. -/
import Derived.Test.YtombgbdplafooaaPPair
import Derived.Deep.Cut
import Derived.Deep.CutBlock
import Derived.Deep.DeepCutAuto
namespace Go.Proofs.Ytombgbdplafooaa
open Go.RowKit M
set_option linter.unusedVariables false
set_option linter.unusedSimpArgs false
attribute [local go_sem ↓] Go.wp_at_zero Go.wp_at_succ

section
variable {w : World} {g : Nat} {u0 u1 u2 u3 : Value}
theorem set4_other {j : Nat} (hj : j ≠ g) : ((((w.setCell ⟨g, 0, none⟩ u0).setCell ⟨g, 1, none⟩ u1).setCell ⟨g, 2, none⟩ u2).setCell ⟨g, 3, none⟩ u3).heap[j]? = w.heap[j]? := by
  rw [Below.heap_setCell _ _ _ _ (show j ≠ g from hj), Below.heap_setCell _ _ _ _ (show j ≠ g from hj), Below.heap_setCell _ _ _ _ (show j ≠ g from hj), Below.heap_setCell _ _ _ _ (show j ≠ g from hj)]
theorem set4_size : ((((w.setCell ⟨g, 0, none⟩ u0).setCell ⟨g, 1, none⟩ u1).setCell ⟨g, 2, none⟩ u2).setCell ⟨g, 3, none⟩ u3).heap.size = w.heap.size := by simp [World.setCell]
theorem set4_below {B : Nat} (hB : B ≤ g) : Below B w ((((w.setCell ⟨g, 0, none⟩ u0).setCell ⟨g, 1, none⟩ u1).setCell ⟨g, 2, none⟩ u2).setCell ⟨g, 3, none⟩ u3) :=
  ((((Below.refl B w).setCell (p := ⟨g, 0, none⟩) hB u0).setCell (p := ⟨g, 1, none⟩) hB u1).setCell (p := ⟨g, 2, none⟩) hB u2).setCell (p := ⟨g, 3, none⟩) hB u3
end
theorem own_someN {w : World} {base : Nat} {v : Value} {l : List Value} {n sz : Nat} {e : TypeId} (h : w.ownsRow base e sz v n l) (hn : n ≠ 0) : ∃ g cap, v = .slice (some ⟨g, 0, none⟩) n cap ∧ n ≤ cap ∧ cap ≤ maxLen ∧ base ≤ g ∧ g < w.heap.size := by
  obtain ⟨_, h0 | ⟨g, cap, cur, rfl, hb, hh, h1, hm, _⟩⟩ := h
  · exact absurd h0.2 hn
  · exact ⟨g, cap, rfl, h1, hm, hb, (Array.getElem?_eq_some_iff.1 hh).1⟩
theorem own_ltN {w : World} {base : Nat} {v : Value} {l : List Value} {n sz : Nat} {e : TypeId} (h : w.ownsRow base e sz v n l) (hn : n ≠ 0) : base < w.heap.size := by
  obtain ⟨g, cap, _, _, _, h1, h2⟩ := own_someN h hn
  omega
theorem own_cap {w : World} {base : Nat} {a : Option Addr} {m c : Nat} {l : List Value} {n sz : Nat} {e : TypeId} (h : w.ownsRow base e sz (.slice a m c) n l) : m ≤ c ∧ c ≤ 9223372036854775807 := by
  obtain ⟨_, ⟨h0, rfl⟩ | ⟨g, cap, cur, h0, hb, hh, h1, hm, _⟩⟩ := h
  · injection h0 with _ h2 h3
    omega
  · injection h0 with _ h2 h3
    unfold maxLen at hm
    omega
theorem own_lenp {w : World} {B : Nat} {e : TypeId} {size n : Nat} {v : Value} {xs : List Value} (h : w.ownsRow B e size v n xs) : ∃ a c, v = .slice a n c := by
  obtain ⟨_, ⟨rfl, rfl⟩ | ⟨g, cap, cur, rfl, _⟩⟩ := h
  · exact ⟨_, _, rfl⟩
  · exact ⟨_, _, rfl⟩
theorem len_pb (b o : Nat) (n sl kn : Int) (L : List Pn) (m : Nat) (w : World) (hP : Pan w b o n sl kn L) (hm : L.length = m) :
    Calls Try.prog 22 #[.pointer (some ⟨b, 0, none⟩)] w fun e w' => e = .returned (.int .i64 (m : Int)) ∧ Below w.heap.size w w' :=
  (len_is b o n sl kn L m w hP hm).mono fun e w' h => ⟨h.1, h.2 ▸ Below.refl _ _⟩
set_option maxHeartbeats 4000000 in
set_option maxRecDepth 100000 in
theorem plays_core (a1 a2 a3 : Int) (al : Option Addr) (ll lc : Nat) (own : Bool) (w : World) (hA : IsAsk w al ll lc) :
    Calls Try.prog 3 #[.int .i64 a1, .int .i64 a2, .int .i64 a3, .slice al ll lc, .bool own] w fun e w' => e = .returned (.bool true) ∧ Below w.heap.size w w' := by
  have hA' : Hid (IsAsk w al ll lc) := hA
  obtain ⟨hlm, hcm, hlc, _⟩ := hA
  go_enter Try.func3, Try.ntmps3
  go_upto_if 25 with fail
  go_cut [0, 1, 2] (fun c0 c1 c2 wx => ∃ n sl kn : Int, c0 = .int .i64 n ∧ c1 = .int .i64 sl ∧ c2 = .int .i64 kn ∧ wx = w)
  case first =>
    cases own
    · go_wp2_with fail
      go_meet
      exact ⟨a1, a2, a3, rfl, rfl, rfl, rfl⟩
    · go_wp2_with fail
      refine (within_any a2 1 20 _ (by decide) (by decide) (by decide)).mono ?_
      rintro e w' ⟨⟨sl, s0, s1, rfl⟩, he⟩; obtain rfl := he.symm; clear he
      go_wp2_with fail
      refine (within_any a1 sl (6 * sl) _ (by omega) (by omega) (by omega)).mono ?_
      rintro e w' ⟨⟨n, n0, n1, rfl⟩, he⟩; obtain rfl := he.symm; clear he
      go_wp2_with fail
      refine (within_any a3 1 4 _ (by decide) (by decide) (by decide)).mono ?_
      rintro e w' ⟨⟨kn, k0, k1, rfl⟩, he⟩; obtain rfl := he.symm; clear he
      go_wp2_with fail
      go_meet
      exact ⟨n, sl, kn, rfl, rfl, rfl, rfl⟩
  case rest =>
    obtain ⟨n, sl, kn, rfl, rfl, rfl, he⟩ := hcut
    obtain rfl := he.symm
    clear he
    go_wp2_with fail
    refine (pnew_is n sl kn _).mono ?_
    rintro e w1 ⟨rfl, hP, b1⟩
    have hP' : Hid (Pan w1 w.heap.size w.heap.size n sl kn []) := hP
    have hB1 : Hid (Below w.heap.size w w1) := b1
    clear hP b1
    go_upto_region 6 with fail
    obtain ⟨g0, hg0⟩ : ∃ g0, Hid (w.heap.size = g0) := ⟨_, rfl⟩
    have hPP1 : Hid (PP w (w1.alloc (.cells #[.int .i64 n, .int .i64 sl, .int .i64 kn, .slice none 0 0] 28)) g0 w.heap.size w.heap.size w1.heap.size n sl kn [] [] (.slice none 0 0)) := by
      obtain ⟨o1, ho1, hP1, hot⟩ := hP'.out.pot
      have ho : o1 = w.heap.size := by rcases ho1 with h | h <;> exact h
      subst ho
      have hs := hB1.out.size
      refine ⟨hP1.below (below_alloc _ _), hot.keep ((below_alloc w1 _).block _ hot.lt), qb_new _ _ _ _ _, World.ownsRow_nil _ _ _ _, ?_, ?_⟩
      · rw [← hg0.out]; exact hB1.out.alloc hs _
      · rw [← hg0.out]; exact ⟨Nat.le_refl _, Nat.le_refl _, hs⟩
    refine world_gen (fun W => Hid (PP w W g0 w.heap.size w.heap.size w1.heap.size n sl kn [] [] (.slice none 0 0))) hPP1 ?_
    clear hP' hB1 hPP1
    generalize hgq : w1.heap.size = gq
    rw [hg0.out]
    clear hgq
    rintro W hPP
    go_wp2_with fail
    go_loopw [11, 13] (fun pv iv wr => ∃ (i b o : Nat) (L : List Pn) (x : Value), i ≤ ll ∧ i ≤ 20 ∧ iv = .int .i64 i ∧ pv = .pointer (some ⟨b, 0, none⟩) ∧ Hid (PP w wr g0 b o gq n sl kn L L x) ∧ L.length ≤ 48 * i ∧ Hid (Cq L (6 * i))) (fun _ iv _ => 20 - (intOf iv).toNat)
    case atStart => exact ⟨0, g0, g0, [], _, by omega, by omega, rfl, rfl, hPP, by simp, cq_nil _⟩
    case round =>
      obtain ⟨i, b, o, L, x, hil, hi20, rfl, rfl, hPP, hLl, hC⟩ := hrel
      have hways : (i < ll ∧ i < 20) ∨ (¬ i < ll ∨ i < ll ∧ ¬ i < 20) := by omega
      rcases hways with ⟨hlt, hlt2⟩ | hout
      · have hIs := hA'.out
        obtain ⟨_, _, _, hat⟩ := hIs
        obtain ⟨ab, aoff, kd, nn, a', l', c', es0, rfl, hab, d0, d1, d2, hrow⟩ := hat i hlt
        have hbw := hPP.out.B
        have hab' : ab < g0 := by rw [← hg0.out]; exact hab
        replace d0 := (hbw.cell (p := ⟨ab, aoff + i * 3, none⟩) hab').trans d0
        replace d1 := (hbw.cell (p := ⟨ab, aoff + i * 3 + 1, none⟩) hab').trans d1
        replace d2 := (hbw.cell (p := ⟨ab, aoff + i * 3 + 2, none⟩) hab').trans d2
        have hr0 : Hid (IsRowE wr a' l' c' es0) := hrow.below (by rw [hg0.out]; exact hbw)
        have hab2 : Hid (ab < g0) := hab'
        clear hat hab hab' hbw hrow
        go_upto_region 12 with fail
        have hPP2 := hPP.out.call (below_alloc wr (.cells #[.int .i64 kd, .int .i64 nn, .slice a' l' c'] 31))
        have hr2 := hr0.out.below (below_alloc wr (.cells #[.int .i64 kd, .int .i64 nn, .slice a' l' c'] 31))
        refine world_gen (fun X => Hid (PP w X g0 b o gq n sl kn L L x) ∧ Hid (Akk X wr.heap.size kd nn (.slice a' l' c')) ∧ Hid (IsRowE X a' l' c' es0)) ⟨hPP2, akk_new _ _ _ _, hr2⟩ ?_
        clear hPP2 hr2 hPP hr0 d0 d1 d2
        generalize wr.heap.size = ga
        rintro X ⟨hPP, hAk, hrw⟩
        obtain ⟨e0, e1, e2⟩ := hAk.out.c
        go_upto_block 2 with fail
        clear e0 e1 e2
        go_cut [11] (fun pv wx => ∃ (b o : Nat) (L : List Pn) (x : Value), pv = .pointer (some ⟨b, 0, none⟩) ∧ Hid (PP w wx g0 b o gq n sl kn L L x) ∧ L.length ≤ 48 * (i + 1) ∧ Hid (Cq L (6 * ((i + 1 : Nat) : Int))))
        case first =>
          have hkd : kd = 1 ∨ kd = 2 ∨ kd = 3 ∨ (¬ kd = 1 ∧ ¬ kd = 2 ∧ ¬ kd = 3) := by omega
          rcases hkd with rfl | rfl | rfl | ⟨k1, k2, k3⟩
          ·
            obtain ⟨i0, hi, hz0, hz1, hz2⟩ := info_parts Try.info35
            have hown0 : (X.alloc (.cells #[] 35)).ownsRow X.heap.size 35 4 (.slice (some ⟨X.heap.size, 0, none⟩) 0 0) 0 [] :=
              World.ownsRow_lit X #[] 0 (Nat.le_refl _) (by unfold maxLen; omega) (by simp)
            obtain ⟨k, hkB, hkl, hmin⟩ : ∃ k : Nat, k ≤ 6 ∧ k ≤ l' ∧ ((l' ≤ 6 ∧ k = l') ∨ (6 < l' ∧ k = 6)) := by
              by_cases h : l' ≤ 6
              · exact ⟨l', h, Nat.le_refl _, .inl ⟨h, rfl⟩⟩
              · exact ⟨6, Nat.le_refl _, by omega, .inr ⟨by omega, rfl⟩⟩
            have hsrc : Hid (SrcN 4 (X.alloc (.cells #[] 35)) (.slice a' k c') k (evs (es0.take k))) := (src_rowE hrw.out k hkl).below (below_alloc X _)
            have hzl : Hid ((es0.take k).length = k ∧ ∀ e ∈ es0.take k, e.l < 18446744073709551616) := by
              have h : (es0.take k).length = k ∧ ∀ e ∈ es0.take k, e.l < 18446744073709551616 := by
                rcases hrw.out with ⟨_, h2, _, rfl⟩ | ⟨y, _, h1, _, h3, _, h4⟩
                · exact ⟨by simp; omega, by simp⟩
                · exact ⟨by rw [List.length_take]; omega, fun e he => h4 e (List.mem_of_mem_take he)⟩
              exact h
            obtain ⟨ns, hns⟩ : ∃ ns, Hid (es0.take k = ns) := ⟨_, rfl⟩
            rw [hns.out] at hsrc hzl
            obtain ⟨e0, e1, e2⟩ := hAk.out.c
            clear hns
            go_upto_region 14 with fail
            go_cut [15] (fun v wx => ∃ es : List Ev, es.length ≤ 6 ∧ Hid (∀ e ∈ es, e.l < 18446744073709551616) ∧ Hid (wx.ownsRow X.heap.size 35 4 v es.length (evs es)) ∧ Hid (Below X.heap.size X wx) ∧ X.heap.size < wx.heap.size)
            case first =>
              have e2' : (X.alloc (.cells #[] 35)).cell? ⟨ga, 2, none⟩ = some (.slice a' l' c') := ((below_alloc X _).cell (p := ⟨ga, 2, none⟩) hAk.out.lt).trans e2
              rcases hrw.out with ⟨rfl, rfl, rfl, _⟩ | ⟨ad, rfl, hlc, hcm, _, _, _⟩
              · have hK0 : k = 0 := by omega
                subst hK0
                go_wp2_with (at_builtin; refine wpList_append_srcN _ (by rfl) _ _ 29 rfl 4 X.heap.size 35 i0 ezeroV 32 Try.underlying29 hi hz0 hz1 hz2 rfl (by decide) _ 0 [] rfl hown0 _ 0 (evs ns) rfl hsrc.out (evs_one _) (by unfold maxLen; omega) (by omega) (by simp) ?_)
                intro v' w2 hown' hb2
                go_wp2_with fail
                go_meet
                refine ⟨ns, by rw [hzl.out.1]; omega, hzl.out.2, ?_, (below_alloc X _).trans hb2, by have h := hb2.size; rw [size_allocQ] at h; omega⟩
                show w2.ownsRow X.heap.size 35 4 v' ns.length (evs ns)
                rw [hzl.out.1]; simpa using hown'
              · unfold maxLen at hcm
                rcases hmin with ⟨hle, rfl⟩ | ⟨hle, rfl⟩
                all_goals
                  go_wp2_with (at_builtin; refine wpList_append_srcN _ (by rfl) _ _ 29 rfl 4 X.heap.size 35 i0 ezeroV 32 Try.underlying29 hi hz0 hz1 hz2 rfl (by decide) _ 0 [] rfl hown0 _ _ (evs ns) rfl hsrc.out (evs_one _) (by unfold maxLen; omega) (by omega) (by simp) ?_)
                  intro v' w2 hown' hb2
                  go_wp2_with fail
                  go_meet
                  refine ⟨ns, by rw [hzl.out.1]; exact hkB, hzl.out.2, ?_, (below_alloc X _).trans hb2, by have h := hb2.size; rw [size_allocQ] at h; omega⟩
                  show w2.ownsRow X.heap.size 35 4 v' ns.length (evs ns)
                  rw [hzl.out.1]; simpa using hown'
            case rest =>
              obtain ⟨es, hm6, hlab, hown, hbX, hzX⟩ := hcut
              obtain ⟨W2, hW2⟩ : ∃ Y, Y = wc := ⟨_, rfl⟩
              subst hW2
              have hPP2 : Hid (PP w W2 g0 b o gq n sl kn L L x) := hPP.out.call hbX.out
              obtain ⟨s0, s1, s2, s3⟩ := hPP.out.size
              clear hown0 hsrc hzl hmin hkB hkl hi hz0 hz1 hz2 hPP hAk hrw e0 e1 e2 hbX
              obtain ⟨qe, hre, hqe⟩ := rde_own hown.out hlab.out hzX
              obtain ⟨m, hm⟩ : ∃ m, Hid (es.length = m) := ⟨_, rfl⟩
              obtain ⟨ea, ec, rfl⟩ := own_lenp hown.out
              have hec := own_cap hown.out
              have hre2 : Hid (RdE W2 (.slice ea es.length ec) qe es) := hre
              rw [hm.out] at hre2 hm6 hec ⊢
              clear hre hown
              go_wp2_with fail
              refine (roomy_e _ qe es ⟨0, 9, 0, 0⟩ _ hre2.out (by have := hm.out; omega)).mono ?_
              rintro e W3 ⟨fv, rfl, hf, b3⟩
              have hfl : Hid ((es ++ List.replicate 80 (⟨0, 9, 0, 0⟩ : Ev)).length = m + 80) := by
                have h : (es ++ List.replicate 80 (⟨0, 9, 0, 0⟩ : Ev)).length = m + 80 := by rw [List.length_append, hm.out, List.length_replicate]
                exact h
              have hflab : Hid (∀ e ∈ es ++ List.replicate 80 (⟨0, 9, 0, 0⟩ : Ev), e.l < 18446744073709551616) := fun e he => by
                rcases List.mem_append.1 he with h | h
                · exact hlab.out e h
                · rw [(List.mem_replicate.1 h).2]; decide
              obtain ⟨qf, hrf, hqf⟩ := rde_own hf hflab.out (own_ltN hf (by rw [hfl.out]; omega))
              rw [hfl.out] at hf
              obtain ⟨gf, cf, rfl, hf1, hf2, hf3, hf4⟩ := own_someN hf (by omega)
              unfold maxLen at hf2
              have hrf3 : Hid (RdE W3 (.slice (some ⟨gf, 0, none⟩) (m + 80) cf) qf (es ++ List.replicate 80 (⟨0, 9, 0, 0⟩ : Ev))) := hrf
              have hpre : Hid (RdE W3 (.slice (some ⟨gf, 0, none⟩) m cf) qf es) := by
                have h := hrf3.out.take m (by rw [hfl.out]; omega)
                rw [List.take_left' hm.out] at h
                exact h
              have hPP3 : Hid (PP w W3 g0 b o gq n sl kn L L x) := hPP2.out.call b3
              have hre3 : Hid (RdE W3 (.slice ea m ec) qe es) := hre2.out.below b3
              have hqf2 : W2.heap.size ≤ qf := hqf
              have hmcf : m ≤ cf := by omega
              clear hPP2 hre2 hf hrf hqf b3 hf1 hf3 hf4
              go_wp2_with fail
              refine (put_is b o n sl kn L _ qf es _ hPP3.out.P hpre.out (by omega) (by omega) (by have := hm.out; omega)).mono ?_
              rintro e W4 ⟨o2, rfl, hP4, ho2, hc4⟩
              obtain ⟨o1, hPP4, ho1⟩ := hPP3.out.put hP4 hc4 ho2
              have hPP4' : Hid (PP w W4 g0 b o1 gq n sl kn (putL n sl kn L es) L x) := hPP4
              have hre4 : Hid (RdE W4 (.slice ea m ec) qe es) := hre3.out.ch hc4 (by omega) (by omega)
              have hrf4 : Hid (RdE W4 (.slice (some ⟨gf, 0, none⟩) (m + 80) cf) qf (es ++ List.replicate 80 (⟨0, 9, 0, 0⟩ : Ev))) := hrf3.out.ch hc4 (by omega) (by omega)
              have hPPk := hPP3.out.P.okl
              have hqn0 : qe ≠ gq ∧ qf ≠ gq := by omega
              clear hPP3 hPP4 hP4 ho2 hc4 ho1 hpre hre3 hrf3 hqf2 hqe s0 s1 s2 s3 hzX
              have hPPok : Hid (Okl n sl L) := hPPk
              have hqn : Hid (qe ≠ gq ∧ qf ≠ gq) := hqn0
              clear hPPk hqn0
              obtain ⟨La, hLa⟩ : ∃ La, Hid (putL n sl kn L es = La) := ⟨_, rfl⟩
              rw [hLa.out] at hPP4'
              have hbound : Hid (La.length ≤ 48 * (i + 1) ∧ Cq La (6 * ((i + 1 : Nat) : Int))) := by
                have h1 := putL_len n sl kn es L
                rw [hLa.out, hm.out] at h1
                have h2 := cq_putL (n := n) (sl := sl) (K := kn) es L (6 * (i : Int)) hPPok.out.1 hC.out (by omega) (by have := hm.out; omega)
                rw [hLa.out] at h2
                refine ⟨by omega, h2.mono (by have := hm.out; omega)⟩
              have hall : Hid (∀ j : Nat, j ≤ m → (putL n sl kn L (es.take j)).length ≤ 100000 ∧ ∀ p ∈ putL n sl kn L (es.take j), 0 ≤ p.c ∧ p.c ≤ 900 ∧ p.l < 18446744073709551616) := fun j hj => by
                have hl : (es.take j).length = j := by rw [List.length_take, hm.out]; omega
                have h1 := putL_len n sl kn (es.take j) L
                have h2 := cq_putL (n := n) (sl := sl) (K := kn) (es.take j) L (6 * (i : Int)) hPPok.out.1 hC.out (by omega) (by omega)
                have h3 := okl_putL (K := kn) (es.take j) L hPPok.out (fun e he => hlab.out e (List.mem_of_mem_take he))
                rw [hl] at h1 h2
                refine ⟨by omega, fun p hp => ?_⟩
                obtain ⟨c0, c1⟩ := h2 p hp
                exact ⟨c0, by omega, (h3.2 p hp).1.2.2⟩
              clear hPPok
              go_wp2_with fail
              go_loopw [83] (fun iv wr => ∃ (j : Nat) (Ld : List Pn) (y : Value), j ≤ m ∧ iv = .int .i64 j ∧ Hid (putL n sl kn L (es.take j) = Ld) ∧ Hid (PP w wr g0 b o1 gq n sl kn La Ld y) ∧ Hid (RdE wr (.slice ea m ec) qe es) ∧ Hid (RdE wr (.slice (some ⟨gf, 0, none⟩) (m + 80) cf) qf (es ++ List.replicate 80 (⟨0, 9, 0, 0⟩ : Ev)))) (fun iv _ => m - (intOf iv).toNat)
              case atStart => exact ⟨0, L, x, by omega, rfl, rfl, hPP4', hre4, hrf4⟩
              case round =>
                obtain ⟨j, Ld, y, hj, rfl, hLd, hPPj, hrej, hrfj⟩ := hrel
                clear hPP4' hre4 hrf4
                by_cases hlt : j < m
                · obtain ⟨_, _, _, _, hea, _, _, hcell⟩ := hrej.out
                  injection hea with h1 h2 h3
                  subst h1 h3
                  obtain ⟨off, rfl, hqlt, hrow⟩ := hcell (by have := hm.out; omega)
                  obtain ⟨d0, d1, d2, d3⟩ := hrow j (by have := hm.out; omega)
                  have hyl : Hid ((eAt es j).l < 18446744073709551616) := hlab.out _ (eAt_mem es j (by have := hm.out; omega))
                  have hstep : Hid (putL n sl kn L (es.take (j + 1)) = putE n sl kn Ld (eAt es j)) := by
                    have h : putL n sl kn L (es.take (j + 1)) = putE n sl kn Ld (eAt es j) := by rw [take_ev es j (by have := hm.out; omega), putL_snoc, hLd.out]
                    exact h
                  obtain ⟨hll, hcn⟩ := hall.out j (by omega)
                  rw [hLd.out] at hll hcn
                  have hcn' : Hid (∀ p ∈ Ld, 0 ≤ p.c ∧ p.c ≤ 900 ∧ p.l < 18446744073709551616) := hcn
                  obtain ⟨⟨et, ek, ex, el⟩, hee⟩ : ∃ e, Hid (eAt es j = e) := ⟨_, rfl⟩
                  rw [hee.out] at d0 d1 d2 d3 hyl hstep
                  simp only at d0 d1 d2 d3 hyl
                  clear hcell hrow h2 hqlt hee hcn hLd
                  go_upto_region 20 with fail
                  refine world_gen (fun Z => Hid (EvkE Z wr.heap.size ⟨et, ek, ex, el⟩) ∧ Hid (PP w Z g0 b o1 gq n sl kn La Ld y) ∧ Hid (RdE Z (.slice (some ⟨qe, off, none⟩) m ec) qe es) ∧ Hid (RdE Z (.slice (some ⟨gf, 0, none⟩) (m + 80) cf) qf (es ++ List.replicate 80 (⟨0, 9, 0, 0⟩ : Ev)))) ⟨evkE_new wr ⟨et, ek, ex, el⟩, hPPj.out.call (below_alloc _ _), hrej.out.below (below_alloc _ _), hrfj.out.below (below_alloc _ _)⟩ ?_
                  clear hPPj hrej hrfj d0 d1 d2 d3
                  generalize wr.heap.size = gv
                  rintro Z ⟨hEz, hPPz, hrez, hrfz⟩
                  obtain ⟨c0, c1, c2, c3⟩ := hEz.out.c
                  simp only [Nat.zero_add] at c0 c1 c2 c3
                  obtain ⟨ya, yc, rfl⟩ := own_lenp hPPz.out.xo
                  obtain ⟨M, hM⟩ : ∃ M, Hid (Ld.length = M) := ⟨_, rfl⟩
                  rw [hM.out] at hPPz
                  have hxo := hPPz.out.xo
                  obtain ⟨q0, q1, q2, q3⟩ := hPPz.out.Q.c
                  have hsz := hPPz.out.size.1
                  have hxo' : Hid (Z.ownsRow g0 105 5 (.slice ya M yc) Ld.length (qcs Ld)) := hxo
                  clear hxo
                  go_wp2_with fail
                  refine (rput_is n sl kn (.slice ya M yc) Ld et ek ex el g0 _ hxo'.out hsz hll hcn'.out hyl.out).mono ?_
                  rintro r w5 ⟨u, rfl, hu, b5⟩
                  rw [← hstep.out] at hu
                  obtain ⟨Le, hLe⟩ : ∃ Le, Hid (putL n sl kn L (es.take (j + 1)) = Le) := ⟨_, rfl⟩
                  rw [hLe.out] at hu
                  obtain ⟨ua, uc, rfl⟩ := own_lenp hu
                  obtain ⟨N, hN⟩ : ∃ N, Hid (Le.length = N) := ⟨_, rfl⟩
                  have hu5 : Hid (w5.ownsRow g0 105 5 (.slice ua N uc) Le.length (qcs Le)) := by
                    have h := hu
                    rw [hN.out] at h ⊢
                    exact h
                  rw [hN.out]
                  have hPP5 : Hid (PP w w5 g0 b o1 gq n sl kn La Ld (.slice ya M yc)) := hPPz.out.call b5
                  have hre5 : Hid (RdE w5 (.slice (some ⟨qe, off, none⟩) m ec) qe es) := hrez.out.below b5
                  have hrf5 : Hid (RdE w5 (.slice (some ⟨gf, 0, none⟩) (m + 80) cf) qf (es ++ List.replicate 80 (⟨0, 9, 0, 0⟩ : Ev))) := hrfz.out.below b5
                  clear hPPz hrez hrfz hu b5 q0 q1 q2 q3 c0 c1 c2 c3 hEz hxo' hsz hstep
                  have hQ := hPP5.out.Q
                  obtain ⟨q0, q1, q2, q3⟩ := hQ.c
                  have f0 := hQ.free 0
                  have f1 := hQ.free 1
                  have f2 := hQ.free 2
                  have f3 := hQ.free 3
                  have hgqe : qe ≠ gq := hqn.out.1
                  have hgqf : qf ≠ gq := hqn.out.2
                  have hall5 : Hid (PP w ((((w5.setCell ⟨gq, 0, none⟩ (.int .i64 n)).setCell ⟨gq, 1, none⟩ (.int .i64 sl)).setCell ⟨gq, 2, none⟩ (.int .i64 kn)).setCell ⟨gq, 3, none⟩ (.slice ua N uc)) g0 b o1 gq n sl kn La Le (.slice ua N uc)) := hPP5.out.own hu5.out hQ.set (fun j hj => set4_other hj) set4_size (fun B hB => set4_below hB)
                  have hre6 : Hid (RdE ((((w5.setCell ⟨gq, 0, none⟩ (.int .i64 n)).setCell ⟨gq, 1, none⟩ (.int .i64 sl)).setCell ⟨gq, 2, none⟩ (.int .i64 kn)).setCell ⟨gq, 3, none⟩ (.slice ua N uc)) (.slice (some ⟨qe, off, none⟩) m ec) qe es) := hre5.out.keep (Nat.le_of_eq set4_size.symm) (fun _ => set4_other hgqe)
                  have hrf6 : Hid (RdE ((((w5.setCell ⟨gq, 0, none⟩ (.int .i64 n)).setCell ⟨gq, 1, none⟩ (.int .i64 sl)).setCell ⟨gq, 2, none⟩ (.int .i64 kn)).setCell ⟨gq, 3, none⟩ (.slice ua N uc)) (.slice (some ⟨gf, 0, none⟩) (m + 80) cf) qf (es ++ List.replicate 80 (⟨0, 9, 0, 0⟩ : Ev))) := hrf5.out.keep (Nat.le_of_eq set4_size.symm) (fun _ => set4_other hgqf)
                  clear hQ hPP5 hre5 hrf5 hu5 hgqe hgqf
                  go_wp2_with fail
                  go_roundw
                  case rel => exact ⟨j + 1, Le, _, by omega, by go_num, hLe, hall5, hre6, hrf6⟩
                  case measure => simp [intOf]; omega
                · obtain rfl : j = m := by omega
                  have hLL : Hid (Ld = La) := by
                    have h : Ld = La := by
                      have h2 := hLd.out
                      rw [List.take_of_length_le (by have := hm.out; omega), hLa.out] at h2
                      exact h2.symm
                    exact h
                  rw [hLL.out] at hPPj
                  clear hLd hLL hlt
                  go_wp2_with fail
                  refine (intact_e _ _ qf qe es ⟨0, 9, 0, 0⟩ _ hrfj.out hrej.out (by have := hm.out; omega)).mono ?_
                  rintro e w6 ⟨rfl, b6⟩
                  have hPP6 : Hid (PP w w6 g0 b o1 gq n sl kn La La y) := hPPj.out.call b6
                  clear hPPj hrej hrfj b6
                  go_wp2_with fail
                  go_meet
                  exact ⟨b, o1, La, y, rfl, hPP6, hbound.out.1, hbound.out.2⟩
          ·
            obtain ⟨e0, e1, e2⟩ := hAk.out.c
            go_wp2_with fail
            refine (close_is b o n sl kn nn L (endN n nn L) _ hPP.out.P rfl (by omega)).mono ?_
            rintro e w2 ⟨u, rfl, hu, hP2, hc2⟩
            obtain ⟨o1, hPP2, ho1⟩ := hPP.out.put hP2 hc2 (.inl rfl)
            obtain ⟨ua, uc, rfl⟩ := own_lenp hu
            have hok := hPP.out.P.okl
            have hef := ends_first (n := n) (m := nn) hok.1
            have hsz2 := hc2.size
            have htl : Hid ((L.take (endN n nn L)).length = endN n nn L) := by
              have h : (L.take (endN n nn L)).length = endN n nn L := by rw [List.length_take]; have := endN_le n nn L; omega
              exact h
            have hrows : Hid (w2.ownsRow X.heap.size 45 5 (.slice ua (endN n nn L) uc) (L.take (endN n nn L)).length (rcs (L.take (endN n nn L)))) := by
              have h : w2.ownsRow X.heap.size 45 5 (.slice ua (endN n nn L) uc) (L.take (endN n nn L)).length (rcs (L.take (endN n nn L))) := by rw [htl.out]; exact hu
              exact h
            have hAk2 : Hid (Akk w2 ga 2 nn (.slice a' l' c')) := by
              have hk := hAk.out
              have h1 := hPP.out.ot.ne hk (by decide) (by decide)
              obtain ⟨cs, hcs⟩ := hPP.out.P.at
              have h2 := cells_type hk hcs (by decide)
              exact (hc2.other ga hk.lt h2 h1).trans hk
            have hbd : Hid (∀ p ∈ L, -1099511627776 ≤ p.s ∧ p.s ≤ 1099511627776 ∧ -1099511627776 ≤ n ∧ n ≤ 1099511627776) := fun p hp => by
              obtain ⟨⟨h1, h2, _⟩, h3⟩ := hok.2 p hp
              obtain ⟨h4, h5, h6⟩ := right_of h3
              exact ⟨by omega, by omega, by omega, by omega⟩
            have hdn : Hid (done n nn L = L.take (endN n nn L)) := hef.1
            have hst : Hid (stay n nn L = L.drop (endN n nn L)) := hef.2
            have hPPx : Hid (PP w w2 g0 b o1 gq n sl kn (L.drop (endN n nn L)) L x) := hPP2
            clear hPP2 ho1 hu hP2 hc2 hok hef hsz2 hAk hrw hPP e0 e1 e2
            obtain ⟨e0, e1, e2⟩ := hAk2.out.c
            obtain ⟨xa, xc, rfl⟩ := own_lenp hPPx.out.xo
            obtain ⟨q0, q1, q2, q3⟩ := hPPx.out.Q.c
            obtain ⟨m, hm⟩ : ∃ m, Hid (L.length = m) := ⟨_, rfl⟩
            have hrq : Hid (RdQ w2 (.slice xa m xc) L) := by rw [← hm.out]; exact rdq_own hPPx.out.xo
            rw [hm.out] at hPPx hLl q3
            obtain ⟨N, hN⟩ : ∃ N, Hid (endN n nn L = N) := ⟨_, rfl⟩
            rw [hN.out] at hrows hdn hst htl hPPx ⊢
            go_wp2_with fail
            refine (rclose_is n sl kn nn (.slice xa m xc) L _ hrq.out (by have := hm.out; omega) hbd.out).mono ?_
            rintro e w3 ⟨v, y, rfl, hv, hy, b3⟩
            rw [hst.out] at hv
            rw [hdn.out] at hy
            obtain ⟨va, vc, rfl⟩ := own_lenp hv
            obtain ⟨M, hM⟩ : ∃ M, Hid ((L.drop N).length = M) := ⟨_, rfl⟩
            rw [hM.out] at hv ⊢
            obtain ⟨ya, yc, rfl⟩ := own_lenp hy
            have hPP3 : Hid (PP w w3 g0 b o1 gq n sl kn (L.drop N) L (.slice xa m xc)) := hPPx.out.call b3
            have hz3 := hPPx.out.size.1
            have hv3 : Hid (w3.ownsRow g0 105 5 (.slice va M vc) M (qcs (L.drop N))) := own_base hv hz3
            have hy3 : Hid (RdR w3 (.slice ya (L.take N).length yc) (L.take N)) := rdr_own hy
            have hr3 : Hid (RdR w3 (.slice ua N uc) (L.take N)) := (rdr_own hrows.out).below b3
            clear hPPx hrows hrq hv hy b3 hbd hdn hst e0 e1 e2 q0 q1 q2 q3 hz3
            rw [htl.out] at hy3 ⊢
            clear htl
            go_upto_region 27 with fail
            refine world_gen (fun Z => Hid (PP w Z g0 b o1 gq n sl kn (L.drop N) L (.slice xa m xc)) ∧ Hid (Z.ownsRow g0 105 5 (.slice va M vc) M (qcs (L.drop N))) ∧ Hid (RdR Z (.slice ya N yc) (L.take N)) ∧ Hid (RdR Z (.slice ua N uc) (L.take N)) ∧ Hid (Qb Z w3.heap.size n sl kn (.slice va M vc))) ⟨hPP3.out.call (below_alloc _ _), own_below hv3.out (below_alloc _ _), hy3.out.below (below_alloc _ _), hr3.out.below (below_alloc _ _), qb_new _ _ _ _ _⟩ ?_
            have hgw : gq ≠ w3.heap.size := by have := hPP3.out.size.2.2.2; omega
            clear hPP3 hv3 hy3 hr3
            generalize w3.heap.size = gx at hgw ⊢
            rintro Z ⟨hPPz, hvz, hyz, hrz, hqz⟩
            go_wp2_with fail
            refine (same_r (.slice ua N uc) (.slice ya N yc) (L.take N) _ hrz.out hyz.out).mono ?_
            rintro e w4 ⟨rfl, b4⟩
            have hPP4 : Hid (PP w w4 g0 b o1 gq n sl kn (L.drop N) L (.slice xa m xc)) := hPPz.out.call b4
            have hv4 : Hid (w4.ownsRow g0 105 5 (.slice va M vc) M (qcs (L.drop N))) := own_below hvz.out b4
            have hq4 : Hid (Qb w4 gx n sl kn (.slice va M vc)) := hqz.out.keep (b4.block gx hqz.out.lt)
            clear hPPz hvz hyz hrz hqz b4
            obtain ⟨p0, p1, p2, p3⟩ := hq4.out.c
            have hQ := hPP4.out.Q
            obtain ⟨q0, q1, q2, q3⟩ := hQ.c
            have f0 := hQ.free 0
            have f1 := hQ.free 1
            have f2 := hQ.free 2
            have f3 := hQ.free 3
            have hdl : Hid ((L.drop N).length ≤ m) := by
              have h : (L.drop N).length ≤ m := by rw [List.length_drop, hm.out]; omega
              exact h
            have hall : Hid (PP w ((((w4.setCell ⟨gq, 0, none⟩ (.int .i64 n)).setCell ⟨gq, 1, none⟩ (.int .i64 sl)).setCell ⟨gq, 2, none⟩ (.int .i64 kn)).setCell ⟨gq, 3, none⟩ (.slice va M vc)) g0 b o1 gq n sl kn (L.drop N) (L.drop N) (.slice va M vc)) := by
              have hv5 := hv4.out
              have h := hPP4.out.own (Ld' := L.drop N) (x' := .slice va M vc) (by rw [hM.out]; exact hv5) hQ.set (fun j hj => set4_other hj) (set4_size) (fun B hB => set4_below hB)
              exact h
            clear hQ hPP4 hv4 hq4
            go_wp2_with fail
            go_meet
            exact ⟨b, o1, L.drop N, .slice va M vc, rfl, hall, by have := hdl.out; omega, (cq_drop hC.out N).mono (by omega)⟩
          ·
            clear hAk hrw
            obtain ⟨s0, s1, s2, s3⟩ := hPP.out.size
            go_wp2_with fail
            refine (copy_is b o n sl kn L _ hPP.out.P (by omega)).mono ?_
            rintro e w2 ⟨o1, rfl, hP1, ho1, b2⟩
            have hPPx : Hid (PP w X g0 b o gq n sl kn L L x) := hPP
            have hT : Hid (Pan w2 X.heap.size o1 n sl kn L) := hP1
            have hb2 : Hid (Below X.heap.size X w2) := b2
            have ho1' : Hid (X.heap.size ≤ o1) := ho1
            have hP2 : Hid (Pan w2 b o n sl kn L) := hPP.out.P.below b2
            have hz2 : X.heap.size ≤ w2.heap.size := b2.size
            obtain ⟨S, hS⟩ : ∃ S, Hid (X.heap.size = S) := ⟨_, rfl⟩
            rw [hS.out] at hT ho1' s1 s2 s3 hz2 ⊢
            clear hPP hP1 ho1 b2 s0
            go_wp2_with fail
            have hE : RdE (w2.alloc (.cells (evs [⟨1, 0, 0, 1⟩]).toArray 35)) (.slice (some ⟨w2.heap.size, 0, none⟩) 1 1) w2.heap.size [⟨1, 0, 0, 1⟩] := rde_lit w2 [⟨1, 0, 0, 1⟩] (by simp) (by simp)
            refine (put_is b o n sl kn L _ w2.heap.size [⟨1, 0, 0, 1⟩] _ (hP2.out.below (below_alloc _ _)) hE (by omega) (by omega) (by simp; omega)).mono ?_
            rintro e w3 ⟨o2, rfl, hP3, ho2, hc3⟩
            have hc3' : Hid (Ch b o w2 w3) := ((Ch.refl b o w2).alloc _).trans hc3 (.inl rfl)
            have ho2' : Hid (o2 = o ∨ w2.heap.size ≤ o2) := by
              have h : o2 = o ∨ w2.heap.size ≤ o2 := by
                rcases ho2 with h | h
                · exact .inl h
                · rw [size_allocQ] at h; exact .inr (by omega)
              exact h
            obtain ⟨L3, hL3⟩ : ∃ L3, Hid (putL n sl kn L [⟨1, 0, 0, 1⟩] = L3) := ⟨_, rfl⟩
            have hL3l : Hid (L3.length ≤ 1000000) := by
              have h := putL_len n sl kn [⟨1, 0, 0, 1⟩] L
              rw [hL3.out] at h
              have h2 : L3.length ≤ L.length + 8 := by simpa using h
              exact (by omega : L3.length ≤ 1000000)
            rw [hL3.out] at hP3
            have hP3' : Hid (Pan w3 b o2 n sl kn L3) := hP3
            clear hP3 hc3 ho2 hE hP2
            go_wp2_with fail
            refine (close_is b o2 n sl kn 2199023255552 L3 _ _ hP3'.out rfl hL3l.out).mono ?_
            rintro e w4 ⟨u, rfl, _, _, hc4⟩
            have hc : Ch b o w2 w4 := hc3'.out.trans hc4 ho2'.out
            obtain ⟨o3, hPP4⟩ := hPPx.out.twin hT.out hb2.out (by rw [hS.out]; exact Nat.le_refl _) (by rw [hS.out]; exact ho1'.out) hc
            have hPP5 : Hid (PP w w4 g0 S o3 gq n sl kn L L x) := hPP4
            clear hPP4 hc hc4 hP3' hPPx hT hb2 hc3' ho2' ho1' hL3 hL3l
            go_wp2_with fail
            go_meet
            exact ⟨S, o3, L, x, rfl, hPP5, by omega, hC.out.mono (by omega)⟩
          · have k1' : (kd == 1) = false := by simpa using k1
            have k2' : (kd == 2) = false := by simpa using k2
            have k3' : (kd == 3) = false := by simpa using k3
            clear k1 k2 k3
            go_wp2_with fail
            go_meet
            exact ⟨b, o, L, x, rfl, hPP, by omega, hC.out.mono (by omega)⟩
        case rest =>
          obtain ⟨b, o, L, x, rfl, hPP, hLl, hC⟩ := hcut
          clear hAk hrw
          obtain ⟨m, hm⟩ : ∃ m, Hid (L.length = m) := ⟨_, rfl⟩
          obtain ⟨xa, xc, rfl⟩ := own_lenp hPP.out.xo
          rw [hm.out] at hPP hLl
          have hbd : Hid (∀ p ∈ L, -1099511627776 ≤ p.s ∧ p.s ≤ 1099511627776 ∧ -1099511627776 ≤ n ∧ n ≤ 1099511627776) := fun p hp => by
            obtain ⟨⟨h1, h2, _⟩, h3⟩ := hPP.out.P.okl.2 p hp
            obtain ⟨h4, h5, h6⟩ := right_of h3
            exact ⟨by omega, by omega, by omega, by omega⟩
          have hdn : Hid (done n 1125899906842624 L = L) := all_end fun p hp => by have := hbd.out p hp; omega
          have hrq : Hid (RdQ wc (.slice xa m xc) L) := by rw [← hm.out]; rw [← hm.out] at hPP; exact rdq_own hPP.out.xo
          obtain ⟨q0, q1, q2, q3⟩ := hPP.out.Q.c
          go_wp2_with fail
          refine (rclose_is n sl kn 1125899906842624 (.slice xa m xc) L _ hrq.out (by have := hm.out; omega) hbd.out).mono ?_
          rintro e w2 ⟨u, yv, rfl, hu, hy, b2⟩
          rw [hdn.out] at hy
          obtain ⟨ua, uc, rfl⟩ := own_lenp hu
          obtain ⟨ya, yc, rfl⟩ := own_lenp hy
          rw [hm.out] at hy ⊢
          have hPP2 : Hid (PP w w2 g0 b o gq n sl kn L L (.slice xa m xc)) := hPP.out.call b2
          have hy2 : Hid (RdR w2 (.slice ya m yc) L) := rdr_own (by rw [hm.out]; exact hy)
          clear hPP hrq hu hy b2 hdn hbd q0 q1 q2 q3
          go_upto_region 38 with fail
          refine world_gen (fun X => Hid (PP w X g0 b o gq n sl kn L L (.slice xa m xc)) ∧ Hid (RdR X (.slice ya m yc) L)) ⟨hPP2.out.call (below_alloc _ _), hy2.out.below (below_alloc _ _)⟩ ?_
          clear hPP2 hy2
          rintro V ⟨hPP4, hy4⟩
          go_cut [144] (fun t wx => t = .bool false ∧ Hid (Below V.heap.size V wx))
          case first =>
            refine wp_region_held_drew (S := fun X => Below V.heap.size V X) (by kernel_rfl) (Below.refl _ _).drew (fun hHeld => ?_)
            generalize V.drew = V0 at hHeld ⊢
            refine take_at (i := 0) (v := .pointer (some ⟨b, 0, none⟩)) rfl rfl (by kernel_rfl) (by kernel_rfl) (by kernel_rfl) (fun _ _ _ h => h) (Or.inl ⟨by rfl, fun X _ => by go_simp⟩) hHeld ?_
            try simp only [Act.put, List.setIfInBounds_toArray, List.set_cons_zero, List.set_cons_succ]
            refine take_at (i := 2) (v := .pointer (some ⟨gq, 3, none⟩)) rfl rfl (by kernel_rfl) (by kernel_rfl) (by kernel_rfl) (fun _ _ _ h => h) (Or.inl ⟨by rfl, fun X _ => by go_simp⟩) hHeld ?_
            try simp only [Act.put, List.setIfInBounds_toArray, List.set_cons_zero, List.set_cons_succ]
            refine take_at (i := 3) (v := .slice xa m xc) rfl rfl (by kernel_rfl) (by kernel_rfl) (by kernel_rfl) (fun _ _ _ h => h) (Or.inl ⟨by rfl, fun X hX => by have k3 := ((hPP4.out.call hX).Q.c).2.2.2; go_simp⟩) hHeld ?_
            try simp only [Act.put, List.setIfInBounds_toArray, List.set_cons_zero, List.set_cons_succ]
            refine take_at (i := 4) (v := .int .i64 (m : Int)) rfl rfl (by kernel_rfl) (by kernel_rfl) (by kernel_rfl) (fun _ _ _ h => h) (Or.inl ⟨by rfl, fun X _ => by go_simp⟩) hHeld ?_
            try simp only [Act.put, List.setIfInBounds_toArray, List.set_cons_zero, List.set_cons_succ]
            refine wpAnyH_ready (rs := [1]) (by kernel_rfl) (by simp) ?_
            refine AllReadyH.cons rfl (fun K hK => ?_) AllReadyH.nil
            rw [if_pos (by rfl)]
            go_wp2_with fail
            refine (len_pb b o n sl kn L m _ (hPP4.out.call hHeld).P hm.out).mono ?_
            rintro e Y1 ⟨rfl, hb⟩
            have hHb := below_call hHeld hb
            clear hHeld hb
            go_wp2_with fail
            refine hK.out _ _ (hHb) (fun hHeld => ?_)
            clear hK K hHb
            try simp only [Act.put, List.setIfInBounds_toArray, List.set_cons_zero, List.set_cons_succ]
            refine take_at (i := 5) (v := .bool false) rfl rfl (by kernel_rfl) (by kernel_rfl) (by kernel_rfl) (fun _ _ _ h => h) (Or.inl ⟨by rfl, fun X _ => by go_simp⟩) hHeld ?_
            try simp only [Act.put, List.setIfInBounds_toArray, List.set_cons_zero, List.set_cons_succ]
            refine take_at (i := 6) (v := .bool false) rfl rfl (by kernel_rfl) (by kernel_rfl) (by kernel_rfl) (fun _ _ _ h => h) (Or.inl ⟨by rfl, fun X _ => by go_simp⟩) hHeld ?_
            try simp only [Act.put, List.setIfInBounds_toArray, List.set_cons_zero, List.set_cons_succ]
            refine take_at (i := 7) (v := .pointer (some ⟨b, 0, none⟩)) rfl rfl (by kernel_rfl) (by kernel_rfl) (by kernel_rfl) (fun _ _ _ h => h) (Or.inl ⟨by rfl, fun X _ => by go_simp⟩) hHeld ?_
            try simp only [Act.put, List.setIfInBounds_toArray, List.set_cons_zero, List.set_cons_succ]
            refine take_at (i := 9) (v := .slice ya m yc) rfl rfl (by kernel_rfl) (by kernel_rfl) (by kernel_rfl) (fun _ _ _ h => h) (Or.inl ⟨by rfl, fun X _ => by go_simp⟩) hHeld ?_
            try simp only [Act.put, List.setIfInBounds_toArray, List.set_cons_zero, List.set_cons_succ]
            refine wpAnyH_ready (rs := [8]) (by kernel_rfl) (by simp) ?_
            refine AllReadyH.cons rfl (fun K hK => ?_) AllReadyH.nil
            rw [if_pos (by rfl)]
            go_wp2_with fail
            refine (open_is b o n sl kn L _ (hPP4.out.call hHeld).P (by have := hm.out; omega)).mono ?_
            rintro e Y2 ⟨ou, rfl, hop, hb⟩
            have hou : Hid (RdR Y2 ou L) := rdr_own hop
            clear hop
            have hHb := below_call hHeld hb
            clear hHeld hb
            go_wp2_with fail
            refine hK.out _ _ (hHb) (fun hHeld => ?_)
            clear hK K hHb
            try simp only [Act.put, List.setIfInBounds_toArray, List.set_cons_zero, List.set_cons_succ]
            refine wpAnyH_ready (rs := [10]) (by kernel_rfl) (by simp) ?_
            refine AllReadyH.cons rfl (fun K hK => ?_) AllReadyH.nil
            rw [if_pos (by rfl)]
            go_wp2_with fail
            refine (same_r ou (.slice ya m yc) L _ hou.out (hy4.out.below hHeld)).mono ?_
            rintro e Y3 ⟨rfl, hb⟩
            have hHb := below_call hHeld hb
            clear hHeld hb
            go_wp2_with fail
            refine hK.out _ _ (hHb) (fun hHeld => ?_)
            clear hK K hHb
            try simp only [Act.put, List.setIfInBounds_toArray, List.set_cons_zero, List.set_cons_succ]
            refine take_at (i := 11) (v := .bool false) rfl rfl (by kernel_rfl) (by kernel_rfl) (by kernel_rfl) (fun _ _ _ h => h) (Or.inl ⟨by rfl, fun X _ => by go_simp⟩) hHeld ?_
            try simp only [Act.put, List.setIfInBounds_toArray, List.set_cons_zero, List.set_cons_succ]
            refine take_at (i := 12) (v := .bool false) rfl rfl (by kernel_rfl) (by kernel_rfl) (by kernel_rfl) (fun _ _ _ h => h) (Or.inl ⟨by rfl, fun X _ => by go_simp⟩) hHeld ?_
            try simp only [Act.put, List.setIfInBounds_toArray, List.set_cons_zero, List.set_cons_succ]
            refine wpAnyH_done (by kernel_rfl) ?_ _
            go_wp2_with fail
            go_meet
            exact ⟨rfl, hHeld⟩
          case rest =>
            obtain ⟨rfl, hbW⟩ := hcut
            have hPPc : Hid _ := hPP4.out.call hbW.out
            clear hPP4 hy4 hbW
            go_wp2_with fail
            go_roundw
            case rel => exact ⟨i + 1, b, o, L, _, by omega, by omega, by go_num, rfl, hPPc, by rw [hm.out]; omega, hC⟩
            case measure => simp [intOf]; omega
      · have hPPr : Hid (Below w.heap.size w wr) := by rw [hg0.out]; exact hPP.out.B
        clear hPP hC
        rcases hout with h1 | ⟨h1, h2⟩
        all_goals
          go_wp2_with fail
          refine (pruns_is _).mono ?_
          rintro e w7 ⟨rfl, b7⟩
          have hf : Hid (Below w.heap.size w w7) := below_call hPPr.out b7
          clear b7
          go_wp2_with fail
          go_ret
          exact ⟨rfl, hf.out⟩
theorem panesPlays_walk (a0 a1 a2 : Int) (al : Option Addr) (ll lc : Nat) (own : Bool) (w : World) (_ : (Lit.int .i64 a0).wf = true) (_ : (Lit.int .i64 a1).wf = true) (_ : (Lit.int .i64 a2).wf = true) (hA : IsAsk w al ll lc) :
    Calls Try.prog 3 #[.int .i64 a0, .int .i64 a1, .int .i64 a2, .slice al ll lc, .bool own] w fun e w' => e = .returned (.bool true) ∧ Below w.heap.size w w' := plays_core a0 a1 a2 al ll lc own w hA
end Go.Proofs.Ytombgbdplafooaa
