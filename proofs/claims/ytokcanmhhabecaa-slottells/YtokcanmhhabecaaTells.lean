/- SlotTells, walked: of any tick and any that wait it returns true, and nothing that was there is written. -/
import Derived.Test.YtokcanmhhabecaaSums
import Derived.Test.YtokcanmhhabecaaRoomy
import Derived.Deep.RegionHeld3
import Derived.Deep.DrawnRows
namespace Go.Proofs.Ytokcanmhhabecaa
open Go.RowKit M
set_option linter.unusedVariables false
attribute [local go_sem ↓] Go.wp_at_zero Go.wp_at_succ

set_option maxHeartbeats 2000000 in
set_option maxRecDepth 100000 in
theorem tells_core (t b : Int) (a0 : Option Addr) (len0 cap0 : Nat) (z0 : List Int) (w : World) (ht : t ≤ 9223372036854775807) (row0 : IsInts w a0 len0 cap0 z0) :
    Calls Try.prog 4 #[.int .i64 t, .int .i64 b, .slice a0 len0 cap0] w fun e w' => e = .returned (.bool true) ∧ Below w.heap.size w w' := by
  obtain ⟨i0, hi, hz0, hz1, hz2⟩ := info_parts Try.info3
  have hown0 : (w.alloc (.cells #[] 3)).ownsRow w.heap.size 3 1 (.slice (some ⟨w.heap.size, 0, none⟩) 0 0) 0 [] :=
    World.ownsRow_lit w #[] 0 (Nat.le_refl _) (by unfold maxLen; omega) (by simp)
  obtain ⟨K, hKB, hKl, hmin⟩ : ∃ K : Nat, K ≤ 10 ∧ K ≤ len0 ∧ ((len0 ≤ 10 ∧ K = len0) ∨ (10 < len0 ∧ K = 10)) := by
    by_cases h : len0 ≤ 10
    · exact ⟨len0, h, Nat.le_refl _, .inl ⟨h, rfl⟩⟩
    · exact ⟨10, Nat.le_refl _, by omega, .inr ⟨by omega, rfl⟩⟩
  have hsrc : Hid (Src (w.alloc (.cells #[] 3)) (.slice a0 K cap0) K (iv (z0.take K))) := (src_row row0 K hKl).below (below_alloc w _) (Nat.le_refl _)
  have hzl : Hid ((z0.take K).length = K) := by
    have h : (z0.take K).length = K := by
      rcases row0 with ⟨_, rfl, _, rfl⟩ | ⟨x, _, h1, _, h3, _⟩
      · simp; omega
      · rw [List.length_take]; omega
    exact h
  obtain ⟨ns0, hns0⟩ : ∃ ns, Hid (z0.take K = ns) := ⟨_, rfl⟩
  rw [hns0.out] at hsrc hzl
  clear hns0
  go_enter Try.func4, Try.ntmps4
  go_upto_region 1 with fail
  go_cut [7] (fun v wx => ∃ ns : List Int, ns.length ≤ 10 ∧ Hid (Row wx w.heap.size v ns) ∧ Hid (Below w.heap.size w wx))
  case first =>
    rcases row0 with ⟨rfl, rfl, rfl, rfl⟩ | ⟨x, rfl, hlc, hcm, hzl2, hcell, hwf⟩
    · have hK0 : K = 0 := by omega
      subst hK0
      go_wp2_with (at_builtin; refine wpList_append_src _ (by rfl) _ _ 29 rfl w.heap.size 3 i0 (.int .i64 0) 8 Try.underlying29 hi hz0 hz1 hz2 rfl _ 0 [] rfl hown0 _ 0 (iv ns0) rfl hsrc.out (iv_one _) (by unfold maxLen; omega) (by omega) (by simp) ?_)
      intro v' w1 hown' hb1
      go_wp2_with fail
      go_meet
      refine ⟨ns0, by rw [hzl.out]; omega, ?_, (below_alloc w _).trans hb1⟩
      show w1.ownsRow w.heap.size 3 1 v' ns0.length (iv ns0)
      rw [hzl.out]; simpa using hown'
    · unfold maxLen at hcm
      clear hcell hwf
      rcases hmin with ⟨hle, rfl⟩ | ⟨hle, rfl⟩
      all_goals
        go_wp2_with (at_builtin; refine wpList_append_src _ (by rfl) _ _ 29 rfl w.heap.size 3 i0 (.int .i64 0) 8 Try.underlying29 hi hz0 hz1 hz2 rfl _ 0 [] rfl hown0 _ _ (iv ns0) rfl hsrc.out (iv_one _) (by unfold maxLen; omega) (by omega) (by simp) ?_)
        intro v' w1 hown' hb1
        go_wp2_with fail
        go_meet
        refine ⟨ns0, by rw [hzl.out]; exact hKB, ?_, (below_alloc w _).trans hb1⟩
        show w1.ownsRow w.heap.size 3 1 v' ns0.length (iv ns0)
        rw [hzl.out]; simpa using hown'
  case rest =>
    obtain ⟨ns, hnB, hown, t1⟩ := hcut
    clear hown0 hsrc hzl row0 hmin hKB hKl hi hz0 hz1 hz2
    have ho : Hid (Rd .i64 wc u7 ns) := hown.out.rd
    clear hown
    obtain ⟨-, ao, cp, rfl, hncp, hcp, -⟩ := ho.out
    obtain ⟨n, hn⟩ : ∃ n, Hid (ns.length = n) := ⟨_, rfl⟩
    rw [hn.out] at ho hnB hncp ⊢
    go_wp2_with fail
    refine (roomy_any _ ns 7 _ ho.out (by have := hn.out; omega)).mono ?_
    rintro e w2 ⟨u, rfl, hu, b2⟩
    have t2 : Hid (Below w.heap.size w w2) := keep_call t1.out b2 t1.out.size
    have ho2 : Hid (Rd .i64 w2 (.slice ao n cp) ns) := ho.out.call b2
    have hfl : Hid ((ns ++ List.replicate 80 (7 : Int)).length = n + 80) := by
      have h : (ns ++ List.replicate 80 (7 : Int)).length = n + 80 := by rw [List.length_append, hn.out, List.length_replicate]
      exact h
    rw [hfl.out] at hu
    obtain ⟨gf, cf, rfl, hf1, hf2, -, hf4⟩ := own_some hu (by omega)
    unfold maxLen at hf2
    have hu' : w2.ownsRow wc.heap.size 3 1 (.slice (some ⟨gf, 0, none⟩) (n + 80) cf) (ns ++ List.replicate 80 (7 : Int)).length (iv (ns ++ List.replicate 80 (7 : Int))) := by rw [hfl.out]; exact hu
    have hfu : Hid (Rd .i64 w2 (.slice (some ⟨gf, 0, none⟩) (n + 80) cf) (ns ++ List.replicate 80 (7 : Int))) := rd_iv hu'
    have hpre : Hid (Rd .i64 w2 (.slice (some ⟨gf, 0, none⟩) n cf) ns) := by
      have h := hfu.out.take n (by rw [hfl.out]; omega)
      rw [List.take_left' hn.out] at h
      exact h
    clear ho b2 t1 hu hu' hf4
    have hnc : n ≤ cf := by omega
    have hni0 : (0 : Int) ≤ (n : Int) := by omega
    have hni : (n : Int) ≤ (cf : Int) := by omega
    by_cases hneg : t < 0
    · go_wp2_with fail
      go_region_held3 (fun _ => True) (trivial) (first | (go_at_call 8; refine (order_no _ _ hneg).mono ?_; rintro e w' ⟨rfl, rfl⟩) | (go_at_call 9; refine (plan_no _ _ _ _ hneg).mono ?_; rintro e w' ⟨rfl, rfl⟩))
      go_wp2_with fail
      refine (runs_any _).mono ?_
      rintro e w5 ⟨rfl, b5⟩
      have hfin : Hid (Below w.heap.size w w5) := keep_call (t2.out.drew) b5 t2.out.size
      clear b5
      go_wp2_with fail
      go_ret
      exact ⟨rfl, hfin.out⟩
    · have h0 : 0 ≤ t := by omega
      go_wp2_with fail
      go_region_held3 (fun _ => True) (trivial) (first | (go_at_call 8; refine (order_is t _ h0 ht).mono ?_; rintro e wA ⟨bl, rfl, hbl, tl, lA⟩) | (go_at_call 9; refine (plan_is b t _ ns _ ((hpre.out.below (Below.refl _ _).drew (Nat.le_refl _)).call lA) h0 ht).mono ?_; rintro e wB ⟨bp, rfl, hbp, tp, lB⟩))
      have d2 : Below w2.heap.size w2 w2.drew := (Below.refl _ _).drew
      have lAB : Hid (Below w2.heap.size w2 wB) := keep_call (keep_call d2 lA d2.size) lB (Nat.le_trans d2.size lA.size)
      have hB : Hid (Below w.heap.size w wB) := keep_call t2.out lAB.out t2.out.size
      have qo : Hid (Rd .i64 wB (.slice ao n cp) ns) := ho2.out.call lAB.out
      have qf : Hid (Rd .i64 wB (.slice (some ⟨gf, 0, none⟩) (n + 80) cf) (ns ++ List.replicate 80 (7 : Int))) := hfu.out.call lAB.out
      have tlB : Hid (Tb wB bl (tn (t % 8)) (fun _ => 0)) := tl.call lB
      have tpB : Hid (Tb wB bp (tn (t % 8)) (fun i => sv b (tn (t % 8) i) ns)) := tp
      clear lA lB lAB hbl hbp tl tp d2 ho2 hfu hpre t2
      go_wp2_with fail
      refine (intact_any _ _ ns 7 _ qf.out qo.out (by have := hn.out; omega)).mono ?_
      rintro e w6 ⟨rfl, b6⟩
      have hB6 : Hid (Below w.heap.size w w6) := keep_call hB.out b6 hB.out.size
      have ro : Hid (Rd .i64 w6 (.slice ao n cp) ns) := qo.out.call b6
      have tl6 : Hid (Tb w6 bl (tn (t % 8)) (fun _ => 0)) := tlB.out.call b6
      have tp6 : Hid (Tb w6 bp (tn (t % 8)) (fun i => sv b (tn (t % 8) i) ns)) := tpB.out.call b6
      clear qo qf tlB tpB hB b6
      go_wp2_with fail
      go_loop [61] (fun i => ∃ k : Nat, k ≤ 8 ∧ i = .int .i64 (k : Int)) (fun i => 8 - (intOf i).toNat)
      case atStart => exact ⟨0, by omega, rfl⟩
      case round =>
        obtain ⟨k, hk, rfl⟩ := hrel
        by_cases hlt : k < 8
        · have c0 := tl6.out.at0 k hlt
          have c1 := tl6.out.at1 k hlt
          have d0 := tp6.out.at0 k hlt
          have d1 := tp6.out.at1 k hlt
          obtain ⟨m, hm⟩ : ∃ m : Nat, tn (t % 8) k = (m : Int) := ⟨(tn (t % 8) k).toNat, by have := tn_bd (t % 8) k; omega⟩
          have hT : (t + (k : Int)) % 8 = (m : Int) := by unfold tn at hm; omega
          obtain ⟨S, hS⟩ : ∃ S, Hid (sv b (m : Int) ns = S) := ⟨_, rfl⟩
          rw [hm, hS.out] at d1
          rw [hm] at c0 d0
          clear hm
          by_cases hmn : m < n
          · obtain ⟨_, ao', cp', he, _, _, hcc⟩ := ro.out
            injection he with e1 e2 e3
            subst e1
            obtain ⟨bb, off, rfl, hcell⟩ := hcc (by have := hn.out; omega)
            have gg := hcell m (by have := hn.out; omega)
            obtain ⟨y, hy⟩ : ∃ y, Hid (ns.getD m 0 = y) := ⟨_, rfl⟩
            rw [hy.out] at gg
            have hSS : S = max 0 (min b y) := by rw [← hS.out, ← hy.out]; unfold sv; rw [hn.out, if_pos (by omega)]; rfl
            clear hcc hcell e2 e3 hS hy
            have hways : (b < y ∨ b = y ∨ y < b) := by omega
            have hways2 : (0 < S ∨ S = 0) := by omega
            have hS0 : 0 < S → S = b ∨ S = y := by omega
            have hSb : 0 < S → S ≤ b ∧ S ≤ y := by omega
            have hSz : S = 0 → b ≤ 0 ∨ y ≤ 0 := by omega
            clear hSS
            rcases hways2 with hp | rfl
            · rcases hways with h1 | rfl | h1
              · obtain rfl : S = b := by have := hS0 hp; have := hSb hp; omega
                clear hS0 hSb hSz
                go_wp2_with fail
                go_round
                case rel => exact ⟨k + 1, by omega, by go_num⟩
                case measure => simp [intOf]; omega
              · obtain rfl : S = b := by have := hS0 hp; omega
                clear hS0 hSb hSz
                go_wp2_with fail
                go_round
                case rel => exact ⟨k + 1, by omega, by go_num⟩
                case measure => simp [intOf]; omega
              · obtain rfl : S = y := by have := hS0 hp; have := hSb hp; omega
                clear hS0 hSb hSz
                go_wp2_with fail
                go_round
                case rel => exact ⟨k + 1, by omega, by go_num⟩
                case measure => simp [intOf]; omega
            · have hz := hSz rfl
              clear hS0 hSb hSz
              rcases hways with h1 | rfl | h1
              · have h2 : b ≤ 0 := by omega
                clear hz
                go_wp2_with fail
                all_goals
                  go_round
                  case rel => exact ⟨k + 1, by omega, by go_num⟩
                  case measure => simp [intOf]; omega
              · have h2 : b ≤ 0 := by omega
                clear hz
                go_wp2_with fail
                all_goals
                  go_round
                  case rel => exact ⟨k + 1, by omega, by go_num⟩
                  case measure => simp [intOf]; omega
              · have h2 : y ≤ 0 := by omega
                clear hz
                go_wp2_with fail
                all_goals
                  go_round
                  case rel => exact ⟨k + 1, by omega, by go_num⟩
                  case measure => simp [intOf]; omega
          · have hSS : S = 0 := by rw [← hS.out]; unfold sv; rw [hn.out, if_neg (by omega)]
            subst hSS
            clear hS
            go_wp2_with fail
            go_round
            case rel => exact ⟨k + 1, by omega, by go_num⟩
            case measure => simp [intOf]; omega
        · have : k = 8 := by omega
          subst this
          go_wp2_with fail
          refine (runs_any _).mono ?_
          rintro e w7 ⟨rfl, b7⟩
          have hB7 : Hid (Below w.heap.size w w7) := keep_call hB6.out b7 hB6.out.size
          clear b7
          go_wp2_with fail
          go_ret
          exact ⟨rfl, hB7.out⟩
theorem slotTells_walk (t b : Int) (a1 : Option Addr) (len1 cap1 : Nat) (z1 : List Int) (w : World) (ht : (Lit.int .i64 t).wf = true) (_ : (Lit.int .i64 b).wf = true) (row1 : IsInts w a1 len1 cap1 z1) :
    Calls Try.prog 4 #[.int .i64 t, .int .i64 b, .slice a1 len1 cap1] w fun e w' => e = .returned (.bool true) ∧ Below w.heap.size w w' := tells_core t b a1 len1 cap1 z1 w (bounds_i64 ht).2 row1
end Go.Proofs.Ytokcanmhhabecaa
