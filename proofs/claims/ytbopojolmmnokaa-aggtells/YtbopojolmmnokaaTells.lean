/- AggTells, walked: of any kind and any values it returns true, and nothing that was there is written. -/
import Derived.Test.YtbopojolmmnokaaOwn
import Derived.Test.YtbopojolmmnokaaRoomy
import Derived.Test.YtbopojolmmnokaaRef
import Derived.Deep.Cut
import Derived.Deep.CutBlock
import Derived.Deep.DeepCutAuto
namespace Go.Proofs.Ytbopojolmmnokaa
open Go.RowKit M
set_option linter.unusedVariables false

/-- The block of the document's own aggregate. -/
def Rk (w : World) (b : Nat) (c v : Int) : Prop := w.heap[b]? = some (.cells #[.int .i64 c, .int .i64 v] 32 (0, 0))
theorem Rk.c0 {w : World} {b : Nat} {c v : Int} (h : Rk w b c v) : w.cell? ⟨b, 0, none⟩ = some (.int .i64 c) := by
  unfold Rk at h; simp [World.cell?, h]
theorem Rk.c1 {w : World} {b : Nat} {c v : Int} (h : Rk w b c v) : w.cell? ⟨b, 1, none⟩ = some (.int .i64 v) := by
  unfold Rk at h; simp [World.cell?, h]
theorem Rk.free {w : World} {b : Nat} {c v : Int} (h : Rk w b c v) (i : Nat) : w.frozen? ⟨b, i, none⟩ = false := by
  unfold Rk at h; simp [World.frozen?, h]
theorem Rk.lt {w : World} {b : Nat} {c v : Int} (h : Rk w b c v) : b < w.heap.size := (Array.getElem?_eq_some_iff.1 h).1
theorem Rk.but {w w' : World} {b g : Nat} {c v : Int} (h : Rk w b c v) (hb : But g w w') (hg : b ≠ g) : Rk w' b c v := (hb.other b h.lt hg).trans h
theorem Rk.call {w w' : World} {b : Nat} {c v : Int} (h : Rk w b c v) (hb : Below w.heap.size w w') : Rk w' b c v := (hb.block b h.lt).trans h
theorem rk_make (w : World) (c v : Int) : Rk (w.alloc (.cells #[.int .i64 c, .int .i64 v] 32)) w.heap.size c v := by
  show (w.heap.push _)[w.heap.size]? = _
  simp
theorem Rk.set {w : World} {b : Nat} {c v : Int} (h : Rk w b c v) (x y : Int) : Rk ((w.setCell ⟨b, 0, none⟩ (.int .i64 x)).setCell ⟨b, 1, none⟩ (.int .i64 y)) b x y := by
  unfold Rk at *; simp [World.setCell, Array.getElem?_modify, h]

set_option maxHeartbeats 2000000 in
set_option maxRecDepth 100000 in
theorem tells_core (k : Int) (a0 : Option Addr) (len0 cap0 : Nat) (z0 : List Int) (w : World) (row0 : IsInts w a0 len0 cap0 z0) :
    Calls Try.prog 4 #[.int .i64 k, .slice a0 len0 cap0] w fun e w' => e = .returned (.bool true) ∧ Below w.heap.size w w' := by
  obtain ⟨i0, hi, hz0, hz1, hz2⟩ := info_parts Try.info3
  have hown0 : (w.alloc (.cells #[] 3)).ownsRow w.heap.size 3 1 (.slice (some ⟨w.heap.size, 0, none⟩) 0 0) 0 [] :=
    World.ownsRow_lit w #[] 0 (Nat.le_refl _) (by unfold maxLen; omega) (by simp)
  obtain ⟨K, hKB, hKl, hmin⟩ : ∃ K : Nat, K ≤ 30 ∧ K ≤ len0 ∧ ((len0 ≤ 30 ∧ K = len0) ∨ (30 < len0 ∧ K = 30)) := by
    by_cases h : len0 ≤ 30
    · exact ⟨len0, h, Nat.le_refl _, .inl ⟨h, rfl⟩⟩
    · exact ⟨30, Nat.le_refl _, by omega, .inr ⟨by omega, rfl⟩⟩
  have hsrc : Hid (Src (w.alloc (.cells #[] 3)) (.slice a0 K cap0) K (iv (z0.take K))) := (src_row row0 K hKl).below (below_alloc w _) (Nat.le_refl _)
  have hzl : Hid ((z0.take K).length = K) := by
    have h : (z0.take K).length = K := by
      rcases row0 with ⟨_, rfl, _, rfl⟩ | ⟨x, _, h1, _, h3, _⟩
      · simp; omega
      · rw [List.length_take]; omega
    exact h
  obtain ⟨ns0, hns0⟩ : ∃ ns, Hid (z0.take K = ns) := ⟨_, rfl⟩
  rw [hns0.out] at hsrc hzl
  clear hns0
  go_enter Try.func4, Try.ntmps4
  go_upto_region 1 with fail
  go_cut [5] (fun v wx => ∃ ns : List Int, ns.length ≤ 30 ∧ wx.ownsRow w.heap.size 3 1 v ns.length (iv ns) ∧ Below w.heap.size w wx)
  case first =>
    rcases row0 with ⟨rfl, rfl, rfl, rfl⟩ | ⟨x, rfl, hlc, hcm, hzl2, hcell, hwf⟩
    · have hK0 : K = 0 := by omega
      subst hK0
      go_wp2_with (at_builtin; refine wpList_append_src _ (by rfl) _ _ 29 rfl w.heap.size 3 i0 (.int .i64 0) 8 Try.underlying29 hi hz0 hz1 hz2 rfl _ 0 [] rfl hown0 _ 0 (iv ns0) rfl hsrc.out (iv_one _) (by unfold maxLen; omega) (by omega) (by simp) ?_)
      intro v' w1 hown' hb1
      go_wp2_with fail
      go_meet
      refine ⟨ns0, by rw [hzl.out]; omega, ?_, (below_alloc w _).trans hb1⟩
      rw [hzl.out]; simpa using hown'
    · unfold maxLen at hcm
      clear hcell hwf
      rcases hmin with ⟨hle, rfl⟩ | ⟨hle, rfl⟩
      all_goals
        go_wp2_with (at_builtin; refine wpList_append_src _ (by rfl) _ _ 29 rfl w.heap.size 3 i0 (.int .i64 0) 8 Try.underlying29 hi hz0 hz1 hz2 rfl _ 0 [] rfl hown0 _ _ (iv ns0) rfl hsrc.out (iv_one _) (by unfold maxLen; omega) (by omega) (by simp) ?_)
        intro v' w1 hown' hb1
        go_wp2_with fail
        go_meet
        refine ⟨ns0, by rw [hzl.out]; exact hKB, ?_, (below_alloc w _).trans hb1⟩
        rw [hzl.out]; simpa using hown'
  case rest =>
    obtain ⟨ns, hnB, hown, t1⟩ := hcut
    clear hown0 hsrc hzl row0 hmin hKB hKl
    have ho : Hid (Rd .i64 wc u5 ns) := rd_iv hown
    have hao : Hid (∀ g, wc.heap.size ≤ g → Apart g u5) := fun g hg => own_apart hown hg
    clear hown
    obtain ⟨_, ao, cp, rfl, _, hcp, _⟩ := ho.out
    obtain ⟨n, hn⟩ : ∃ n, Hid (ns.length = n) := ⟨_, rfl⟩
    rw [hn.out] at ho hao hnB ⊢
    go_wp2_with fail
    refine (roomy_any _ ns 7 _ ho.out (by have := hn.out; omega)).mono ?_
    rintro e w2 ⟨u, rfl, hu, b2⟩
    have t2 := keep_call t1 b2 t1.size
    have ho2 : Hid (Rd .i64 w2 (.slice ao n cp) ns) := ho.out.call b2
    have hao2 : Hid (∀ g, w2.heap.size ≤ g → Apart g (.slice ao n cp)) := fun g hg => hao.out g (Nat.le_trans b2.size hg)
    have hfl : Hid ((ns ++ List.replicate 80 (7 : Int)).length = n + 80) := by
      have h : (ns ++ List.replicate 80 (7 : Int)).length = n + 80 := by rw [List.length_append, hn.out, List.length_replicate]
      exact h
    rw [hfl.out] at hu
    obtain ⟨gf, cf, rfl, hf1, hf2, -, hf4⟩ := own_some hu (by omega)
    unfold maxLen at hf2
    have hu' : w2.ownsRow wc.heap.size 3 1 (.slice (some ⟨gf, 0, none⟩) (n + 80) cf) (ns ++ List.replicate 80 (7 : Int)).length (iv (ns ++ List.replicate 80 (7 : Int))) := by rw [hfl.out]; exact hu
    have hfu : Hid (Rd .i64 w2 (.slice (some ⟨gf, 0, none⟩) (n + 80) cf) (ns ++ List.replicate 80 (7 : Int))) := rd_iv hu'
    clear ho hao b2 t1 hu hu'
    go_wp2_with fail
    refine (new_any k _).mono ?_
    rintro e w3 ⟨rfl, b3⟩
    go_wp2_with fail
    refine (new_any k _).mono ?_
    rintro e w4 ⟨rfl, b4⟩
    have b34 := keep_call b3 b4 b3.size
    have t4 := keep_call t2 b34 t2.size
    have ho4 : Hid (Rd .i64 w4 (.slice ao n cp) ns) := ho2.out.call b34
    have hao4 : Hid (∀ g, w4.heap.size ≤ g → Apart g (.slice ao n cp)) := fun g hg => hao2.out g (Nat.le_trans b34.size hg)
    have hfu4 : Hid (Rd .i64 w4 (.slice (some ⟨gf, 0, none⟩) (n + 80) cf) (ns ++ List.replicate 80 (7 : Int))) := hfu.out.call b34
    have hgf : gf < w4.heap.size := Nat.lt_of_lt_of_le hf4 b34.size
    clear ho2 hao2 hfu b3 b4 b34 t2 hf4
    go_upto_region 4 with fail
    have hs := t4.size
    refine world_gen (fun W => Agl W w4.heap.size k [] ∧ Agl W (w4.heap.size + 1) k [] ∧ Hid (Rd .i64 W (.slice ao n cp) ns) ∧ Hid (Rd .i64 W (.slice (some ⟨gf, 0, none⟩) (n + 80) cf) (ns ++ List.replicate 80 (7 : Int))) ∧ Below w.heap.size w W)
      ⟨(agl_make w4 k _ rfl).alloc _, agl_make (w4.alloc _) k _ (size2 _ _), (ho4.out.alloc _).alloc _, (hfu4.out.alloc _).alloc _, (t4.alloc hs _).alloc (by simp; omega) _⟩ ?_
    clear t4 ho4 hfu4
    have ap1 : Hid (Apart w4.heap.size (.slice ao n cp)) := hao4.out _ (Nat.le_refl _)
    have ap2 : Hid (Apart (w4.heap.size + 1) (.slice ao n cp)) := hao4.out _ (by omega)
    have ap3 : Hid (∀ g, w4.heap.size ≤ g → Apart g (.slice ao n cp)) := hao4
    clear hao4
    generalize hg2 : w4.heap.size + 1 = g2 at *
    generalize w4.heap.size = g1 at *
    rintro W ⟨k1, k2, ho, hfu, hb⟩
    have hpre : Hid (Rd .i64 W (.slice (some ⟨gf, 0, none⟩) n cf) ns) := by
      have h := hfu.out.take n (by rw [hfl.out]; omega)
      rw [List.take_left' hn.out] at h
      exact h
    have hnc : n ≤ cf := by omega
    go_wp2_with fail
    refine (add_any g1 k [] ns _ _ k1 hpre.out (apart_some (by omega)) (by have := hn.out; rw [List.length_nil]; omega)).mono ?_
    rintro e W1 ⟨rfl, j1, b1⟩
    rw [List.nil_append] at j1
    have t1 := keep_but hb b1 (by omega)
    have j2 := b1.agl k2 (by omega)
    have ho1 : Hid (Rd .i64 W1 (.slice ao n cp) ns) := ho.out.but b1 ap1.out
    have hfu1 : Hid (Rd .i64 W1 (.slice (some ⟨gf, 0, none⟩) (n + 80) cf) (ns ++ List.replicate 80 (7 : Int))) := hfu.out.but b1 (apart_some (by omega))
    clear k1 k2 hb b1 ho hfu hpre
    go_upto_region 6 with fail
    have hg2W := j2.lt
    refine world_gen (fun W => Agl W g1 k ns ∧ Agl W g2 k [] ∧ Rk W W1.heap.size 0 0 ∧ Hid (Rd .i64 W (.slice ao n cp) ns) ∧ Hid (Rd .i64 W (.slice (some ⟨gf, 0, none⟩) (n + 80) cf) (ns ++ List.replicate 80 (7 : Int))) ∧ Below w.heap.size w W)
      ⟨j1.alloc _, j2.alloc _, rk_make _ _ _, ho1.out.alloc _, hfu1.out.alloc _, t1.alloc t1.size _⟩ ?_
    have ap4 : Hid (Apart W1.heap.size (.slice ao n cp)) := ap3.out _ (by omega)
    clear t1 j1 j2 ho1 hfu1 ap3
    generalize W1.heap.size = g3 at *
    rintro W0 ⟨k1, k2, k3, ho, hfu, hb⟩
    go_wp2_with fail
    go_loopw [33] (fun i wr => ∃ j : Nat, j ≤ n ∧ i = .int .i64 j ∧ Hid (Agl wr g1 k ns) ∧ Hid (Agl wr g2 k (ns.take j)) ∧ Hid (Rk wr g3 j (val k (ns.take j))) ∧ Hid (Rd .i64 wr (.slice ao n cp) ns) ∧ Hid (Rd .i64 wr (.slice (some ⟨gf, 0, none⟩) (n + 80) cf) (ns ++ List.replicate 80 (7 : Int))) ∧ Below w.heap.size w wr) (fun i _ => n - (intOf i).toNat)
    case atStart => exact ⟨0, Nat.zero_le _, rfl, k1, k2, by rw [List.take_zero, val_nil]; exact k3, ho, hfu, hb⟩
    case round =>
      obtain ⟨j, hj, rfl, h1, h2, h3, ho, hfu, hb⟩ := hrel
      clear k1 k2 k3
      by_cases hlt : j < n
      · obtain ⟨_, ao', cp', he, _, _, hcc⟩ := ho.out
        injection he with e1 e2 e3
        subst e1
        obtain ⟨bb, off, rfl, hcell⟩ := hcc (by have := hn.out; omega)
        have g := hcell j (by have := hn.out; omega)
        obtain ⟨x, hx⟩ : ∃ x, Hid (ns.getD j 0 = x) := ⟨_, rfl⟩
        rw [hx.out] at g
        clear hcc hcell e2 e3
        have hstep : Hid (ns.take (j + 1) = ns.take j ++ [x]) := by
          have h : ns.take (j + 1) = ns.take j ++ [x] := by rw [take_snoc' ns 0 j (by have := hn.out; omega), hx.out]
          exact h
        have hlen : Hid ((ns.take j).length = j) := by
          have h : (ns.take j).length = j := by rw [List.length_take, hn.out]; omega
          exact h
        clear hx
        go_wp2_with fail
        refine (add_any g2 k (ns.take j) [x] _ _ (h2.out.alloc _) (rd_lit (k := .i64) (e := 3) wr [x] (by simp)) (apart_some (Nat.ne_of_gt h2.out.lt)) (by rw [hlen.out]; simp; omega)).mono ?_
        rintro e w5 ⟨rfl, j2, b5⟩
        rw [← hstep.out] at j2
        have q2 : Hid (Agl w5 g2 k (ns.take (j + 1))) := j2
        have q1 : Hid (Agl w5 g1 k ns) := b5.agl (h1.out.alloc _) (by omega)
        have q3 : Rk w5 g3 j (val k (ns.take j)) := Rk.but (h3.out.call (below_alloc _ _)) b5 (by omega)
        have qo : Hid (Rd .i64 w5 (.slice (some ⟨bb, off, none⟩) n cp) ns) := (ho.out.alloc _).but b5 ap2.out
        have qf : Hid (Rd .i64 w5 (.slice (some ⟨gf, 0, none⟩) (n + 80) cf) (ns ++ List.replicate 80 (7 : Int))) := (hfu.out.alloc _).but b5 (apart_some (by omega))
        have qb := keep_but (hb.alloc hb.size _) b5 (by omega)
        clear h1 h2 h3 ho hfu hb b5 j2 g
        have hv : Hid (jv k (j : Int) (val k (ns.take j)) (inp k x) = val k (ns.take (j + 1))) := by
          have h : jv k (j : Int) (val k (ns.take j)) (inp k x) = val k (ns.take (j + 1)) := by rw [hstep.out, val_snoc, hlen.out]
          exact h
        obtain ⟨V, hV⟩ : ∃ V, Hid (val k (ns.take (j + 1)) = V) := ⟨_, rfl⟩
        rw [hV.out] at hv
        obtain ⟨U, hU⟩ : ∃ U, Hid (val k (ns.take j) = U) := ⟨_, rfl⟩
        rw [hU.out] at hv q3
        clear hU
        have d0 := q3.c0
        have d1 := q3.c1
        go_wp2_with fail
        refine (radd_any (j : Int) k U x V _ hv.out (by omega) (by omega)).mono ?_
        rintro e w6 ⟨rfl, b6⟩
        have r1 : Hid (Agl w6 g1 k ns) := q1.out.call b6
        have r2 : Hid (Agl w6 g2 k (ns.take (j + 1))) := q2.out.call b6
        have r3 : Rk w6 g3 j U := q3.call b6
        have ro : Hid (Rd .i64 w6 (.slice (some ⟨bb, off, none⟩) n cp) ns) := qo.out.call b6
        have rf : Hid (Rd .i64 w6 (.slice (some ⟨gf, 0, none⟩) (n + 80) cf) (ns ++ List.replicate 80 (7 : Int))) := qf.out.call b6
        have rb := keep_call qb b6 qb.size
        clear q1 q2 q3 qo qf qb b6 d0 d1 hv hstep
        have d0 := r3.c0
        have d1 := r3.c1
        have f0 := r3.free 0
        have f1 := r3.free 1
        go_upto_region 11 with fail
        have hbut : But g3 w6 ((w6.setCell ⟨g3, 0, none⟩ (.int .i64 ((j : Int) + 1))).setCell ⟨g3, 1, none⟩ (.int .i64 V)) := ((But.refl _ _).set _ _).set _ _
        refine world_gen (fun W => Hid (Agl W g1 k ns) ∧ Hid (Agl W g2 k (ns.take (j + 1))) ∧ Rk W g3 ((j : Int) + 1) V ∧ Hid (Rd .i64 W (.slice (some ⟨bb, off, none⟩) n cp) ns) ∧ Hid (Rd .i64 W (.slice (some ⟨gf, 0, none⟩) (n + 80) cf) (ns ++ List.replicate 80 (7 : Int))) ∧ Below w.heap.size w W)
          ⟨hbut.agl r1.out (by omega), hbut.agl r2.out (by omega), r3.set _ _, ro.out.but hbut ap4.out, rf.out.but hbut (apart_some (by omega)), keep_but rb hbut (by omega)⟩ ?_
        clear r1 r2 r3 ro rf rb hbut d0 d1 f0 f1
        rintro W5 ⟨s1, s2, s3, so, sf, sb⟩
        have d0 := s3.c0
        have d1 := s3.c1
        have hlen2 : Hid ((((ns.take (j + 1)).length : Nat) : Int) = (j : Int) + 1) := by
          have h : (((ns.take (j + 1)).length : Nat) : Int) = (j : Int) + 1 := by rw [List.length_take, hn.out]; omega
          exact h
        have s2' : Agk W5 g2 ((j : Int) + 1) k V := by
          have h := s2.out
          unfold Agl at h
          rw [hlen2.out, hV.out] at h
          exact h
        have e0 := s2'.c0
        have e2 := s2'.c2
        clear s2'
        go_wp2_with fail
        go_roundw
        case rel => exact ⟨j + 1, by omega, by go_num, s1, s2, by rw [hV.out]; exact s3, so, sf, sb⟩
        case measure => simp [intOf]; omega
      · have hjn : j = n := by omega
        have hall : Hid (ns.take j = ns) := by
          have h : ns.take j = ns := List.take_of_length_le (by have := hn.out; omega)
          exact h
        rw [hall.out] at h2
        clear hall h3 hlt
        go_wp2_with fail
        refine (add_any g2 k ns [] _ _ h2.out (rd_nil _ _) (apart_nil _ _ _) (by have := hn.out; simp; omega)).mono ?_
        rintro e w5 ⟨rfl, j2, b5⟩
        rw [List.append_nil] at j2
        have q1 : Agl w5 g1 k ns := b5.agl h1.out (by omega)
        have qo : Hid (Rd .i64 w5 (.slice ao n cp) ns) := ho.out.but b5 ap2.out
        have qf : Hid (Rd .i64 w5 (.slice (some ⟨gf, 0, none⟩) (n + 80) cf) (ns ++ List.replicate 80 (7 : Int))) := hfu.out.but b5 (apart_some (by omega))
        have qb := keep_but hb b5 (by omega)
        clear h1 h2 ho hfu hb b5
        obtain ⟨V, hV⟩ : ∃ V, Hid (val k ns = V) := ⟨_, rfl⟩
        unfold Agl at q1 j2
        rw [hn.out, hV.out] at q1 j2
        have c0 := q1.c0
        have c1 := q1.c1
        have c2 := q1.c2
        have d0 := j2.c0
        have d1 := j2.c1
        have d2 := j2.c2
        go_wp2_with fail
        refine (intact_any _ _ ns 7 _ qf.out qo.out (by have := hn.out; omega)).mono ?_
        rintro e w6 ⟨rfl, b6⟩
        have t6 := keep_call qb b6 qb.size
        clear q1 j2 c0 c1 c2 d0 d1 d2 qo qf qb b6
        obtain ⟨p, hp⟩ : ∃ p, Hid (decide (1 ≤ k ∧ k ≤ 4) = p) := ⟨_, rfl⟩
        go_wp2_with fail
        refine (right_is k p _ hp.out).mono ?_
        rintro e w' ⟨rfl, he⟩; obtain rfl := he.symm; clear he
        have hways : (1 ≤ k ∧ k ≤ 4) ∨ (1 ≤ k ∧ ¬ k ≤ 4) ∨ ¬ 1 ≤ k := by omega
        rcases hways with ⟨h1, h2⟩ | ⟨h1, h2⟩ | h1
        · obtain rfl : true = p := by rw [← hp.out]; simp [h1, h2]
          go_wp2_with fail
          refine (runs_any _).mono ?_
          rintro e w7 ⟨rfl, b7⟩
          go_wp2_with fail
          go_ret
          exact ⟨rfl, keep_call t6 b7 t6.size⟩
        · obtain rfl : false = p := by rw [← hp.out]; simp [h2]
          go_wp2_with fail
          refine (runs_any _).mono ?_
          rintro e w7 ⟨rfl, b7⟩
          go_wp2_with fail
          go_ret
          exact ⟨ret_bool (by simp; omega), keep_call t6 b7 t6.size⟩
        · obtain rfl : false = p := by rw [← hp.out]; simp; omega
          go_wp2_with fail
          refine (runs_any _).mono ?_
          rintro e w7 ⟨rfl, b7⟩
          go_wp2_with fail
          go_ret
          exact ⟨rfl, keep_call t6 b7 t6.size⟩
theorem aggTells_walk (k : Int) (a1 : Option Addr) (len1 cap1 : Nat) (z1 : List Int) (w : World) (_ : (Lit.int .i64 k).wf = true) (row1 : IsInts w a1 len1 cap1 z1) :
    Calls Try.prog 4 #[.int .i64 k, .slice a1 len1 cap1] w fun e w' => e = .returned (.bool true) ∧ Below w.heap.size w w' := tells_core k a1 len1 cap1 z1 w row1
end Go.Proofs.Ytbopojolmmnokaa
