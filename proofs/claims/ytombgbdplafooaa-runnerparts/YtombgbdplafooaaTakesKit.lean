/- The program's runner and the document's own, side by side. -/
import Derived.Test.YtombgbdplafooaaRTake
import Derived.Test.YtombgbdplafooaaRRuns
import Derived.Test.YtombgbdplafooaaRNew
import Derived.Test.YtombgbdplafooaaMathX
import Derived.Deep.QuietTactic
import Derived.BigQuiet
import Derived.Test.YtombgbdplafooaaRIn
import Derived.Test.YtombgbdplafooaaSame
import Derived.Test.YtombgbdplafooaaSrc
import Derived.Test.YtombgbdplafooaaRHelp
import Derived.Laws.BitsAllLaws
import Derived.Test.YtombgbdplafooaaRApp
import Derived.Test.YtombgbdplafooaaRefTake
/- Package whole: Rows, Past, Labels, Prefix, with slices.Equal of rows. -/
namespace Go.Proofs.Ytombgbdplafooaa
open Go.RowKit M
open O (RdO)
open O.MO (Oq Pq rightP)
set_option linter.unusedVariables false
set_option linter.unusedSimpArgs false
attribute [local go_sem ↓] Go.wp_at_zero Go.wp_at_succ

set_option maxHeartbeats 2000000 in
set_option maxRecDepth 100000 in
/-- whole.Rows of a right pipe. -/
theorem wrows_is (v : Value) (p : Pq) (iv : Value) (qb : Nat) (is : List Inp) (w : World) (hv : OpsIn w v p.os) (hr : rightP p = true) (hl : p.os.length ≤ 1000) (hI : RdI w iv qb is) (hq : qb ≤ w.heap.size) (hn : is.length ≤ 100000) :
    Calls Try.prog 39 #[O.pv v p.n p.s p.a p.k p.f, iv] w fun e w' => ∃ u, e = .returned u ∧ w'.ownsRow w.heap.size 45 5 u (rowsR p r0 is).length (rcs (rowsR p r0 is)) ∧ Below w.heap.size w w' := by
  obtain ⟨os, n, s, a, k, f⟩ := p
  simp only at hv hl ⊢
  obtain ⟨va, vl, vc, rfl⟩ := hv.form
  have hv' : Hid (OpsIn w (.slice va vl vc) os) := hv
  have hr' : Hid (rightP ⟨os, n, s, a, k, f⟩ = true) := hr
  have hl' : Hid (os.length ≤ 1000) := hl
  have hI' : Hid (RdI w iv qb is) := hI
  have hn' : Hid (is.length ≤ 100000) := hn
  clear hv hr hl hI hn
  go_enter Try.func39, Try.ntmps39
  go_upto_region 1 with fail
  refine world_gen (fun W => Hid (O.Pik W w.heap.size (.slice va vl vc) n s a k f) ∧ Hid (OpsIn W (.slice va vl vc) os) ∧ Hid (RdI W iv qb is) ∧ Hid (Below w.heap.size w W) ∧ w.heap.size < W.heap.size) ⟨O.pik_new _ _ _ _ _ _ _, hv'.out.below (below_alloc _ _), hI'.out.below (below_alloc _ _), below_alloc _ _, by simp⟩ ?_
  clear hv' hI'
  rintro W ⟨k0, hv, hI, b0, hsz⟩
  generalize hg0 : w.heap.size = g0 at k0 b0 hsz hq ⊢
  have c0 := k0.out.c0
  have c1 := k0.out.c1
  have c2 := k0.out.c2
  have c3 := k0.out.c3
  have c4 := k0.out.c4
  have c5 := k0.out.c5
  have hg1 : Hid (w.heap.size = g0) := hg0
  clear hg0
  go_wp2_with fail
  refine (new_is (.slice va vl vc) ⟨os, n, s, a, k, f⟩ _ hv.out hr'.out hl'.out).mono ?_
  rintro e W1 ⟨b, q, o, g, rfl, hR, z1, z2, z3, z4, b1⟩
  have hI1 : Hid (RdI W1 iv qb is) := hI.out.below b1
  have hB1 : Hid (Below g0 w W1) := b0.out.trans (b1.mono (by omega))
  have hR1 : Hid (Rnr W1 b q o g ⟨os, n, s, a, k, f⟩ r0) := hR
  have hz : W.heap.size ≤ W1.heap.size := b1.size
  clear hR b1 hI b0 k0 hv c0 c1 c2 c3 c4 c5
  go_wp2_with fail
  refine (rtake_is b q o g ⟨os, n, s, a, k, f⟩ r0 iv qb is _ hR1.out hI1.out (by omega) (by omega) (by omega) (by have := hn'.out; simp; omega) (by have := hn'.out; simp; omega) (by have := hn'.out; simp; omega)).mono ?_
  rintro e W2 ⟨u, o', rfl, hu, hR2, ho2, hch⟩
  have hB2 : Hid (Below g0 w W2) := hB1.out.trans (hch.below (by omega) (by omega) (by omega) (by omega))
  have hu2 : Hid (W2.ownsRow g0 45 5 u (rowsR ⟨os, n, s, a, k, f⟩ r0 is).length (rcs (rowsR ⟨os, n, s, a, k, f⟩ r0 is))) := O.own_base hu (by omega)
  clear hu hR2 hch hB1 hR1 hI1
  go_wp2_with fail
  go_ret
  exact ⟨u, rfl, by rw [hg1.out]; exact hu2.out, by rw [hg1.out]; exact hB2.out⟩
set_option maxHeartbeats 2000000 in
set_option maxRecDepth 100000 in
/-- whole.Rows of a pipe that isn't right. -/
theorem wrows_no (v : Value) (os : List Oq) (n s a k f : Int) (iv : Value) (w : World) (hv : OpsIn w v os) (hr : rightP ⟨os, n, s, a, k, f⟩ = false) :
    Calls Try.prog 39 #[O.pv v n s a k f, iv] w fun e w' => e = .returned (.slice none 0 0) ∧ Below w.heap.size w w' := by
  obtain ⟨va, vl, vc, rfl⟩ := hv.form
  have hv' : Hid (OpsIn w (.slice va vl vc) os) := hv
  have hr' : Hid (rightP ⟨os, n, s, a, k, f⟩ = false) := hr
  clear hv hr
  go_enter Try.func39, Try.ntmps39
  go_upto_region 1 with fail
  refine world_gen (fun W => Hid (O.Pik W w.heap.size (.slice va vl vc) n s a k f) ∧ Hid (OpsIn W (.slice va vl vc) os) ∧ Hid (Below w.heap.size w W) ∧ w.heap.size < W.heap.size) ⟨O.pik_new _ _ _ _ _ _ _, hv'.out.below (below_alloc _ _), below_alloc _ _, by simp⟩ ?_
  clear hv'
  rintro W ⟨k0, hv, b0, hsz⟩
  generalize hg0 : w.heap.size = g0 at k0 b0 hsz ⊢
  have c0 := k0.out.c0
  have c1 := k0.out.c1
  have c2 := k0.out.c2
  have c3 := k0.out.c3
  have c4 := k0.out.c4
  have c5 := k0.out.c5
  have hg1 : Hid (w.heap.size = g0) := hg0
  clear hg0
  go_wp2_with fail
  refine (new_no (.slice va vl vc) os n s a k f _ hv.out hr'.out).mono ?_
  rintro e W1 ⟨rfl, b1⟩
  have hB1 : Hid (Below g0 w W1) := b0.out.trans (b1.mono (by omega))
  clear b1 b0 k0 hv c0 c1 c2 c3 c4 c5
  go_wp2_with fail
  go_ret
  exact ⟨rfl, by rw [hg1.out]; exact hB1.out⟩
set_option maxHeartbeats 2000000 in
set_option maxRecDepth 100000 in
/-- whole.Past of a right pipe. -/
theorem wpast_is (v : Value) (p : Pq) (iv : Value) (qb : Nat) (is : List Inp) (z : Bool) (w : World) (hv : OpsIn w v p.os) (hr : rightP p = true) (hl : p.os.length ≤ 1000) (hI : RdI w iv qb is) (hq : qb ≤ w.heap.size) (hn : is.length ≤ 100000) (hz : decide ((stR p r0 is).L = []) = z) :
    Calls Try.prog 40 #[O.pv v p.n p.s p.a p.k p.f, iv] w fun e w' => e = .returned (.bool z) ∧ Below w.heap.size w w' := by
  obtain ⟨os, n, s, a, k, f⟩ := p
  simp only at hv hl ⊢
  obtain ⟨va, vl, vc, rfl⟩ := hv.form
  have hv' : Hid (OpsIn w (.slice va vl vc) os) := hv
  have hr' : Hid (rightP ⟨os, n, s, a, k, f⟩ = true) := hr
  have hl' : Hid (os.length ≤ 1000) := hl
  have hI' : Hid (RdI w iv qb is) := hI
  have hn' : Hid (is.length ≤ 100000) := hn
  have hzz : Hid (decide ((stR ⟨os, n, s, a, k, f⟩ r0 is).L = []) = z) := hz
  clear hv hr hl hI hn hz
  go_enter Try.func40, Try.ntmps40
  go_upto_region 1 with fail
  refine world_gen (fun W => Hid (O.Pik W w.heap.size (.slice va vl vc) n s a k f) ∧ Hid (OpsIn W (.slice va vl vc) os) ∧ Hid (RdI W iv qb is) ∧ Hid (Below w.heap.size w W) ∧ w.heap.size < W.heap.size) ⟨O.pik_new _ _ _ _ _ _ _, hv'.out.below (below_alloc _ _), hI'.out.below (below_alloc _ _), below_alloc _ _, by simp⟩ ?_
  clear hv' hI'
  rintro W ⟨k0, hv, hI, b0, hsz⟩
  generalize hg0 : w.heap.size = g0 at k0 b0 hsz hq ⊢
  have c0 := k0.out.c0
  have c1 := k0.out.c1
  have c2 := k0.out.c2
  have c3 := k0.out.c3
  have c4 := k0.out.c4
  have c5 := k0.out.c5
  have hg1 : Hid (w.heap.size = g0) := hg0
  clear hg0
  go_wp2_with fail
  refine (new_is (.slice va vl vc) ⟨os, n, s, a, k, f⟩ _ hv.out hr'.out hl'.out).mono ?_
  rintro e W1 ⟨b, q, o, g, rfl, hR, z1, z2, z3, z4, b1⟩
  have hI1 : Hid (RdI W1 iv qb is) := hI.out.below b1
  have hB1 : Hid (Below g0 w W1) := b0.out.trans (b1.mono (by omega))
  have hR1 : Hid (Rnr W1 b q o g ⟨os, n, s, a, k, f⟩ r0) := hR
  have hsz1 : W.heap.size ≤ W1.heap.size := b1.size
  clear hR b1 hI b0 k0 hv c0 c1 c2 c3 c4 c5
  go_wp2_with fail
  refine (rtake_is b q o g ⟨os, n, s, a, k, f⟩ r0 iv qb is _ hR1.out hI1.out (by omega) (by omega) (by omega) (by have := hn'.out; simp; omega) (by have := hn'.out; simp; omega) (by have := hn'.out; simp; omega)).mono ?_
  rintro e W2 ⟨u, o', rfl, hu, hR2, ho2, hch⟩
  have hB2 : Hid (Below g0 w W2) := hB1.out.trans (hch.below (by omega) (by omega) (by omega) (by omega))
  have hR3 : Hid (Rnr W2 b q o' g ⟨os, n, s, a, k, f⟩ (stR ⟨os, n, s, a, k, f⟩ r0 is)) := hR2
  have hLl := (rows_len ⟨os, n, s, a, k, f⟩ is).2
  clear hu hR2 hch hB1 hR1 hI1
  generalize stR ⟨os, n, s, a, k, f⟩ r0 is = R at hR3 hzz hLl
  obtain ⟨c0, c1, c2, c3⟩ := hR3.out.cells
  go_wp2_with fail
  refine (len_is q o' n s a R.L R.L.length _ hR3.out.pan rfl).mono ?_
  rintro e W3 ⟨rfl, he⟩; obtain rfl := he.symm; clear he
  have hzL : (Value.bool (decide ((R.L.length : Int) = 0))) = .bool z := by
    rw [← hzz.out]
    congr 1
    simp
  go_wp2_with fail
  go_ret
  exact ⟨by first | (rw [← hzL]; done) | (rw [← hzL]) | (congr 1), by rw [hg1.out]; exact hB2.out⟩
set_option maxHeartbeats 2000000 in
set_option maxRecDepth 100000 in
/-- whole.Past of a pipe that isn't right. -/
theorem wpast_no (v : Value) (os : List Oq) (n s a k f : Int) (iv : Value) (w : World) (hv : OpsIn w v os) (hr : rightP ⟨os, n, s, a, k, f⟩ = false) :
    Calls Try.prog 40 #[O.pv v n s a k f, iv] w fun e w' => e = .returned (.bool true) ∧ Below w.heap.size w w' := by
  obtain ⟨va, vl, vc, rfl⟩ := hv.form
  have hv' : Hid (OpsIn w (.slice va vl vc) os) := hv
  have hr' : Hid (rightP ⟨os, n, s, a, k, f⟩ = false) := hr
  clear hv hr
  go_enter Try.func40, Try.ntmps40
  go_upto_region 1 with fail
  refine world_gen (fun W => Hid (O.Pik W w.heap.size (.slice va vl vc) n s a k f) ∧ Hid (OpsIn W (.slice va vl vc) os) ∧ Hid (Below w.heap.size w W) ∧ w.heap.size < W.heap.size) ⟨O.pik_new _ _ _ _ _ _ _, hv'.out.below (below_alloc _ _), below_alloc _ _, by simp⟩ ?_
  clear hv'
  rintro W ⟨k0, hv, b0, hsz⟩
  generalize hg0 : w.heap.size = g0 at k0 b0 hsz ⊢
  have c0 := k0.out.c0
  have c1 := k0.out.c1
  have c2 := k0.out.c2
  have c3 := k0.out.c3
  have c4 := k0.out.c4
  have c5 := k0.out.c5
  have hg1 : Hid (w.heap.size = g0) := hg0
  clear hg0
  go_wp2_with fail
  refine (new_no (.slice va vl vc) os n s a k f _ hv.out hr'.out).mono ?_
  rintro e W1 ⟨rfl, b1⟩
  have hB1 : Hid (Below g0 w W1) := b0.out.trans (b1.mono (by omega))
  clear b1 b0 k0 hv c0 c1 c2 c3 c4 c5
  go_wp2_with fail
  go_ret
  exact ⟨rfl, by rw [hg1.out]; exact hB1.out⟩
set_option maxHeartbeats 1000000 in
set_option maxRecDepth 100000 in
/-- whole.Labels. -/
theorem labels_is (iv : Value) (qb : Nat) (is : List Inp) (w : World) (hI : RdI w iv qb is) :
    Calls Try.prog 41 #[iv] w fun e w' => e = .returned (.int .u64 (labs is : Nat)) ∧ Below w.heap.size w w' := by
  obtain ⟨hn1, hlab, ao, cap, rfl, hn2, hn3, hc⟩ := hI
  have hcell : Hid (∀ j, j < is.length → ∃ off, ao = some ⟨qb, off, none⟩ ∧ qb < w.heap.size ∧ InAt w qb (off + j * 5) (iAt is j)) := fun j hj => by
    obtain ⟨off, e1, e2, e3⟩ := hc (by omega)
    exact ⟨off, e1, e2, e3 j hj⟩
  have hlab' : Hid (∀ i ∈ is, i.e.l < 18446744073709551616) := hlab
  clear hc hlab
  obtain ⟨m, hm⟩ : ∃ m, Hid (is.length = m) := ⟨_, rfl⟩
  rw [hm.out] at hn1 hn2 hcell ⊢
  go_enter Try.func41, Try.ntmps41
  go_wp2_with fail
  go_loopw [3, 8] (fun u i wr => ∃ j N : Nat, j ≤ m ∧ i = .int .i64 j ∧ u = .int .u64 (N : Nat) ∧ Hid (labs (is.take j) = N) ∧ Below w.heap.size w wr) (fun _ i _ => m - (intOf i).toNat)
  case atStart => exact ⟨0, 0, Nat.zero_le _, rfl, rfl, rfl, Below.refl _ _⟩
  case round =>
    obtain ⟨j, N, hj, rfl, rfl, hN, hb⟩ := hrel
    by_cases hlt : j < m
    · obtain ⟨off, rfl, hq1, hin⟩ := hcell.out j hlt
      have hjl : j < is.length := by rw [hm.out]; exact hlt
      have hin2 := hin.keep (hb.block qb hq1)
      have hel := hlab'.out _ (iAt_mem is j hjl)
      have hNl : N < 18446744073709551616 := by rw [← hN.out]; exact labs_lt _ (fun i hi => hlab'.out i (List.mem_of_mem_take hi))
      have hst : Hid (labs (is.take (j + 1)) = N ||| labI (iAt is j)) := by
        have h : labs (is.take (j + 1)) = N ||| labI (iAt is j) := by rw [take_in is j hjl, labs_snoc, hN.out]
        exact h
      obtain ⟨x, hx⟩ : ∃ x, Hid (iAt is j = x) := ⟨_, rfl⟩
      rw [hx.out] at hin2 hel hst
      have hel' : Hid (x.e.l < 18446744073709551616) := hel
      have hNl' : Hid (N < 18446744073709551616) := hNl
      clear hin hx hel hN hNl
      obtain ⟨c0, c1, c2, c3, c4⟩ := hin2
      go_upto_region 5 with fail
      clear c0 c1 c2 c3 c4
      have hwz : w.heap.size ≤ wr.heap.size := hb.size
      refine world_gen (fun W => Hid (Ink W wr.heap.size x) ∧ Below w.heap.size w W) ⟨ink_new _ _, hb.trans ((below_alloc _ _).mono hwz)⟩ ?_
      clear hb
      rintro W ⟨hK, hb⟩
      generalize wr.heap.size = gi at hK hwz ⊢
      obtain ⟨mk, ⟨et, ek, ev, el⟩⟩ := x
      obtain ⟨c0, c1, c2, c3, c4⟩ := hK.out.c
      simp only at c0 c1 c2 c3 c4
      cases mk with
      | true =>
        go_wp2_with fail
        go_roundw
        case rel => exact ⟨j + 1, N, by omega, by go_num, rfl, by rw [hst.out]; exact Nat.or_zero N, hb⟩
        case measure => simp [intOf]; omega
      | false =>
        go_wp2_with fail
        go_roundw
        case rel => exact ⟨j + 1, N ||| el, by omega, by go_num, by rw [u64_or_nat N el hNl'.out hel'.out], hst.out, hb⟩
        case measure => simp [intOf]; omega
    · obtain rfl : j = m := by omega
      rw [List.take_of_length_le (Nat.le_of_eq hm.out)] at hN
      have hN2 := hN.out
      subst hN2
      go_wp2_with fail
      go_ret
      exact ⟨rfl, hb⟩
end Go.Proofs.Ytombgbdplafooaa
/- WholeRuns, walked. -/
namespace Go.Proofs.Ytombgbdplafooaa
open Go.RowKit M
open O (RdO Kpk Pik Small Ints)
open O.MO (Oq Pq rightP)
set_option linter.unusedVariables false
set_option linter.unusedSimpArgs false
attribute [local go_sem ↓] Go.wp_at_zero Go.wp_at_succ

abbrev wholeP : Pq := ⟨[], 10, 10, 2, -1, -1⟩
abbrev wholeI : List Inp := [⟨false, ⟨3, 0, 5, 1⟩⟩, ⟨false, ⟨12, 0, 1, 4⟩⟩, ⟨true, ⟨10, 0, 0, 8⟩⟩, ⟨true, ⟨20, 0, 0, 0⟩⟩]
abbrev wholeJ : List Inp := [⟨false, ⟨3, 0, 5, 1⟩⟩, ⟨false, ⟨12, 0, 1, 4⟩⟩, ⟨true, ⟨10, 0, 0, 8⟩⟩]
theorem whole_rows : (rowsR wholeP r0 wholeI).length = 2 := by decide
theorem whole_past : decide ((stR wholeP r0 wholeI).L = []) = true := by decide
theorem whole_rows3 : (rowsR wholeP r0 wholeJ).length = 1 := by decide
theorem whole_past3 : decide ((stR wholeP r0 wholeJ).L = []) = false := by decide
theorem whole_labs : labs wholeI = 5 := by decide
theorem own_len' {w : World} {B : Nat} {e : TypeId} {size n : Nat} {v : Value} {xs : List Value} (h : w.ownsRow B e size v n xs) : ∃ a c, v = .slice a n c := by
  obtain ⟨_, h | ⟨g, cap, cur, rfl, _⟩⟩ := h
  · rw [h.2]; exact ⟨_, _, h.1⟩
  · exact ⟨_, _, rfl⟩
theorem whole_right : rightP wholeP = true := by decide
set_option maxHeartbeats 4000000 in
set_option maxRecDepth 100000 in
theorem wholeRuns_walk (w : World) : Calls Try.prog 6 #[] w fun e w' => e = .returned (.bool true) ∧ Below w.heap.size w w' := by
  go_enter Try.func6, Try.ntmps6
  go_upto_region 3 with fail
  refine world_gen (fun W => Hid (O.Pik W w.heap.size (.slice none 0 0) 10 10 2 (-1) (-1)) ∧ Hid (RdI W (.slice (some ⟨w.heap.size + 1, 0, none⟩) 4 4) (w.heap.size + 1) wholeI) ∧ Hid (Below w.heap.size w W) ∧ w.heap.size + 1 < W.heap.size) ⟨?a1, ?a2, ?a3, ?a4⟩ ?_
  case a1 => exact (O.pik_new w (.slice none 0 0) 10 10 2 (-1) (-1)).call (below_alloc _ _)
  case a2 =>
    have h := rdi_lit (w.alloc (.cells #[.slice none 0 0, .int .i64 10, .int .i64 10, .int .i64 2, .int .i64 (-1), .int .i64 (-1)] 58)) wholeI (by decide) (by decide)
    rw [show (w.alloc (.cells #[.slice none 0 0, .int .i64 10, .int .i64 10, .int .i64 2, .int .i64 (-1), .int .i64 (-1)] 58)).heap.size = w.heap.size + 1 by simp] at h
    exact h
  case a3 => exact (below_alloc w _).trans ((below_alloc _ _).mono (by simp))
  case a4 => simp
  rintro W ⟨hP, hI, hB, hz⟩
  generalize hg0 : w.heap.size = g0 at hP hI hB hz ⊢
  have hg1 : Hid (w.heap.size = g0) := hg0
  clear hg0
  have hJ : Hid (RdI W (.slice (some ⟨g0 + 1, 0, none⟩) 3 4) (g0 + 1) wholeJ) := by
    obtain ⟨h1, h2, ao, cap, e, h3, h4, hc⟩ := hI.out
    injection e with e1 e2 e3
    subst e1 e3
    refine ⟨by decide, by decide, _, _, rfl, by decide, by decide, fun _ => ?_⟩
    obtain ⟨off, e, hb, hcell⟩ := hc (by decide)
    injection e with e
    injection e with e5 e6
    subst e6
    refine ⟨_, rfl, hb, fun j hj => ?_⟩
    have h := hcell j (Nat.lt_of_lt_of_le hj (by decide))
    have hj3 : j < 3 := hj
    have ej : iAt wholeJ j = iAt wholeI j := by
      match j, hj3 with
      | 0, _ => rfl
      | 1, _ => rfl
      | 2, _ => rfl
    rw [ej]
    exact h
  refine wp_region_held_drew (S := fun X => Below W.heap.size W X) (by kernel_rfl) (Below.refl _ _).drew (fun hHeld => ?_)
  generalize W.drew = V at hHeld ⊢
  refine take_at (i := 0) (v := O.pv (.slice none 0 0) 10 10 2 (-1) (-1)) rfl rfl (by kernel_rfl) (by kernel_rfl) (by kernel_rfl) (fun _ _ _ h => h) (Or.inl ⟨by rfl, fun X hX => by have h := hP.out.call hX; have c0 := h.c0; have c1 := h.c1; have c2 := h.c2; have c3 := h.c3; have c4 := h.c4; have c5 := h.c5; go_simp⟩) hHeld ?_
  try simp only [Act.put, List.setIfInBounds_toArray, List.set_cons_zero, List.set_cons_succ]
  refine take_at (i := 1) (v := .slice (some ⟨g0 + 1, 0, none⟩) 4 4) rfl rfl (by kernel_rfl) (by kernel_rfl) (by kernel_rfl) (fun _ _ _ h => h) (Or.inl ⟨by rfl, fun X _ => by go_simp⟩) hHeld ?_
  try simp only [Act.put, List.setIfInBounds_toArray, List.set_cons_zero, List.set_cons_succ]
  refine wpAnyH_ready (rs := [2]) (by kernel_rfl) (by simp) ?_
  refine AllReadyH.cons rfl (fun K hK => ?_) AllReadyH.nil
  rw [if_pos (by rfl)]
  go_wp2_with fail
  refine (wrows_is (.slice none 0 0) wholeP (.slice (some ⟨g0 + 1, 0, none⟩) 4 4) (g0 + 1) wholeI _ (opsIn_nil _) whole_right (by decide) (hI.out.below hHeld) (by have := hHeld.size; omega) (by decide)).mono ?_
  rintro e V2 ⟨u1, rfl, hu1, hb⟩
  rw [whole_rows] at hu1
  obtain ⟨ua1, uc1, rfl⟩ := own_len' hu1
  clear hu1
  have hHb := below_call hHeld hb
  clear hHeld hb
  go_wp2_with fail
  refine hK.out _ _ (hHb) (fun hHeld => ?_)
  clear hK K hHb
  try simp only [Act.put, List.setIfInBounds_toArray, List.set_cons_zero, List.set_cons_succ]
  refine take_at (i := 3) (v := .int .i64 2) rfl rfl (by kernel_rfl) (by kernel_rfl) (by kernel_rfl) (fun _ _ _ h => h) (Or.inl ⟨by rfl, fun X _ => by go_simp⟩) hHeld ?_
  try simp only [Act.put, List.setIfInBounds_toArray, List.set_cons_zero, List.set_cons_succ]
  refine take_at (i := 4) (v := .bool true) rfl rfl (by kernel_rfl) (by kernel_rfl) (by kernel_rfl) (fun _ _ _ h => h) (Or.inl ⟨by rfl, fun X _ => by go_simp⟩) hHeld ?_
  try simp only [Act.put, List.setIfInBounds_toArray, List.set_cons_zero, List.set_cons_succ]
  refine take_at (i := 5) (v := .bool true) rfl rfl (by kernel_rfl) (by kernel_rfl) (by kernel_rfl) (fun _ _ _ h => h) (Or.inl ⟨by rfl, fun X _ => by go_simp⟩) hHeld ?_
  try simp only [Act.put, List.setIfInBounds_toArray, List.set_cons_zero, List.set_cons_succ]
  refine take_at (i := 6) (v := O.pv (.slice none 0 0) 10 10 2 (-1) (-1)) rfl rfl (by kernel_rfl) (by kernel_rfl) (by kernel_rfl) (fun _ _ _ h => h) (Or.inl ⟨by rfl, fun X hX => by have h := hP.out.call hX; have c0 := h.c0; have c1 := h.c1; have c2 := h.c2; have c3 := h.c3; have c4 := h.c4; have c5 := h.c5; go_simp⟩) hHeld ?_
  try simp only [Act.put, List.setIfInBounds_toArray, List.set_cons_zero, List.set_cons_succ]
  refine take_at (i := 7) (v := .slice (some ⟨g0 + 1, 0, none⟩) 4 4) rfl rfl (by kernel_rfl) (by kernel_rfl) (by kernel_rfl) (fun _ _ _ h => h) (Or.inl ⟨by rfl, fun X _ => by go_simp⟩) hHeld ?_
  try simp only [Act.put, List.setIfInBounds_toArray, List.set_cons_zero, List.set_cons_succ]
  refine wpAnyH_ready (rs := [8]) (by kernel_rfl) (by simp) ?_
  refine AllReadyH.cons rfl (fun K hK => ?_) AllReadyH.nil
  rw [if_pos (by rfl)]
  go_wp2_with fail
  refine (wpast_is (.slice none 0 0) wholeP (.slice (some ⟨g0 + 1, 0, none⟩) 4 4) (g0 + 1) wholeI true _ (opsIn_nil _) whole_right (by decide) (hI.out.below hHeld) (by have := hHeld.size; omega) (by decide) whole_past).mono ?_
  rintro e V3 ⟨rfl, hb⟩
  have hHb := below_call hHeld hb
  clear hHeld hb
  go_wp2_with fail
  refine hK.out _ _ (hHb) (fun hHeld => ?_)
  clear hK K hHb
  try simp only [Act.put, List.setIfInBounds_toArray, List.set_cons_zero, List.set_cons_succ]
  refine take_at (i := 9) (v := .bool true) rfl rfl (by kernel_rfl) (by kernel_rfl) (by kernel_rfl) (fun _ _ _ h => h) (Or.inl ⟨by rfl, fun X _ => by go_simp⟩) hHeld ?_
  try simp only [Act.put, List.setIfInBounds_toArray, List.set_cons_zero, List.set_cons_succ]
  refine take_at (i := 10) (v := .bool true) rfl rfl (by kernel_rfl) (by kernel_rfl) (by kernel_rfl) (fun _ _ _ h => h) (Or.inl ⟨by rfl, fun X _ => by go_simp⟩) hHeld ?_
  try simp only [Act.put, List.setIfInBounds_toArray, List.set_cons_zero, List.set_cons_succ]
  refine take_at (i := 11) (v := O.pv (.slice none 0 0) 10 10 2 (-1) (-1)) rfl rfl (by kernel_rfl) (by kernel_rfl) (by kernel_rfl) (fun _ _ _ h => h) (Or.inl ⟨by rfl, fun X hX => by have h := hP.out.call hX; have c0 := h.c0; have c1 := h.c1; have c2 := h.c2; have c3 := h.c3; have c4 := h.c4; have c5 := h.c5; go_simp⟩) hHeld ?_
  try simp only [Act.put, List.setIfInBounds_toArray, List.set_cons_zero, List.set_cons_succ]
  refine take_at (i := 12) (v := .slice (some ⟨g0 + 1, 0, none⟩) 4 4) rfl rfl (by kernel_rfl) (by kernel_rfl) (by kernel_rfl) (fun _ _ _ h => h) (Or.inl ⟨by rfl, fun X _ => by go_simp⟩) hHeld ?_
  try simp only [Act.put, List.setIfInBounds_toArray, List.set_cons_zero, List.set_cons_succ]
  refine take_at (i := 13) (v := .slice (some ⟨g0 + 1, 0, none⟩) 3 4) rfl rfl (by kernel_rfl) (by kernel_rfl) (by kernel_rfl) (fun _ _ _ h => h) (Or.inl ⟨by rfl, fun X _ => by go_simp⟩) hHeld ?_
  try simp only [Act.put, List.setIfInBounds_toArray, List.set_cons_zero, List.set_cons_succ]
  refine wpAnyH_ready (rs := [14]) (by kernel_rfl) (by simp) ?_
  refine AllReadyH.cons rfl (fun K hK => ?_) AllReadyH.nil
  rw [if_pos (by rfl)]
  go_wp2_with fail
  refine (wrows_is (.slice none 0 0) wholeP (.slice (some ⟨g0 + 1, 0, none⟩) 3 4) (g0 + 1) wholeJ _ (opsIn_nil _) whole_right (by decide) (hJ.out.below hHeld) (by have := hHeld.size; omega) (by decide)).mono ?_
  rintro e V4 ⟨u2, rfl, hu2, hb⟩
  rw [whole_rows3] at hu2
  obtain ⟨ua2, uc2, rfl⟩ := own_len' hu2
  clear hu2
  have hHb := below_call hHeld hb
  clear hHeld hb
  go_wp2_with fail
  refine hK.out _ _ (hHb) (fun hHeld => ?_)
  clear hK K hHb
  try simp only [Act.put, List.setIfInBounds_toArray, List.set_cons_zero, List.set_cons_succ]
  refine take_at (i := 15) (v := .int .i64 1) rfl rfl (by kernel_rfl) (by kernel_rfl) (by kernel_rfl) (fun _ _ _ h => h) (Or.inl ⟨by rfl, fun X _ => by go_simp⟩) hHeld ?_
  try simp only [Act.put, List.setIfInBounds_toArray, List.set_cons_zero, List.set_cons_succ]
  refine take_at (i := 16) (v := .bool true) rfl rfl (by kernel_rfl) (by kernel_rfl) (by kernel_rfl) (fun _ _ _ h => h) (Or.inl ⟨by rfl, fun X _ => by go_simp⟩) hHeld ?_
  try simp only [Act.put, List.setIfInBounds_toArray, List.set_cons_zero, List.set_cons_succ]
  refine take_at (i := 17) (v := .bool true) rfl rfl (by kernel_rfl) (by kernel_rfl) (by kernel_rfl) (fun _ _ _ h => h) (Or.inl ⟨by rfl, fun X _ => by go_simp⟩) hHeld ?_
  try simp only [Act.put, List.setIfInBounds_toArray, List.set_cons_zero, List.set_cons_succ]
  refine take_at (i := 18) (v := .bool true) rfl rfl (by kernel_rfl) (by kernel_rfl) (by kernel_rfl) (fun _ _ _ h => h) (Or.inl ⟨by rfl, fun X _ => by go_simp⟩) hHeld ?_
  try simp only [Act.put, List.setIfInBounds_toArray, List.set_cons_zero, List.set_cons_succ]
  refine take_at (i := 19) (v := O.pv (.slice none 0 0) 10 10 2 (-1) (-1)) rfl rfl (by kernel_rfl) (by kernel_rfl) (by kernel_rfl) (fun _ _ _ h => h) (Or.inl ⟨by rfl, fun X hX => by have h := hP.out.call hX; have c0 := h.c0; have c1 := h.c1; have c2 := h.c2; have c3 := h.c3; have c4 := h.c4; have c5 := h.c5; go_simp⟩) hHeld ?_
  try simp only [Act.put, List.setIfInBounds_toArray, List.set_cons_zero, List.set_cons_succ]
  refine take_at (i := 20) (v := .slice (some ⟨g0 + 1, 0, none⟩) 4 4) rfl rfl (by kernel_rfl) (by kernel_rfl) (by kernel_rfl) (fun _ _ _ h => h) (Or.inl ⟨by rfl, fun X _ => by go_simp⟩) hHeld ?_
  try simp only [Act.put, List.setIfInBounds_toArray, List.set_cons_zero, List.set_cons_succ]
  refine take_at (i := 21) (v := .slice (some ⟨g0 + 1, 0, none⟩) 3 4) rfl rfl (by kernel_rfl) (by kernel_rfl) (by kernel_rfl) (fun _ _ _ h => h) (Or.inl ⟨by rfl, fun X _ => by go_simp⟩) hHeld ?_
  try simp only [Act.put, List.setIfInBounds_toArray, List.set_cons_zero, List.set_cons_succ]
  refine wpAnyH_ready (rs := [22]) (by kernel_rfl) (by simp) ?_
  refine AllReadyH.cons rfl (fun K hK => ?_) AllReadyH.nil
  rw [if_pos (by rfl)]
  go_wp2_with fail
  refine (wpast_is (.slice none 0 0) wholeP (.slice (some ⟨g0 + 1, 0, none⟩) 3 4) (g0 + 1) wholeJ false _ (opsIn_nil _) whole_right (by decide) (hJ.out.below hHeld) (by have := hHeld.size; omega) (by decide) whole_past3).mono ?_
  rintro e V5 ⟨rfl, hb⟩
  have hHb := below_call hHeld hb
  clear hHeld hb
  go_wp2_with fail
  refine hK.out _ _ (hHb) (fun hHeld => ?_)
  clear hK K hHb
  try simp only [Act.put, List.setIfInBounds_toArray, List.set_cons_zero, List.set_cons_succ]
  refine take_at (i := 23) (v := .bool true) rfl rfl (by kernel_rfl) (by kernel_rfl) (by kernel_rfl) (fun _ _ _ h => h) (Or.inl ⟨by rfl, fun X _ => by go_simp⟩) hHeld ?_
  try simp only [Act.put, List.setIfInBounds_toArray, List.set_cons_zero, List.set_cons_succ]
  refine take_at (i := 24) (v := .bool true) rfl rfl (by kernel_rfl) (by kernel_rfl) (by kernel_rfl) (fun _ _ _ h => h) (Or.inl ⟨by rfl, fun X _ => by go_simp⟩) hHeld ?_
  try simp only [Act.put, List.setIfInBounds_toArray, List.set_cons_zero, List.set_cons_succ]
  refine take_at (i := 25) (v := .bool true) rfl rfl (by kernel_rfl) (by kernel_rfl) (by kernel_rfl) (fun _ _ _ h => h) (Or.inl ⟨by rfl, fun X _ => by go_simp⟩) hHeld ?_
  try simp only [Act.put, List.setIfInBounds_toArray, List.set_cons_zero, List.set_cons_succ]
  refine take_at (i := 26) (v := .slice (some ⟨g0 + 1, 0, none⟩) 4 4) rfl rfl (by kernel_rfl) (by kernel_rfl) (by kernel_rfl) (fun _ _ _ h => h) (Or.inl ⟨by rfl, fun X _ => by go_simp⟩) hHeld ?_
  try simp only [Act.put, List.setIfInBounds_toArray, List.set_cons_zero, List.set_cons_succ]
  refine wpAnyH_ready (rs := [27]) (by kernel_rfl) (by simp) ?_
  refine AllReadyH.cons rfl (fun K hK => ?_) AllReadyH.nil
  rw [if_pos (by rfl)]
  go_wp2_with fail
  refine (labels_is (.slice (some ⟨g0 + 1, 0, none⟩) 4 4) (g0 + 1) wholeI _ (hI.out.below hHeld)).mono ?_
  rintro e V6 ⟨rfl, hb⟩
  have hHb := below_call hHeld hb
  clear hHeld hb
  go_wp2_with fail
  refine hK.out _ _ (hHb) (fun hHeld => ?_)
  clear hK K hHb
  try simp only [Act.put, List.setIfInBounds_toArray, List.set_cons_zero, List.set_cons_succ]
  refine take_at (i := 28) (v := .bool true) rfl rfl (by kernel_rfl) (by kernel_rfl) (by kernel_rfl) (fun _ _ _ h => h) (Or.inl ⟨by rfl, fun X _ => by rw [whole_labs]; go_simp⟩) hHeld ?_
  try simp only [Act.put, List.setIfInBounds_toArray, List.set_cons_zero, List.set_cons_succ]
  refine take_at (i := 29) (v := .bool true) rfl rfl (by kernel_rfl) (by kernel_rfl) (by kernel_rfl) (fun _ _ _ h => h) (Or.inl ⟨by rfl, fun X _ => by go_simp⟩) hHeld ?_
  try simp only [Act.put, List.setIfInBounds_toArray, List.set_cons_zero, List.set_cons_succ]
  refine take_at (i := 30) (v := .bool true) rfl rfl (by kernel_rfl) (by kernel_rfl) (by kernel_rfl) (fun _ _ _ h => h) (Or.inl ⟨by rfl, fun X _ => by go_simp⟩) hHeld ?_
  try simp only [Act.put, List.setIfInBounds_toArray, List.set_cons_zero, List.set_cons_succ]
  refine wpAnyH_done (by kernel_rfl) ?_ _
  go_wp2_with fail
  go_ret
  exact ⟨rfl, by rw [hg1.out]; exact hB.out.trans (hHeld.mono (by have := hB.out.size; have := hg1.out; omega))⟩
end Go.Proofs.Ytombgbdplafooaa
/- slices.Equal of rows; whole.Prefix. -/
namespace Go.Proofs.Ytombgbdplafooaa
open Go.RowKit M
set_option linter.unusedVariables false
set_option linter.unusedSimpArgs false
attribute [local go_sem ↓] Go.wp_at_zero Go.wp_at_succ

theorem take_snocP (L : List Pn) (k : Nat) (h : k < L.length) : L.take (k + 1) = L.take k ++ [pAt L k] := by
  rw [List.take_succ_eq_append_getElem h]
  simp [pAt, List.getD_eq_getElem?_getD, h]
theorem take_sameP (z1 z2 : List Pn) (k : Nat) (h1 : k < z1.length) (h2 : k < z2.length) (a : Pn) (e1 : pAt z1 k = a) (e2 : pAt z2 k = a) (h : z1.take k = z2.take k) : z1.take (k + 1) = z2.take (k + 1) := by
  rw [take_snocP z1 k h1, take_snocP z2 k h2, e1, e2, h]
/-- The first rows of a list. -/
theorem RdR.take {w : World} {ao : Option Addr} {n cap m : Nat} {L : List Pn} (h : RdR w (.slice ao n cap) L) (hm : m ≤ L.length) : RdR w (.slice ao m cap) (L.take m) := by
  obtain ⟨h1, ao', cap', e, h2, h3, hc⟩ := h
  injection e with e1 e2 e3
  subst e1 e2 e3
  have hl : (L.take m).length = m := by rw [List.length_take]; omega
  refine ⟨by omega, ao, cap, by rw [hl], by omega, h3, fun hn => ?_⟩
  obtain ⟨b, off, rfl, hb, hcell⟩ := hc (by omega)
  refine ⟨b, off, rfl, hb, fun j hj => ?_⟩
  have e : pAt (L.take m) j = pAt L j := by
    unfold pAt
    rw [List.getD_eq_getElem?_getD, List.getD_eq_getElem?_getD, List.getElem?_take, if_pos (by omega)]
  rw [e]
  exact hcell j (by omega)
theorem RdR.form {w : World} {v : Value} {L : List Pn} (h : RdR w v L) : ∃ ao cap, v = .slice ao L.length cap ∧ L.length ≤ cap ∧ cap ≤ 9223372036854775807 := by
  obtain ⟨_, ao, cap, h2, h3, h4, _⟩ := h
  exact ⟨ao, cap, h2, h3, h4⟩
theorem rdr_nil (w : World) : RdR w (.slice none 0 0) [] := ⟨by simp, none, 0, rfl, by simp, by simp, by simp⟩
set_option maxHeartbeats 2000000 in
set_option maxRecDepth 100000 in
/-- slices.Equal of rows. -/
theorem equal_r (v1 v2 : Value) (z1 z2 : List Pn) (w : World) (p : Bool) (h1 : RdR w v1 z1) (h2 : RdR w v2 z2) (hp : p = true ↔ z1 = z2) :
    Calls Try.prog 67 #[v1, v2] w fun e w' => e = .returned (.bool p) ∧ Below w.heap.size w w' := by
  have hp' : Hid (p = true ↔ z1 = z2) := hp
  clear hp
  obtain ⟨hl1, ao, cap, rfl, _, _, hc0⟩ := h1
  obtain ⟨hl2, ao2, cap2, rfl, _, _, hc2⟩ := h2
  by_cases hne : z1.length = z2.length
  · rw [← hne] at hc2 hl2 ⊢
    have hc' : Hid (z1.length ≠ 0 → ∃ b off, ao = some ⟨b, off, none⟩ ∧ b < w.heap.size ∧ ∀ j, j < z1.length → RwAt w b (off + j * 5) (pAt z1 j)) := hc0
    have hd' : Hid (z1.length ≠ 0 → ∃ b off, ao2 = some ⟨b, off, none⟩ ∧ b < w.heap.size ∧ ∀ j, j < z1.length → RwAt w b (off + j * 5) (pAt z2 j)) := hc2
    have hne' : Hid (z1.length = z2.length) := hne
    clear hc0 hc2 hne hl2
    obtain ⟨m, hm⟩ : ∃ m, Hid (z1.length = m) := ⟨_, rfl⟩
    rw [hm.out] at hc' hd' hl1 hne' ⊢
    go_enter Try.func67, Try.ntmps67
    go_wp2_with fail
    go_loopw [13] (fun i wr => ∃ k n : Nat, k ≤ m ∧ i = .int .i64 k ∧ wr = w.drewN n ∧ Hid (z1.take k = z2.take k)) (fun i _ => m - (intOf i).toNat)
    case atStart => exact ⟨0, 0, Nat.zero_le _, rfl, rfl, rfl⟩
    case round =>
      obtain ⟨k, n, hk, rfl, rfl, hs⟩ := hrel
      by_cases hlt : k < m
      · obtain ⟨b, off, rfl, _, hc⟩ := hc'.out (by omega)
        obtain ⟨b2, off2, rfl, _, hd⟩ := hd'.out (by omega)
        obtain ⟨p0, p1, p2, p3, p4⟩ := hc k hlt
        obtain ⟨q0, q1, q2, q3, q4⟩ := hd k hlt
        clear hc hd hc' hd'
        obtain ⟨⟨x1, x2, x3, x4, x5⟩, hx⟩ : ∃ x, Hid (pAt z1 k = x) := ⟨_, rfl⟩
        obtain ⟨⟨y1, y2, y3, y4, y5⟩, hy⟩ : ∃ x, Hid (pAt z2 k = x) := ⟨_, rfl⟩
        rw [hx.out] at p0 p1 p2 p3 p4
        rw [hy.out] at q0 q1 q2 q3 q4
        simp only at p0 p1 p2 p3 p4 q0 q1 q2 q3 q4
        by_cases hxx : (⟨x1, x2, x3, x4, x5⟩ : Pn) = ⟨y1, y2, y3, y4, y5⟩
        · have hs2 : Hid (z1.take (k + 1) = z2.take (k + 1)) := take_sameP z1 z2 k (by have := hm.out; omega) (by have := hne'.out; omega) ⟨x1, x2, x3, x4, x5⟩ hx.out (hy.out.trans hxx.symm) hs.out
          injection hxx with e1 e2 e3 e4 e5
          subst e1 e2 e3 e4 e5
          clear hx hy hs
          go_wp2_with fail
          go_quiet (fail)
          go_wp2_with fail
          go_roundw
          case rel => exact ⟨k + 1, n + nq, by omega, by go_num, rfl, hs2⟩
          case measure => simp [intOf]; omega
        · have hd : Hid (p = false) := by
            have h : p = false := by
              rw [Bool.eq_false_iff]
              intro h
              have e := hp'.out.1 h
              rw [e, hy.out] at hx
              exact hxx hx.out.symm
            exact h
          have hxx' : Hid (¬ (⟨x1, x2, x3, x4, x5⟩ : Pn) = ⟨y1, y2, y3, y4, y5⟩) := hxx
          clear hx hy hs hxx
          by_cases hx1 : x1 = y1
          · subst hx1
            by_cases hx2 : x2 = y2
            · subst hx2
              by_cases hx4 : x4 = y4
              · subst hx4
                by_cases hx3 : x3 = y3
                · subst hx3
                  by_cases hx5 : x5 = y5
                  · subst hx5
                    exact absurd rfl hxx'.out
                  · have hx0 : ((x5 : Int) == (y5 : Int)) = false := by simp only [beq_eq_false_iff_ne, ne_eq]; omega
                    clear hxx'
                    go_wp2_with fail
                    go_quiet (fail)
                    go_wp2_with fail
                    go_ret
                    exact ⟨ret_bool hd.out.symm, below_drewN (below_drewN (Below.refl _ _) _) _⟩
                · have hx0 : (x3 == y3) = false := by simpa using hx3
                  clear hxx'
                  go_wp2_with fail
                  go_quiet (fail)
                  go_wp2_with fail
                  go_ret
                  exact ⟨ret_bool hd.out.symm, below_drewN (below_drewN (Below.refl _ _) _) _⟩
              · have hx0 : (x4 == y4) = false := by simpa using hx4
                clear hxx'
                go_wp2_with fail
                go_quiet (fail)
                go_wp2_with fail
                go_ret
                exact ⟨ret_bool hd.out.symm, below_drewN (below_drewN (Below.refl _ _) _) _⟩
            · have hx0 : (x2 == y2) = false := by simpa using hx2
              clear hxx'
              go_wp2_with fail
              go_quiet (fail)
              go_wp2_with fail
              go_ret
              exact ⟨ret_bool hd.out.symm, below_drewN (below_drewN (Below.refl _ _) _) _⟩
          · have hx0 : (x1 == y1) = false := by simpa using hx1
            clear hxx'
            go_wp2_with fail
            go_quiet (fail)
            go_wp2_with fail
            go_ret
            exact ⟨ret_bool hd.out.symm, below_drewN (below_drewN (Below.refl _ _) _) _⟩
      · have hd : Hid (p = true) := by
          have h : p = true := by
            refine hp'.out.2 ?_
            have e := hs.out
            rw [List.take_of_length_le (by have := hm.out; omega), List.take_of_length_le (by have := hne'.out; omega)] at e
            exact e
          exact h
        clear hs
        go_wp2_with fail
        go_ret
        exact ⟨ret_bool hd.out.symm, below_drewN (Below.refl _ _) _⟩
  · have hd : Hid (p = false) := by
      have h : p = false := by
        rw [Bool.eq_false_iff]
        intro h
        exact hne (by rw [hp'.out.1 h])
      exact h
    have hne2 : ((z1.length : Int) != (z2.length : Int)) = true := by simp; omega
    clear hc0 hc2 hp'
    go_enter Try.func67, Try.ntmps67
    go_wp2_with fail
    go_ret
    exact ⟨ret_bool hd.out.symm, Below.refl _ _⟩
theorem prefix_iff {a b : List Pn} (h : a.length ≤ b.length) : a <+: b ↔ a = b.take a.length := List.prefix_iff_eq_take
set_option maxHeartbeats 2000000 in
set_option maxRecDepth 100000 in
/-- whole.Prefix. -/
theorem prefix_is (v1 v2 : Value) (z1 z2 : List Pn) (w : World) (p : Bool) (h1 : RdR w v1 z1) (h2 : RdR w v2 z2) (hp : p = true ↔ z1 <+: z2) :
    Calls Try.prog 46 #[v1, v2] w fun e w' => e = .returned (.bool p) ∧ Below w.heap.size w w' := by
  obtain ⟨ao, cap, rfl, hl1, hm1⟩ := h1.form
  obtain ⟨ao2, cap2, rfl, hl2, hm2⟩ := h2.form
  have h1' : Hid (RdR w (.slice ao z1.length cap) z1) := h1
  have h2' : Hid (RdR w (.slice ao2 z2.length cap2) z2) := h2
  by_cases hle : z1.length ≤ z2.length
  · have hp2 : Hid (p = true ↔ z1 = z2.take z1.length) := hp.trans (prefix_iff hle)
    have h3' : Hid (RdR w (.slice ao2 z1.length cap2) (z2.take z1.length)) := h2.take hle
    clear hp h1 h2 h2'
    obtain ⟨m, hm⟩ : ∃ m, Hid (z1.length = m) := ⟨_, rfl⟩
    obtain ⟨n, hn⟩ : ∃ n, Hid (z2.length = n) := ⟨_, rfl⟩
    rw [hm.out] at h1' h3' hle hl1 hp2 ⊢
    rw [hn.out] at hle hl2 ⊢
    have hle2 : ((m : Int) ≤ (n : Int)) := by omega
    go_enter Try.func46, Try.ntmps46
    go_wp2_with fail
    refine (equal_r _ _ z1 (z2.take m) _ p h1'.out h3'.out hp2.out).mono ?_
    rintro e W1 ⟨rfl, b1⟩
    go_wp2_with fail
    go_ret
    exact ⟨rfl, b1⟩
  · have hd : Hid (p = false) := by
      have h : p = false := by
        rw [Bool.eq_false_iff]
        intro h
        exact hle (hp.1 h).length_le
      exact h
    have hle2 : ¬ ((z1.length : Int) ≤ (z2.length : Int)) := by omega
    clear hp h1 h2 h1' h2'
    go_enter Try.func46, Try.ntmps46
    go_wp2_with fail
    go_ret
    exact ⟨ret_bool hd.out.symm, Below.refl _ _⟩
end Go.Proofs.Ytombgbdplafooaa
/- What the walks over package whole carry from call to call. -/
namespace Go.Proofs.Ytombgbdplafooaa
open Go.RowKit M
open O (RdO Kpk Pik Small Ints)
open O.MO (Oq Pq rightP)
set_option linter.unusedVariables false
set_option linter.unusedSimpArgs false

/-- The first inputs of a list. -/
theorem RdI.take {w : World} {ao : Option Addr} {n cap m qb : Nat} {is : List Inp} (h : RdI w (.slice ao n cap) qb is) (hm : m ≤ is.length) : RdI w (.slice ao m cap) qb (is.take m) := by
  obtain ⟨h1, h2, ao', cap', e, h3, h4, hc⟩ := h
  injection e with e1 e2 e3
  subst e1 e2 e3
  have hl : (is.take m).length = m := by rw [List.length_take]; omega
  refine ⟨by omega, fun i hi => h2 i (List.mem_of_mem_take hi), ao, cap, by rw [hl], by omega, h4, fun hn => ?_⟩
  obtain ⟨off, rfl, hb, hcell⟩ := hc (by omega)
  refine ⟨off, rfl, hb, fun j hj => ?_⟩
  have e : iAt (is.take m) j = iAt is j := by
    unfold iAt
    rw [List.getD_eq_getElem?_getD, List.getD_eq_getElem?_getD, List.getElem?_take, if_pos (by omega)]
  rw [e]
  exact hcell j (by omega)
theorem RdI.caps {w : World} {ao : Option Addr} {n cap qb : Nat} {is : List Inp} (h : RdI w (.slice ao n cap) qb is) : n = is.length ∧ n ≤ cap ∧ cap ≤ 9223372036854775807 := by
  obtain ⟨h1, h2, ao', cap', e, h3, h4, hc⟩ := h
  injection e with e1 e2 e3
  subst e1 e2 e3
  exact ⟨rfl, h3, h4⟩
theorem RdR.caps {w : World} {ao : Option Addr} {n cap : Nat} {L : List Pn} (h : RdR w (.slice ao n cap) L) : n = L.length ∧ n ≤ cap ∧ cap ≤ 9223372036854775807 := by
  obtain ⟨h1, ao', cap', e, h3, h4, hc⟩ := h
  injection e with e1 e2 e3
  subst e1 e2 e3
  exact ⟨rfl, h3, h4⟩
/-- The pipe in its block, its operations, the inputs, and that nothing else has turned. -/
structure WE (w0 W : World) (g0 gp : Nat) (u : Value) (p : Pq) (qi : Nat) (iv : Value) (is : List Inp) : Prop where
  P : Pik W gp u p.n p.s p.a p.k p.f
  O : OpsIn W u p.os
  I : RdI W iv qi is
  B : Below g0 w0 W
  hg : g0 ≤ gp
  hp : gp < W.heap.size
  hq : qi ≤ W.heap.size
section
variable {w0 W W' : World} {g0 gp : Nat} {u : Value} {p : Pq} {qi : Nat} {iv : Value} {is : List Inp}
theorem WE.call (h : WE w0 W g0 gp u p qi iv is) (hb : Below W.heap.size W W') : WE w0 W' g0 gp u p qi iv is := by
  have hz := hb.size
  exact ⟨h.P.call hb, h.O.below hb, h.I.below hb, h.B.trans (hb.mono (by have := h.hg; have := h.hp; omega)), h.hg, by have := h.hp; omega, by have := h.hq; omega⟩
theorem WE.alloc (h : WE w0 W g0 gp u p qi iv is) (o : Obj) : WE w0 (W.alloc o) g0 gp u p qi iv is := h.call (below_alloc _ _)
theorem WE.size (h : WE w0 W g0 gp u p qi iv is) : g0 < W.heap.size := by have := h.hg; have := h.hp; omega
/-- A block of the call's own, behind all of them, turns. -/
theorem WE.keep (h : WE w0 W g0 gp u p qi iv is) {b : Nat} (hb : Below b W W') (hz : W.heap.size ≤ W'.heap.size) (h1 : gp < b) (h2 : ∀ k, u.ownBlock = some k → k < b) (h3 : qi < b) (hbw : b ≤ W.heap.size) : WE w0 W' g0 gp u p qi iv is := by
  refine ⟨(hb.block gp h1).trans h.P, h.O.keep (fun k hk _ => hb.block k (h2 k hk)), h.I.keep hz (fun _ => hb.block qi h3), h.B.trans (hb.mono (by have := h.hg; omega)), h.hg, by have := h.hp; omega, by have := h.hq; omega⟩
end
theorem own_emptyI (w : World) (B g : Nat) (hB : B ≤ w.heap.size) (hg : w.heap.size = g) : (w.alloc (.cells #[] 71)).ownsRow B 71 5 (.slice (some ⟨g, 0, none⟩) 0 0) 0 (ins []) := by
  subst hg
  exact O.own_base (World.ownsRow_lit w #[] 0 (Nat.le_refl _) (by unfold maxLen; omega) (by simp)) hB
theorem own_emptyR (w : World) (B g : Nat) (hB : B ≤ w.heap.size) (hg : w.heap.size = g) : (w.alloc (.cells #[] 45)).ownsRow B 45 5 (.slice (some ⟨g, 0, none⟩) 0 0) 0 (rcs []) := by
  subst hg
  exact O.own_base (World.ownsRow_lit w #[] 0 (Nat.le_refl _) (by unfold maxLen; omega) (by simp)) hB
theorem small_n {p : Pq} (h : Small p) : p.n ≤ 48 := by obtain ⟨h1, h2, h3, h4, h5, h6, _⟩ := h; omega
theorem good_t {is : List Inp} (h : ∀ i ∈ is, Good i) : ∀ i ∈ is, i.e.t ≤ 160 := fun i hi => by
  rcases h i hi with h | h
  · exact h.2.2.1
  · have := h.2.2.1; omega
theorem good_l {is : List Inp} (h : ∀ i ∈ is, Good i) : ∀ i ∈ is, i.e.l < 18446744073709551616 := fun i hi => (h i hi).lt
theorem end_l {is : List Inp} (h : ∀ i ∈ is, i.e.l < 18446744073709551616) : ∀ i ∈ is ++ [endI], i.e.l < 18446744073709551616 := fun i hi => by
  rcases List.mem_append.1 hi with hi | hi
  · exact h i hi
  · rw [List.mem_singleton.1 hi]; decide
theorem pre_self (a : List Pn) : (true = true) ↔ a <+: a := ⟨fun _ => List.prefix_refl a, fun _ => rfl⟩
theorem pre_nil (a : List Pn) : (true = true) ↔ ([] : List Pn) <+: a := ⟨fun _ => List.nil_prefix, fun _ => rfl⟩
theorem pre_yes {a b : List Pn} (h : a <+: b) : (true = true) ↔ a <+: b := ⟨fun _ => h, fun _ => rfl⟩
theorem pre_no {a b : List Pn} (h : ¬ a <+: b) : (false = true) ↔ a <+: b := ⟨(fun h1 => by cases h1), fun h2 => absurd h2 h⟩
theorem Rok.lt {w : World} {b : Nat} {p : Pn} (h : Rok w b p) : b < w.heap.size := (Array.getElem?_eq_some_iff.1 h).1
theorem Rok.keep {w w' : World} {b : Nat} {p : Pn} (h : Rok w b p) (hb : w'.heap[b]? = w.heap[b]?) : Rok w' b p := hb.trans h
/- Labels within labels, as bits. -/
theorem sub_and {a b : Nat} (h : Sub a b) (ha : a < 18446744073709551616) (hb : b < 18446744073709551616) : a &&& (18446744073709551615 - b) = 0 := by
  have e : 18446744073709551615 - b = 2 ^ 64 - (b + 1) := by omega
  rw [e]
  apply Nat.eq_of_testBit_eq
  intro i
  rw [Nat.testBit_and, Nat.zero_testBit, Nat.testBit_two_pow_sub_succ (show b < 2 ^ 64 by simpa using hb)]
  have h1 := congrArg (Nat.testBit · i) (show a ||| b = b from h)
  simp only [Nat.testBit_or] at h1
  cases h2 : a.testBit i with
  | false => rfl
  | true =>
    rw [h2, Bool.true_or] at h1
    rw [← h1]; simp
theorem sub_bits {a b : Nat} (h : Sub a b) (ha : a < 18446744073709551616) (hb : b < 18446744073709551616) : bits .andNot .u64 (a : Int) (b : Int) = 0 := by
  rw [u64_andNot_nat a b ha hb, sub_and h ha hb]; rfl
theorem sub_lt {a b : Nat} (h : Sub a b) (hb : b < 18446744073709551616) : a < 18446744073709551616 := by
  have h1 : a ≤ a ||| b := Nat.left_le_or
  rw [show a ||| b = b from h] at h1
  omega
/-- Rows that are read, as what is appended. -/
theorem RdR.src {w : World} {v : Value} {L : List Pn} (h : RdR w v L) : L = [] ∨ SrcN 5 w v L.length (rcs L) := by
  obtain ⟨h1, ao, cap, rfl, h2, h3, hc⟩ := h
  by_cases hn : L.length = 0
  · exact .inl (List.eq_nil_of_length_eq_zero hn)
  · obtain ⟨b, off, rfl, hb, hcell⟩ := hc hn
    refine .inr (.inr ⟨⟨b, off, none⟩, cap, rfl, by rw [rcs_len], fun j x hj => ?_⟩)
    have hjl : j < L.length * 5 := by
      have := (List.getElem?_eq_some_iff.1 hj).1
      rw [rcs_len] at this; exact this
    have hq : j / 5 < L.length := by omega
    have hr : j % 5 < 5 := Nat.mod_lt _ (by decide)
    have e : j = j / 5 * 5 + j % 5 := by omega
    have hx := rcs_at L (j / 5) (j % 5) hr hq
    rw [← e, hj] at hx
    obtain ⟨k0, k1, k2, k3, k4⟩ := hcell (j / 5) hq
    have ha : (⟨b, off, none⟩ : Addr).add j = ⟨b, off + (j / 5) * 5 + j % 5, none⟩ := by
      have e2 : off + j / 5 * 5 + j % 5 = off + j := by omega
      rw [e2]; simp [Addr.add]
    rw [ha]
    have h5 : j % 5 = 0 ∨ j % 5 = 1 ∨ j % 5 = 2 ∨ j % 5 = 3 ∨ j % 5 = 4 := by omega
    rcases h5 with h5 | h5 | h5 | h5 | h5 <;> rw [h5] at hx ⊢ <;> simp only [rcell] at hx <;> simp at hx <;> subst hx <;> assumption
/-- One row's count turned. -/
def cntUp (L : List Pn) (i : Nat) : List Pn := L.set i ⟨(pAt L i).s, (pAt L i).k, wrap64 ((pAt L i).c + 1), (pAt L i).v, (pAt L i).l⟩
theorem cntUp_len (L : List Pn) (i : Nat) : (cntUp L i).length = L.length := by simp [cntUp]
theorem cntUp_at (L : List Pn) (i j : Nat) (hj : j < L.length) : pAt (cntUp L i) j = if j = i then ⟨(pAt L i).s, (pAt L i).k, wrap64 ((pAt L i).c + 1), (pAt L i).v, (pAt L i).l⟩ else pAt L j := by
  unfold cntUp pAt
  rw [List.getD_eq_getElem?_getD, List.getElem?_set]
  by_cases h : i = j
  · subst h
    rw [if_pos rfl, if_pos hj, if_pos rfl]; rfl
  · rw [if_neg h, if_neg (fun e => h e.symm), List.getD_eq_getElem?_getD]
theorem cntUp_ne (L : List Pn) (i : Nat) (hi : i < L.length) : pAt (cntUp L i) i ≠ pAt L i := by
  rw [cntUp_at L i i hi, if_pos rfl]
  intro h
  have h2 := congrArg Pn.c h
  simp only [wrap64] at h2
  omega
theorem prefix_at {a b : List Pn} (h : a <+: b) {i : Nat} (hi : i < a.length) : pAt a i = pAt b i := by
  obtain ⟨c, rfl⟩ := h
  unfold pAt
  rw [List.getD_eq_getElem?_getD, List.getD_eq_getElem?_getD, List.getElem?_append_left hi]
theorem pAt_take (L : List Pn) (n i : Nat) (hi : i < n) : pAt (L.take n) i = pAt L i := by
  unfold pAt
  rw [List.getD_eq_getElem?_getD, List.getD_eq_getElem?_getD, List.getElem?_take, if_pos hi]
theorem cntUp_no {L : List Pn} {i n : Nat} (hi : i < L.length) (hn : i < n) : ¬ (cntUp L i).take n <+: L := by
  intro h
  have h2 := prefix_at h (i := i) (by rw [List.length_take, cntUp_len]; omega)
  rw [pAt_take _ _ _ hn] at h2
  exact cntUp_ne L i hi h2
theorem cntUp_no' {L : List Pn} {i : Nat} (hi : i < L.length) : ¬ cntUp L i <+: L := by
  have h := cntUp_no (n := L.length) hi hi
  rwa [List.take_of_length_le (by rw [cntUp_len]; exact Nat.le_refl _)] at h
theorem cntUp_yes (L : List Pn) (i : Nat) : (cntUp L i).take i <+: L := by
  have h : (cntUp L i).take i = L.take i := by unfold cntUp; rw [List.take_set_of_le (Nat.le_refl _)]
  rw [h]; exact List.take_prefix _ _
theorem short_no {L : List Pn} {n : Nat} (hn : n < L.length) : ¬ L <+: L.take n := by
  intro h
  have := h.length_le
  rw [List.length_take] at this
  omega
/-- Rows of the call's own, in their block, and one row's count turned there. -/
theorem own_rows_some {w : World} {B n : Nat} {v : Value} {L : List Pn} (h : w.ownsRow B 45 5 v n (rcs L)) (hn : 0 < L.length) : ∃ g cap, v = .slice (some ⟨g, 0, none⟩) L.length cap ∧ B ≤ g ∧ g < w.heap.size ∧ L.length ≤ cap ∧ cap ≤ 9223372036854775807 ∧ (∀ j, w.frozen? ⟨g, j, none⟩ = false) ∧ ∀ j, j < L.length → RwAt w g (j * 5) (pAt L j) := by
  have hl := rows_own h
  subst hl
  have h' := h
  obtain ⟨_, h | ⟨g, cap, cur, rfl, hb, hh, hn2, hm, hs, ht⟩⟩ := h
  · omega
  · unfold maxLen at hm
    refine ⟨g, cap, rfl, hb, (Array.getElem?_eq_some_iff.1 hh).1, hn2, by omega, fun j => by simp [World.frozen?, hh], fun j hj => ?_⟩
    have hc : ∀ r, r < 5 → w.cell? ⟨g, j * 5 + r, none⟩ = (rcell (pAt L j))[r]? := fun r hr => by
      rw [h'.cellAt (j * 5 + r) (by omega), rcs_at L j r hr hj]
    exact ⟨hc 0 (by decide), hc 1 (by decide), hc 2 (by decide), hc 3 (by decide), hc 4 (by decide)⟩
theorem rdr_up {w : World} {g cap i : Nat} {L : List Pn} (hl : L.length ≤ cap) (hc : cap ≤ 9223372036854775807) (hg : g < w.heap.size) (hat : ∀ j, j < L.length → RwAt w g (j * 5) (pAt L j)) (hi : i < L.length) :
    RdR (w.setCell ⟨g, i * 5 + 3, none⟩ (.int .i64 (wrap64 ((pAt L i).c + 1)))) (.slice (some ⟨g, 0, none⟩) L.length cap) (cntUp L i) := by
  refine ⟨by rw [cntUp_len]; omega, some ⟨g, 0, none⟩, cap, by rw [cntUp_len], by rw [cntUp_len]; exact hl, hc, fun _ => ⟨g, 0, rfl, by simpa [World.setCell] using hg, fun j hj => ?_⟩⟩
  rw [cntUp_len] at hj
  rw [cntUp_at L i j hj, Nat.zero_add]
  obtain ⟨k0, k1, k2, k3, k4⟩ := hat j hj
  by_cases h : j = i
  · subst h
    rw [if_pos rfl]
    refine ⟨(World.cell?_setCell_other _ _ _ _ (by simp)).trans k0, (World.cell?_setCell_other _ _ _ _ (by simp)).trans k1, (World.cell?_setCell_other _ _ _ _ (by simp)).trans k2, ?_, (World.cell?_setCell_other _ _ _ _ (by simp)).trans k4⟩
    exact World.cell?_setCell_same _ _ _ k3
  · rw [if_neg h]
    exact ⟨(World.cell?_setCell_other _ _ _ _ (by first | (simp; done) | (simp; omega))).trans k0, (World.cell?_setCell_other _ _ _ _ (by first | (simp; done) | (simp; omega))).trans k1, (World.cell?_setCell_other _ _ _ _ (by first | (simp; done) | (simp; omega))).trans k2, (World.cell?_setCell_other _ _ _ _ (by first | (simp; done) | (simp; omega))).trans k3, (World.cell?_setCell_other _ _ _ _ (by first | (simp; done) | (simp; omega))).trans k4⟩
end Go.Proofs.Ytombgbdplafooaa
/- Two lists of the call's own that grow side by side. -/
namespace Go.Proofs.Ytombgbdplafooaa
open Go.RowKit M
open O (RdO Kpk Pik Small Ints)
open O.MO (Oq Pq rightP)
set_option linter.unusedVariables false
set_option linter.unusedSimpArgs false

structure Two (W : World) (B : Nat) (e : TypeId) (sz : Nat) (u v : Value) (n m : Nat) (xs ys : List Value) : Prop where
  hu : W.ownsRow B e sz u n xs
  hv : W.ownsRow B e sz v m ys
  ne : ∀ k, u.ownBlock = some k → v.ownBlock ≠ some k
section
variable {W W' : World} {B : Nat} {e : TypeId} {sz : Nat} {u v u' v' : Value} {n m n' m' : Nat} {xs ys xs' ys' : List Value}
theorem two_nil (W : World) (B : Nat) (e : TypeId) (sz : Nat) : Two W B e sz (.slice none 0 0) (.slice none 0 0) 0 0 [] [] := ⟨World.ownsRow_nil _ _ _ _, World.ownsRow_nil _ _ _ _, fun k hk => by cases hk⟩
theorem Two.below (h : Two W B e sz u v n m xs ys) (hb : Below W.heap.size W W') : Two W' B e sz u v n m xs ys := ⟨own_below h.hu hb, own_below h.hv hb, h.ne⟩
theorem Two.alloc (h : Two W B e sz u v n m xs ys) (o : Obj) : Two (W.alloc o) B e sz u v n m xs ys := h.below (below_alloc _ _)
theorem Two.left (h : Two W B e sz u v n m xs ys) (hu : W'.ownsRow B e sz u' n' xs') (hg : W.grownBy W' u.ownBlock) (hf : ∀ k, u'.ownBlock = some k → u.ownBlock = some k ∨ W.heap.size ≤ k) : Two W' B e sz u' v n' m xs' ys := by
  refine ⟨hu, own_grown h.hv hg (fun k hk hk2 => h.ne k hk2 hk), fun k hk hk2 => ?_⟩
  rcases hf k hk with h1 | h1
  · exact h.ne k h1 hk2
  · have := (h.hv.lt k hk2).2; omega
theorem Two.right (h : Two W B e sz u v n m xs ys) (hv : W'.ownsRow B e sz v' m' ys') (hg : W.grownBy W' v.ownBlock) (hf : ∀ k, v'.ownBlock = some k → v.ownBlock = some k ∨ W.heap.size ≤ k) : Two W' B e sz u v' n m' xs ys' := by
  refine ⟨own_grown h.hu hg (fun k hk hk2 => h.ne k hk hk2), hv, fun k hk hk2 => ?_⟩
  rcases hf k hk2 with h1 | h1
  · exact h.ne k hk h1
  · have := (h.hu.lt k hk).2; omega
end
section
variable {w0 W W' : World} {g0 gp : Nat} {u : Value} {p : Pq} {qi : Nat} {iv : Value} {is : List Inp}
/-- The inputs' block is there. -/
theorem WE.some (h : WE w0 W g0 gp u p qi iv is) : ∃ q', WE w0 W g0 gp u p q' iv is ∧ q' < W.heap.size := by
  by_cases hn : is.length = 0
  · obtain ⟨h1, h2, ao, cap, rfl, h3, h4, hc⟩ := h.I
    exact ⟨gp, ⟨h.P, h.O, ⟨h1, h2, ao, cap, rfl, h3, h4, fun h => absurd hn h⟩, h.B, h.hg, h.hp, by have := h.hp; omega⟩, h.hp⟩
  · obtain ⟨h1, h2, ao, cap, rfl, h3, h4, hc⟩ := h.I
    obtain ⟨off, _, hq, _⟩ := hc hn
    exact ⟨qi, h, hq⟩
end
/-- What one step of a filter adds. -/
theorem filt_step (f : Inp → Bool) (is : List Inp) (j : Nat) (h : j < is.length) : (is.take (j + 1)).filter f = (is.take j).filter f ++ (if f (iAt is j) = true then [iAt is j] else []) := by
  rw [take_in is j h, List.filter_append]
  cases hf : f (iAt is j) <;> simp [hf]
theorem rowsP_step (P : Int → Bool) (L : List Pn) (j : Nat) (h : j < L.length) : rowsP P (L.take (j + 1)) = rowsP P (L.take j) ++ (if P (pAt L j).k = true then [pAt L j] else []) := by
  rw [take_snocP L j h, rowsP_append]
  cases hf : P (pAt L j).k <;> simp [rowsP, hf]
theorem filt_len (f : Inp → Bool) (is : List Inp) (j : Nat) : ((is.take j).filter f).length ≤ j := by
  have h := List.length_filter_le f (is.take j)
  rw [List.length_take] at h; omega
theorem rowsP_len (P : Int → Bool) (L : List Pn) (j : Nat) : (rowsP P (L.take j)).length ≤ j := by
  have h := List.length_filter_le (fun p : Pn => P p.k) (L.take j)
  rw [List.length_take] at h; unfold rowsP; omega
end Go.Proofs.Ytombgbdplafooaa
/- Appends and literals where the order of a region is open. -/
namespace Go.Proofs.Ytombgbdplafooaa
open Go.RowKit M
open O (RdO Kpk Pik Small Ints)
open O.MO (Oq Pq rightP)
set_option linter.unusedVariables false
set_option linter.unusedSimpArgs false

theorem step_append_srcY {P : Program} {w : World} {ops : Array Oper} {o : Oper} {a : Act} {K : Act → World → Prop} {Q : Exit → Act → World → Prop} {E : Prop} {kd : Nat} (hd : o.dst = some kd) (hgd : o.guard = none) (s x : Operand) (t : TypeId)
    (ho : o.op = .call { callee := .builtin .append, args := #[s, x], argTypes := #[t, t] })
    (sz base : Nat) (e : TypeId) (i : TypeInfo) (z : Value) (bytes : Nat) (ht : P.underlying t = some (.slice e)) (hi : P.info? e = some i) (hz : i.zero = some z)
    (hsize : i.size = sz) (hby : i.bytes = bytes) (hzs : z.cells.size = sz) (hsz : 0 < sz)
    (v : Value) (n : Nat) (xs : List Value) (hs : a.eval s = v) (hown : w.ownsRow base e sz v n xs) (u : Value) (m : Nat) (news : List Value) (hx : a.eval x = u) (hsrc : SrcN sz w u m news) (h1 : ∀ u ∈ news, u.oneCell' = true)
    (h63 : n + m ≤ maxLen) (hbytes : (n + m) * bytes ≤ 140737488355328) (hbase : base ≤ w.heap.size)
    (h : ∀ v' w', w'.ownsRow base e sz v' (n + m) (xs ++ news) → Below base w w' → w.grownBy w' v.ownBlock → (∀ k, v'.ownBlock = some k → v.ownBlock = some k ∨ w.heap.size ≤ k) → K (a.put (some kd) v') w') :
    if Region.wanted o (yielded ops a.tmps) = true then Oper.wp P o a w K Q else E := by
  have hw : Region.wanted o (yielded ops a.tmps) = true := by simp [Region.wanted, hgd]
  rw [if_pos hw]
  rw [← hd] at h
  obtain ⟨v', w', hr, h2, h3, h4⟩ := run_append_srcN (P := P) w sz base t o.type e i z bytes ht hi hz hsize hby hzs hsz v n xs hown u m news hsrc h1 h63 hbytes hbase
  have hf := append_fresh (P := P) w sz base t o.type e i z bytes ht hi hz hsize hby hzs hsz v n xs hown u m news hsrc h1 h63 hbytes v' w' hr
  unfold Oper.wp execOp
  simp only [ho, resolve, invoke, builtin, Sem.run_bind, Sem.run_pure, Result.andThen_ok, List.map_toArray, List.map_cons, List.map_nil, hs, hx, hr]
  exact h v' w' h2 h3 h4 hf
section
variable {W : World} {B : Nat} {u v : Value} {n m : Nat} {xs ys : List Value}
theorem own_apart_new {X : World} {B : Nat} {e : TypeId} {sz : Nat} {u : Value} {n : Nat} {xs : List Value} (h : X.ownsRow B e sz u n xs) {c1 c2 : Nat} : ∀ k, u.ownBlock = some k → (Value.slice (some ⟨X.heap.size, 0, none⟩) c1 c2).ownBlock ≠ some k := by
  intro k hk hk2
  have h1 := (h.lt k hk).2
  simp only [Value.ownBlock, Option.some.injEq] at hk2
  omega
theorem two_lit0L (h : Two W B 71 5 u v n m xs ys) (hB : B ≤ W.heap.size) : Two (W.alloc (.cells #[] 71)) B 71 5 (.slice (some ⟨W.heap.size, 0, none⟩) 0 0) v 0 m (ins []) ys :=
  ⟨own_emptyI W B _ hB rfl, h.hv.alloc _, fun k hk hk2 => own_apart_new h.hv k hk2 hk⟩
theorem own_lit1 (W : World) (i : Inp) (hB : B ≤ W.heap.size) : (W.alloc (.cells #[.bool i.mrk, .int .i64 i.e.t, .int .i64 i.e.k, .int .i64 i.e.v, .int .u64 i.e.l] 71)).ownsRow B 71 5 (.slice (some ⟨W.heap.size, 0, none⟩) 1 1) 1 (ins [i]) := by
  have h := World.ownsRow_lit (base := W.heap.size) (e := 71) (size := 5) W (ins [i]).toArray 1 (Nat.le_refl _) (by unfold maxLen; omega) (by rw [List.size_toArray, ins_len]; rfl)
  have h2 : (W.alloc (.cells (ins [i]).toArray 71)).ownsRow W.heap.size 71 5 (.slice (some ⟨W.heap.size, 0, none⟩) 1 1) 1 (ins [i]) := by simpa using h
  exact O.own_base h2 hB
theorem two_lit1R (i : Inp) (h : Two W B 71 5 u v n m xs ys) (hB : B ≤ W.heap.size) : Two (W.alloc (.cells #[.bool i.mrk, .int .i64 i.e.t, .int .i64 i.e.k, .int .i64 i.e.v, .int .u64 i.e.l] 71)) B 71 5 u (.slice (some ⟨W.heap.size, 0, none⟩) 1 1) n 1 xs (ins [i]) :=
  ⟨h.hu.alloc _, own_lit1 W i hB, own_apart_new h.hu⟩
theorem two_lit2R (i k : Inp) (h : Two W B 71 5 u v n m xs ys) (hB : B ≤ W.heap.size) : Two (W.alloc (.cells #[.bool i.mrk, .int .i64 i.e.t, .int .i64 i.e.k, .int .i64 i.e.v, .int .u64 i.e.l, .bool k.mrk, .int .i64 k.e.t, .int .i64 k.e.k, .int .i64 k.e.v, .int .u64 k.e.l] 71)) B 71 5 u (.slice (some ⟨W.heap.size, 0, none⟩) 2 2) n 2 xs (ins [i, k]) := by
  refine ⟨h.hu.alloc _, ?_, own_apart_new h.hu⟩
  have h := World.ownsRow_lit (base := W.heap.size) (e := 71) (size := 5) W (ins [i, k]).toArray 2 (Nat.le_refl _) (by unfold maxLen; omega) (by rw [List.size_toArray, ins_len]; rfl)
  have h2 : (W.alloc (.cells (ins [i, k]).toArray 71)).ownsRow W.heap.size 71 5 (.slice (some ⟨W.heap.size, 0, none⟩) 2 2) 2 (ins [i, k]) := by simpa using h
  exact O.own_base h2 hB
/-- The one alone. -/
theorem two_one (h : W.ownsRow B 71 5 u n xs) : Two W B 71 5 u (.slice none 0 0) n 0 xs [] := ⟨h, World.ownsRow_nil _ _ _ _, fun k hk hk2 => by cases hk2⟩
/-- What is appended stays while another list grows. -/
theorem SrcN.grown {sz : Nat} {w w' : World} {u : Value} {m : Nat} {news : List Value} {row : Option Nat} (h : SrcN sz w u m news) (hg : w.grownBy w' row) (hr : ∀ k, u.ownBlock = some k → row ≠ some k) : SrcN sz w' u m news := by
  rcases h with h | ⟨ad, c, rfl, hl, hc⟩
  · exact .inl h
  · refine .inr ⟨ad, c, rfl, hl, fun j x hj => ?_⟩
    have h1 := hc j x hj
    have hb : (ad.add j).block = ad.block := by unfold Addr.add; split <;> rfl
    have h2 := World.block_lt_of_cell? w _ h1
    rw [hb] at h2
    rw [World.cell?_of_block (w := w) (by rw [hb]; exact hg.block _ h2 (fun e => hr ad.block rfl e.symm))]
    exact h1
end
theorem ins_drop : ∀ (es : List Inp) (i : Nat), ins (es.drop i) = (ins es).drop (i * 5)
  | es, 0 => by simp
  | [], i + 1 => by simp [ins]
  | e :: r, i + 1 => by
    have hc : (inCells e).length = 5 := rfl
    rw [List.drop_succ_cons, ins_drop r i, ins_cons, show (i + 1) * 5 = 5 + i * 5 by omega, ← List.drop_drop, ← hc, List.drop_left]
theorem ins_take : ∀ (es : List Inp) (i : Nat), ins (es.take i) = (ins es).take (i * 5)
  | es, 0 => by simp [ins]
  | [], i + 1 => by simp [ins]
  | e :: r, i + 1 => by
    have hc : (inCells e).length = 5 := rfl
    rw [List.take_succ_cons, ins_cons, ins_take r i, ins_cons, show (i + 1) * 5 = (inCells e).length + i * 5 by rw [hc]; omega, List.take_length_add_append]
/-- A part of a list of the call's own, as what is appended. -/
theorem src_part {w : World} {B g n cap : Nat} {es : List Inp} (h : w.ownsRow B 71 5 (.slice (some ⟨g, 0, none⟩) n cap) n (ins es)) (i off k c : Nat) (hi : i + k ≤ es.length) (hoff : k ≠ 0 → off = i * 5) : SrcN 5 w (.slice (some ⟨g, off, none⟩) k c) k (ins ((es.drop i).take k)) := by
  have hl : ((es.drop i).take k).length = k := by rw [List.length_take, List.length_drop]; omega
  have hn : n = es.length := by have := h.1; rw [ins_len] at this; omega
  refine .inr ⟨⟨g, off, none⟩, c, rfl, by rw [ins_len, hl], fun j x hj => ?_⟩
  have hj5 : j < k * 5 := by
    have := (List.getElem?_eq_some_iff.1 hj).1
    rw [ins_len, hl] at this; exact this
  have ho := hoff (by omega)
  subst ho
  rw [ins_take, ins_drop, List.getElem?_take, if_pos hj5, List.getElem?_drop] at hj
  have e : (⟨g, i * 5, none⟩ : Addr).add j = ⟨g, i * 5 + j, none⟩ := by simp [Addr.add]
  rw [e, h.cellAt (i * 5 + j) (by omega)]
  exact hj
end Go.Proofs.Ytombgbdplafooaa
/- The document's own Runner: New; Whole. -/
namespace Go.Proofs.Ytombgbdplafooaa
open Go.RowKit M
open O (RdO Kpk Pik Small Ints)
open O.MO (Oq Pq rightP)
set_option linter.unusedVariables false
set_option linter.unusedSimpArgs false
attribute [local go_sem ↓] Go.wp_at_zero Go.wp_at_succ

theorem okl_step {p : Pq} {r : Rs} {i : Inp} (h : Okl p.n p.s r.L) (hl : i.e.l < 18446744073709551616) : Okl p.n p.s (stepR p r i).L := by
  cases hm : i.mrk with
  | true =>
    cases hg : goes r.m i.e.t with
    | true => rw [(step_mark hm hg).1]; exact okl_drop h _
    | false => rw [(step_still hm hg).1]; exact h
  | false =>
    cases hk : okT i.e.t with
    | false => rw [step_none hm hk]; exact h
    | true =>
      by_cases hlt : i.e.t < r.m
      · rw [step_late hm hk hlt]; exact h
      · cases hx : runE p.os i.e with
        | none => rw [step_drop hm hk hlt hx]; exact h
        | some x => rw [step_put hm hk hlt hx]; exact okl_putE h (by rw [(runE_some hx).2.2]; exact hl)
theorem okl_all {p : Pq} : ∀ (is : List Inp) (r : Rs), Okl p.n p.s r.L → (∀ i ∈ is, i.e.l < 18446744073709551616) → Okl p.n p.s (stR p r is).L
  | [], r, h, _ => h
  | i :: is, r, h, hl => okl_all is _ (okl_step h (hl i (by simp))) (fun z hz => hl z (by simp [hz]))
/-- What the document's Take wants of a state. -/
theorem st_ok {p : Pq} (hr : rightB p.n p.s = true) {is : List Inp} (hl : ∀ i ∈ is, i.e.l < 18446744073709551616) (hn : is.length ≤ 60) :
    Okl p.n p.s (stR p r0 is).L ∧ (stR p r0 is).L.length ≤ 100000 ∧ (∀ q ∈ (stR p r0 is).L, 0 ≤ q.c ∧ q.c ≤ 900 ∧ q.l < 18446744073709551616) ∧ (0 ≤ (stR p r0 is).l ∧ (stR p r0 is).l ≤ 1000000) ∧ (0 ≤ (stR p r0 is).s ∧ (stR p r0 is).s ≤ 1000000) ∧ (rowsR p r0 is).length ≤ 1000 := by
  have h1 := okl_all (p := p) is r0 (okl_nil _ _) hl
  have h2 := rows_len p is
  have h3 := (cn_all hr is r0 0 (cn_nil 0) (by omega) (by omega)).1
  have h4 := all_counts p is r0
  have e1 : r0.l = 0 := rfl
  have e2 : r0.s = 0 := rfl
  refine ⟨h1, by omega, fun q hq => ?_, by omega, by omega, by omega⟩
  have := h3 q hq
  exact ⟨this.1, by omega, (h1.2 q hq).1.2.2⟩
/-- Lists of the call's own of unlike things lie in unlike blocks. -/
theorem own_ne {w : World} {B1 B2 : Nat} {e1 e2 : TypeId} {s1 s2 : Nat} {u v : Value} {n m : Nat} {xs ys : List Value} (h1 : w.ownsRow B1 e1 s1 u n xs) (h2 : w.ownsRow B2 e2 s2 v m ys) (he : e1 ≠ e2) : ∀ k, u.ownBlock = some k → v.ownBlock ≠ some k := by
  intro k hk hk2
  obtain ⟨_, ⟨rfl, _⟩ | ⟨g, cap, cur, rfl, _, hh, _⟩⟩ := h1
  · cases hk
  · simp only [Value.ownBlock, Option.some.injEq] at hk
    subst hk
    exact own_typed h2 hh (fun e => he e.symm) _ hk2 rfl
set_option maxHeartbeats 4000000 in
set_option maxRecDepth 100000 in
theorem wnew_is (v : Value) (os : List Oq) (n s a k f : Int) (w : World) (hv : OpsIn w v os) :
    Calls Try.prog 27 #[O.pv v n s a k f] w fun e w' => e = .returned (wval v n s a k f 0 0 0 (.slice none 0 0)) ∧ Below w.heap.size w w' := by
  obtain ⟨va, vl, vc, rfl⟩ := hv.form
  clear hv
  go_enter Try.func27, Try.ntmps27
  go_upto_region 1 with fail
  obtain ⟨g0, hg0⟩ : ∃ g, Hid (w.heap.size = g) := ⟨_, rfl⟩
  refine world_gen (fun X => Hid (O.Pik X w.heap.size (.slice va vl vc) n s a k f) ∧ Hid (Wk X (w.heap.size + 1) (.slice none 0 0) 0 0 0 0 0 0 0 0 (.slice none 0 0)) ∧ Hid (Below w.heap.size w X)) ⟨(O.pik_new _ _ _ _ _ _ _).call (below_alloc _ _), wk_zero _ _ (by simp), (below_alloc w _).alloc (by simp) _⟩ ?_
  rintro X ⟨hP, hZ, hB⟩
  rw [hg0.out] at hP hZ hB ⊢
  obtain ⟨gz, hgz⟩ : ∃ g, g0 + 1 = g := ⟨_, rfl⟩
  rw [hgz] at hZ ⊢
  have hlt : g0 < gz := by omega
  clear hgz
  have c0 := hP.out.c0
  have c1 := hP.out.c1
  have c2 := hP.out.c2
  have c3 := hP.out.c3
  have c4 := hP.out.c4
  have c5 := hP.out.c5
  obtain ⟨e0, e1, e2, e3, e4, e5, e6, e7, e8, e9, e10, e11, e12⟩ := hZ.out.c
  have f0 := hZ.out.free 0
  have f1 := hZ.out.free 1
  have f2 := hZ.out.free 2
  have f3 := hZ.out.free 3
  have f4 := hZ.out.free 4
  have f5 := hZ.out.free 5
  have f6 := hZ.out.free 6
  have f7 := hZ.out.free 7
  have f8 := hZ.out.free 8
  have f9 := hZ.out.free 9
  have f10 := hZ.out.free 10
  have f11 := hZ.out.free 11
  have f12 := hZ.out.free 12
  go_wp2_with fail
  have hall := wk_all hZ.out (.slice va vl vc) (.slice none 0 0) n s a k f 0 0 0
  clear e0 e1 e2 e3 e4 e5 e6 e7 e8 e9 e10 e11 e12 f0 f1 f2 f3 f4 f5 f6 f7 f8 f9 f10 f11 f12 c0 c1 c2 c3 c4 c5
  generalize ((((((((((((X.setCell ⟨gz, 0, none⟩ (.slice va vl vc)).setCell ⟨gz, 1, none⟩ (.int .i64 n)).setCell ⟨gz, 2, none⟩ (.int .i64 s)).setCell ⟨gz, 3, none⟩ (.int .i64 a)).setCell ⟨gz, 4, none⟩ (.int .i64 k)).setCell ⟨gz, 5, none⟩ (.int .i64 f)).setCell ⟨gz, 6, none⟩ (.int .i64 0)).setCell ⟨gz, 7, none⟩ (.int .i64 0)).setCell ⟨gz, 8, none⟩ (.int .i64 0)).setCell ⟨gz, 9, none⟩ (.int .i64 n)).setCell ⟨gz, 10, none⟩ (.int .i64 s)).setCell ⟨gz, 11, none⟩ (.int .i64 a)).setCell ⟨gz, 12, none⟩ (.slice none 0 0) = Z at hall ⊢
  obtain ⟨hz1, hz2, hz3, hz4⟩ := hall
  obtain ⟨e0, e1, e2, e3, e4, e5, e6, e7, e8, e9, e10, e11, e12⟩ := hz1.c
  have hbz : Below g0 w Z := hB.out.trans (hz4 _ (Nat.le_of_lt hlt))
  exact bodyPost_ret (v := wval (.slice va vl vc) n s a k f 0 0 0 (.slice none 0 0)) (by simp [results, Try.results27, go_sem, e0, e1, e2, e3, e4, e5, e6, e7, e8, e9, e10, e11, e12]) rfl ⟨rfl, by rw [hg0.out]; exact hbz⟩
set_option maxHeartbeats 8000000 in
set_option maxRecDepth 100000 in
/-- The document's own Whole. -/
theorem wwhole_is (v : Value) (p : Pq) (iv : Value) (qb : Nat) (is : List Inp) (w : World) (hv : OpsIn w v p.os) (hr : rightB p.n p.s = true) (hnb : -1099511627776 ≤ p.n ∧ p.n ≤ 1099511627776) (hI : RdI w iv qb is) (hq : qb ≤ w.heap.size) (hn : is.length ≤ 60) :
    Calls Try.prog 44 #[O.pv v p.n p.s p.a p.k p.f, iv] w fun e w' => ∃ u, e = .returned u ∧ w'.ownsRow w.heap.size 45 5 u (rowsR p r0 is).length (rcs (rowsR p r0 is)) ∧ Below w.heap.size w w' := by
  obtain ⟨os, n, s, a, k, f⟩ := p
  simp only at hv hr hnb ⊢
  obtain ⟨va, vl, vc, rfl⟩ := hv.form
  obtain ⟨hn1, hlab, ao, cap, rfl, hn2, hn3, hc⟩ := hI
  have hcell : Hid (∀ j, j < is.length → ∃ off, ao = some ⟨qb, off, none⟩ ∧ qb < w.heap.size ∧ InAt w qb (off + j * 5) (iAt is j)) := fun j hj => by
    obtain ⟨off, e1, e2, e3⟩ := hc (by omega)
    exact ⟨off, e1, e2, e3 j hj⟩
  have hlab' : Hid (∀ i ∈ is, i.e.l < 18446744073709551616) := hlab
  have hr' : Hid (rightB n s = true) := hr
  have hv' : Hid (OpsIn w (.slice va vl vc) os) := hv
  clear hc hlab hr hv
  obtain ⟨m, hm⟩ : ∃ m, Hid (is.length = m) := ⟨_, rfl⟩
  rw [hm.out] at hn1 hn2 hcell hn ⊢
  obtain ⟨i0, hi, hx0, hx1, hx2⟩ := info_parts Try.info45
  obtain ⟨g0, hg0⟩ : ∃ g, Hid (w.heap.size = g) := ⟨_, rfl⟩
  go_enter Try.func44, Try.ntmps44
  go_upto_region 1 with fail
  refine world_gen (fun X => Hid (O.Pik X w.heap.size (.slice va vl vc) n s a k f) ∧ Hid (Below w.heap.size w X)) ⟨O.pik_new _ _ _ _ _ _ _, below_alloc _ _⟩ ?_
  rintro X ⟨hP, hB⟩
  have c0 := hP.out.c0
  have c1 := hP.out.c1
  have c2 := hP.out.c2
  have c3 := hP.out.c3
  have c4 := hP.out.c4
  have c5 := hP.out.c5
  go_wp2_with fail
  refine (wnew_is (.slice va vl vc) os n s a k f _ (hv'.out.below hB.out)).mono ?_
  rintro e W1 ⟨rfl, b1⟩
  have hB1 : Hid (Below w.heap.size w W1) := hB.out.trans (b1.mono hB.out.size)
  clear hP hB b1 c0 c1 c2 c3 c4 c5
  go_upto_region 2 with fail
  refine world_gen (fun Y => Hid (Wk Y W1.heap.size (.slice va vl vc) n s a k f 0 0 0 (.slice none 0 0)) ∧ Hid (Below w.heap.size w Y)) ⟨wk_new W1 (.slice va vl vc) (.slice none 0 0) n s a k f 0 0 0, hB1.out.alloc hB1.out.size _⟩ ?_
  have hgr : w.heap.size ≤ W1.heap.size := hB1.out.size
  clear hB1
  rintro Y ⟨hW, hB⟩
  generalize W1.heap.size = gr at hW hgr ⊢
  go_wp2_with fail
  go_loopw [6, 14] (fun u i wr => ∃ (j : Nat) (r : Rs) (x : Value), j ≤ m ∧ i = .int .i64 j ∧ Hid (stR ⟨os, n, s, a, k, f⟩ r0 (is.take j) = r) ∧ Hid (Wk wr gr (.slice va vl vc) n s a k f r.m r.l r.s x) ∧ Hid (wr.ownsRow w.heap.size 105 5 x r.L.length (qcs r.L)) ∧ Hid (wr.ownsRow w.heap.size 45 5 u (rowsR ⟨os, n, s, a, k, f⟩ r0 (is.take j)).length (rcs (rowsR ⟨os, n, s, a, k, f⟩ r0 (is.take j)))) ∧ Hid (Below w.heap.size w wr)) (fun _ i _ => m - (intOf i).toNat)
  case atStart => exact ⟨0, r0, .slice none 0 0, Nat.zero_le _, rfl, rfl, hW, World.ownsRow_nil _ _ _ _, World.ownsRow_nil _ _ _ _, hB⟩
  case round =>
    obtain ⟨j, r, x, hj, rfl, hst, hW, hx, hu, hB⟩ := hrel
    by_cases hlt : j < m
    · obtain ⟨off, rfl, hq1, hin⟩ := hcell.out j hlt
      have hjl : j < is.length := by rw [hm.out]; exact hlt
      have hin2 := hin.keep (hB.out.block qb hq1)
      have hel := hlab'.out _ (iAt_mem is j hjl)
      have hok := st_ok (p := ⟨os, n, s, a, k, f⟩) hr'.out (is := is.take j) (fun i hi => hlab'.out i (List.mem_of_mem_take hi)) (by rw [List.length_take]; omega)
      rw [hst.out] at hok
      have hok' : Hid _ := hok
      have hs2 : Hid (stR ⟨os, n, s, a, k, f⟩ r0 (is.take (j + 1)) = stepR ⟨os, n, s, a, k, f⟩ r (iAt is j)) := by
        have h : stR ⟨os, n, s, a, k, f⟩ r0 (is.take (j + 1)) = stepR ⟨os, n, s, a, k, f⟩ r (iAt is j) := by rw [take_in is j hjl, stR_snoc, hst.out]
        exact h
      have hr2 : Hid (rowsR ⟨os, n, s, a, k, f⟩ r0 (is.take (j + 1)) = rowsR ⟨os, n, s, a, k, f⟩ r0 (is.take j) ++ rowR ⟨os, n, s, a, k, f⟩ r (iAt is j)) := by
        have h : rowsR ⟨os, n, s, a, k, f⟩ r0 (is.take (j + 1)) = rowsR ⟨os, n, s, a, k, f⟩ r0 (is.take j) ++ rowR ⟨os, n, s, a, k, f⟩ r (iAt is j) := by rw [take_in is j hjl, rowsR_snoc, hst.out]
        exact h
      obtain ⟨y, hy⟩ : ∃ y, Hid (iAt is j = y) := ⟨_, rfl⟩
      rw [hy.out] at hin2 hel hs2 hr2
      have hel' : Hid (y.e.l < 18446744073709551616) := hel
      obtain ⟨R1, hR1⟩ : ∃ x, Hid (rowsR ⟨os, n, s, a, k, f⟩ r0 (is.take j) = x) := ⟨_, rfl⟩
      rw [hR1.out] at hu hr2
      have hRl : Hid (R1.length ≤ 1000) := by
        have h : R1.length ≤ 1000 := by rw [← hR1.out]; exact hok'.out.2.2.2.2.2
        exact h
      clear hin hy hel hok hst hR1
      obtain ⟨d0, d1, d2, d3, d4⟩ := hin2
      go_upto_region 6 with fail
      clear d0 d1 d2 d3 d4
      have hwz : w.heap.size ≤ wr.heap.size := hB.out.size
      refine world_gen (fun X => Hid (Ink X wr.heap.size y) ∧ Hid (Wk X gr (.slice va vl vc) n s a k f r.m r.l r.s x) ∧ Hid (X.ownsRow w.heap.size 105 5 x r.L.length (qcs r.L)) ∧ Hid (X.ownsRow w.heap.size 45 5 u6 R1.length (rcs R1)) ∧ Hid (Below w.heap.size w X)) ⟨ink_new _ _, hW.out.call (below_alloc _ _), hx.out.alloc _, hu.out.alloc _, hB.out.alloc hwz _⟩ ?_
      clear hW hx hu hB
      rintro X ⟨hK, hW, hx, hu, hB⟩
      generalize wr.heap.size = gi at hK hwz ⊢
      obtain ⟨rm, rl, rs, rL⟩ := r
      simp only at hW hx
      obtain ⟨c0, c1, c2, c3, c4⟩ := hK.out.c
      obtain ⟨e0, e1, e2, e3, e4, e5, e6, e7, e8, e9, e10, e11, e12⟩ := hW.out.c
      have hXz : w.heap.size ≤ X.heap.size := hB.out.size
      go_wp2_with fail
      refine (wtake_is (.slice va vl vc) x os n s a k f rm rl rs rL y w.heap.size _ (hv'.out.below hB.out) hx.out hXz hok'.out.1 hok'.out.2.1 hok'.out.2.2.1 hnb hel'.out hok'.out.2.2.2.1 hok'.out.2.2.2.2.1).mono ?_
      rintro e W2 ⟨r', x', q, hrr, rfl, hx2, hq2, b2⟩
      have hrr' : Hid _ := hrr
      obtain ⟨qa, qc, rfl⟩ := own_len hq2
      obtain ⟨ya, yc, rfl⟩ := own_len hx2
      have hW2 : Hid (Wk W2 gr (.slice va vl vc) n s a k f rm rl rs x) := hW.out.call b2
      have hu2 : Hid (W2.ownsRow w.heap.size 45 5 u6 R1.length (rcs R1)) := own_below hu.out b2
      have hB2 : Hid (Below w.heap.size w W2) := hB.out.trans (b2.mono hXz)
      have hq3 : Hid (W2.ownsRow w.heap.size 45 5 (.slice qa (rowR ⟨os, n, s, a, k, f⟩ ⟨rm, rl, rs, rL⟩ y).length qc) (rowR ⟨os, n, s, a, k, f⟩ ⟨rm, rl, rs, rL⟩ y).length (rcs (rowR ⟨os, n, s, a, k, f⟩ ⟨rm, rl, rs, rL⟩ y))) := O.own_base hq2 hXz
      have hx3 : Hid (W2.ownsRow w.heap.size 105 5 (.slice ya r'.L.length yc) r'.L.length (qcs r'.L)) := hx2
      have hrl2 := (step_len ⟨os, n, s, a, k, f⟩ ⟨rm, rl, rs, rL⟩ y).2
      have hrl3 : Hid ((rowR ⟨os, n, s, a, k, f⟩ ⟨rm, rl, rs, rL⟩ y).length ≤ 100000) := Nat.le_trans hrl2 hok'.out.2.1
      clear hW hx hu hB hq2 hx2 b2 hrr hrl2 hK c0 c1 c2 c3 c4 e0 e1 e2 e3 e4 e5 e6 e7 e8 e9 e10 e11 e12
      generalize rowR ⟨os, n, s, a, k, f⟩ ⟨rm, rl, rs, rL⟩ y = Q at hq3 hr2 hrl3 ⊢
      obtain ⟨e0, e1, e2, e3, e4, e5, e6, e7, e8, e9, e10, e11, e12⟩ := hW2.out.c
      have f0 := hW2.out.free 0
      have f1 := hW2.out.free 1
      have f2 := hW2.out.free 2
      have f3 := hW2.out.free 3
      have f4 := hW2.out.free 4
      have f5 := hW2.out.free 5
      have f6 := hW2.out.free 6
      have f7 := hW2.out.free 7
      have f8 := hW2.out.free 8
      have f9 := hW2.out.free 9
      have f10 := hW2.out.free 10
      have f11 := hW2.out.free 11
      have f12 := hW2.out.free 12
      go_upto_region 8 with fail
      have hall := wk_all hW2.out (.slice va vl vc) (.slice ya r'.L.length yc) n s a k f r'.m r'.l r'.s
      clear e0 e1 e2 e3 e4 e5 e6 e7 e8 e9 e10 e11 e12 f0 f1 f2 f3 f4 f5 f6 f7 f8 f9 f10 f11 f12
      generalize ((((((((((((W2.setCell ⟨gr, 0, none⟩ (.slice va vl vc)).setCell ⟨gr, 1, none⟩ (.int .i64 n)).setCell ⟨gr, 2, none⟩ (.int .i64 s)).setCell ⟨gr, 3, none⟩ (.int .i64 a)).setCell ⟨gr, 4, none⟩ (.int .i64 k)).setCell ⟨gr, 5, none⟩ (.int .i64 f)).setCell ⟨gr, 6, none⟩ (.int .i64 r'.m)).setCell ⟨gr, 7, none⟩ (.int .i64 r'.l)).setCell ⟨gr, 8, none⟩ (.int .i64 r'.s)).setCell ⟨gr, 9, none⟩ (.int .i64 n)).setCell ⟨gr, 10, none⟩ (.int .i64 s)).setCell ⟨gr, 11, none⟩ (.int .i64 a)).setCell ⟨gr, 12, none⟩ (.slice ya r'.L.length yc) = Z at hall ⊢
      obtain ⟨hz1, hz2, hz3, hz4⟩ := hall
      have hx9 : Hid (Z.ownsRow w.heap.size 105 5 (.slice ya r'.L.length yc) r'.L.length (qcs r'.L)) := own_blk hx3.out (Nat.le_of_eq hz3.symm) (fun q hq => hz2 q (own_typed hx3.out hW2.out (by decide) q hq))
      have hu9 : Hid (Z.ownsRow w.heap.size 45 5 u6 R1.length (rcs R1)) := own_blk hu2.out (Nat.le_of_eq hz3.symm) (fun q hq => hz2 q (own_typed hu2.out hW2.out (by decide) q hq))
      have hq9 : Hid (Z.ownsRow w.heap.size 45 5 (.slice qa Q.length qc) Q.length (rcs Q)) := own_blk hq3.out (Nat.le_of_eq hz3.symm) (fun q hq => hz2 q (own_typed hq3.out hW2.out (by decide) q hq))
      have hBZ : Hid (Below w.heap.size w Z) := hB2.out.trans (hz4 _ hgr)
      have hWZ : Hid (Wk Z gr (.slice va vl vc) n s a k f r'.m r'.l r'.s (.slice ya r'.L.length yc)) := hz1
      have hZz : w.heap.size ≤ Z.heap.size := hBZ.out.size
      clear hz1 hz2 hz3 hz4 hx3 hu2 hq3 hB2 hW2
      go_wp2_with (at_builtin; refine wpList_append_srcG _ (by rfl) _ _ 39 rfl 5 w.heap.size 45 i0 rzero 40 Try.underlying39 hi hx0 hx1 hx2 rfl (by decide) u6 R1.length (rcs R1) rfl hu9.out (.slice qa Q.length qc) Q.length (rcs Q) rfl (srcN_own hq9.out) (rcs_one _) ?c1 ?c2 ?c3 ?_)
      case c1 => have := hRl.out; have := hrl3.out; unfold maxLen; omega
      case c2 => have := hRl.out; have := hrl3.out; omega
      case c3 => exact hZz
      intro v8 W8 o8 b8 g8
      have hW8 : Hid (Wk W8 gr (.slice va vl vc) n s a k f r'.m r'.l r'.s (.slice ya r'.L.length yc)) := hWZ.out.keep (g8.block gr hWZ.out.lt (fun e => own_typed hu9.out hWZ.out (by decide) gr e.symm rfl))
      have hx8 : Hid (W8.ownsRow w.heap.size 105 5 (.slice ya r'.L.length yc) r'.L.length (qcs r'.L)) := own_grown hx9.out g8 (fun z hz => own_ne hx9.out hu9.out (by decide) z hz)
      have hB8 : Hid (Below w.heap.size w W8) := hBZ.out.trans b8
      have hs9 : Hid (stR ⟨os, n, s, a, k, f⟩ r0 (is.take (j + 1)) = r') := by
        have h : stR ⟨os, n, s, a, k, f⟩ r0 (is.take (j + 1)) = r' := by rw [hs2.out]; exact hrr'.out
        exact h
      have ho8 : Hid (W8.ownsRow w.heap.size 45 5 v8 (rowsR ⟨os, n, s, a, k, f⟩ r0 (is.take (j + 1))).length (rcs (rowsR ⟨os, n, s, a, k, f⟩ r0 (is.take (j + 1))))) := by
        have h : W8.ownsRow w.heap.size 45 5 v8 (rowsR ⟨os, n, s, a, k, f⟩ r0 (is.take (j + 1))).length (rcs (rowsR ⟨os, n, s, a, k, f⟩ r0 (is.take (j + 1)))) := by rw [hr2.out, rcs_append, List.length_append]; exact o8
        exact h
      clear o8 b8 g8 hWZ hx9 hu9 hq9 hBZ hs2 hr2 hrr' hok'
      go_wp2_with fail
      go_roundw
      case rel => exact ⟨j + 1, r', _, by omega, by go_num, hs9, hW8, hx8, ho8, hB8⟩
      case measure => simp [intOf]; omega
    · obtain rfl : m = j := by omega
      rw [List.take_of_length_le (Nat.le_of_eq hm.out)] at hu
      go_wp2_with fail
      go_ret
      exact ⟨_, rfl, hu.out, hB.out⟩
end Go.Proofs.Ytombgbdplafooaa
/- Two runners in memory, apart; two lists of rows of the call's own beside them. -/
namespace Go.Proofs.Ytombgbdplafooaa
open Go.RowKit M
open O.MO (Oq Pq rightP)
set_option linter.unusedVariables false

theorem new_ne {o' oa qa z x : Nat} (ho : o' = oa ∨ o' = qa ∨ z ≤ o') (h1 : oa ≠ x) (h2 : qa ≠ x) (h3 : x < z) : o' ≠ x := by
  rcases ho with rfl | rfl | h
  · exact h1
  · exact h2
  · omega
/-- Two runners, apart. -/
structure Duo (w : World) (ba qa oa ga bb qb ob gb : Nat) (pa pb : Pq) (ra rb : Rs) : Prop where
  a : Rnr w ba qa oa ga pa ra
  b : Rnr w bb qb ob gb pb rb
  n1 : ba ≠ bb ∧ ba ≠ qb ∧ ba ≠ ob ∧ ba ≠ gb
  n2 : qa ≠ bb ∧ qa ≠ qb ∧ qa ≠ ob ∧ qa ≠ gb
  n3 : oa ≠ bb ∧ oa ≠ qb ∧ oa ≠ ob ∧ oa ≠ gb
  n4 : ga ≠ bb ∧ ga ≠ qb ∧ ga ≠ ob
section
variable {w w' : World} {ba qa oa ga bb qb ob gb : Nat} {pa pb : Pq} {ra rb : Rs}
theorem Duo.below (h : Duo w ba qa oa ga bb qb ob gb pa pb ra rb) (hb : Below w.heap.size w w') : Duo w' ba qa oa ga bb qb ob gb pa pb ra rb :=
  ⟨h.a.below hb, h.b.below hb, h.n1, h.n2, h.n3, h.n4⟩
theorem Duo.takeA (h : Duo w ba qa oa ga bb qb ob gb pa pb ra rb) {o' : Nat} {r' : Rs} (hA : Rnr w' ba qa o' ga pa r') (hc : Ch3 ba qa oa w w') (ho : o' = oa ∨ o' = qa ∨ w.heap.size ≤ o') : Duo w' ba qa o' ga bb qb ob gb pa pb r' rb := by
  obtain ⟨a1, a2, a3, a4⟩ := h.b.lt
  obtain ⟨x1, x2, x3, x4⟩ := h.n1
  obtain ⟨y1, y2, y3, y4⟩ := h.n2
  obtain ⟨z1, z2, z3, z4⟩ := h.n3
  exact ⟨hA, h.b.keep hc ⟨x1.symm, y1.symm, z1.symm⟩ ⟨x2.symm, y2.symm, z2.symm⟩ ⟨x3.symm, y3.symm, z3.symm⟩ ⟨x4.symm, y4.symm, z4.symm⟩, h.n1, h.n2, ⟨new_ne ho z1 y1 a1, new_ne ho z2 y2 a2, new_ne ho z3 y3 a3, new_ne ho z4 y4 a4⟩, h.n4⟩
theorem Duo.takeB (h : Duo w ba qa oa ga bb qb ob gb pa pb ra rb) {o' : Nat} {r' : Rs} (hB : Rnr w' bb qb o' gb pb r') (hc : Ch3 bb qb ob w w') (ho : o' = ob ∨ o' = qb ∨ w.heap.size ≤ o') : Duo w' ba qa oa ga bb qb o' gb pa pb ra r' := by
  obtain ⟨a1, a2, a3, a4⟩ := h.a.lt
  obtain ⟨x1, x2, x3, x4⟩ := h.n1
  obtain ⟨y1, y2, y3, y4⟩ := h.n2
  obtain ⟨z1, z2, z3, z4⟩ := h.n3
  obtain ⟨u1, u2, u3⟩ := h.n4
  exact ⟨h.a.keep hc ⟨x1, x2, x3⟩ ⟨y1, y2, y3⟩ ⟨z1, z2, z3⟩ ⟨u1, u2, u3⟩, hB, ⟨x1, x2, (new_ne ho x3.symm x2.symm a1).symm, x4⟩, ⟨y1, y2, (new_ne ho y3.symm y2.symm a2).symm, y4⟩, ⟨z1, z2, (new_ne ho z3.symm z2.symm a3).symm, z4⟩, ⟨u1, u2, (new_ne ho u3.symm u2.symm a4).symm⟩⟩
end
theorem own_alloc_below' {w w' : World} {B : Nat} {e : TypeId} {size : Nat} {v : Value} {n : Nat} {xs : List Value} (h : w.ownsRow B e size v n xs) (hb : Below w.heap.size w w') : w'.ownsRow B e size v n xs := own_below h hb
/-- Two runners, two lists of rows, inputs that are read. -/
structure KQ (W0 w : World) (B ba qa oa ga bb qb ob gb qi : Nat) (pa pb : Pq) (ra rb : Rs) (u v : Value) (L M : List Pn) (iu : Value) (is : List Inp) : Prop where
  duo : Duo w ba qa oa ga bb qb ob gb pa pb ra rb
  hu : w.ownsRow B 45 5 u L.length (rcs L)
  hv : w.ownsRow B 45 5 v M.length (rcs M)
  ne : ∀ k, u.ownBlock = some k → v.ownBlock ≠ some k
  rd : RdI w iu qi is
  hq : qi ≠ ba ∧ qi ≠ qa ∧ qi ≠ oa ∧ qi ≠ bb ∧ qi ≠ qb ∧ qi ≠ ob
  hB : ba < B ∧ qa < B ∧ ga < B ∧ bb < B ∧ qb < B ∧ gb < B ∧ qi < B
  h0 : W0.heap.size ≤ ba ∧ W0.heap.size ≤ qa ∧ W0.heap.size ≤ oa ∧ W0.heap.size ≤ bb ∧ W0.heap.size ≤ qb ∧ W0.heap.size ≤ ob
  bel : Below W0.heap.size W0 w
section
variable {W0 w w' : World} {B ba qa oa ga bb qb ob gb qi : Nat} {pa pb : Pq} {ra rb : Rs} {u v : Value} {L M : List Pn} {iu : Value} {is : List Inp}
theorem KQ.below (h : KQ W0 w B ba qa oa ga bb qb ob gb qi pa pb ra rb u v L M iu is) (hb : Below w.heap.size w w') : KQ W0 w' B ba qa oa ga bb qb ob gb qi pa pb ra rb u v L M iu is :=
  ⟨h.duo.below hb, own_below h.hu hb, own_below h.hv hb, h.ne, h.rd.below hb, h.hq, h.hB, h.h0, below_call h.bel hb⟩
theorem KQ.takeA (h : KQ W0 w B ba qa oa ga bb qb ob gb qi pa pb ra rb u v L M iu is) (hqz : qi < w.heap.size) {o' : Nat} {r' : Rs} (hR : Rnr w' ba qa o' ga pa r') (hc : Ch3 ba qa oa w w') (ho : o' = oa ∨ o' = qa ∨ w.heap.size ≤ o') : KQ W0 w' B ba qa o' ga bb qb ob gb qi pa pb r' rb u v L M iu is := by
  obtain ⟨k1, k2, k3, k4, k5, k6⟩ := h.hq
  obtain ⟨B1, B2, B3, B4, B5, B6, B7⟩ := h.hB
  obtain ⟨z1, z2, z3, z4, z5, z6⟩ := h.h0
  have hz := h.bel.size
  have ho0 : W0.heap.size ≤ o' := by rcases ho with rfl | rfl | h; assumption; assumption; omega
  exact ⟨h.duo.takeA hR hc ho, own_ch3 h.hu hc (own_rows_apart h.hu h.duo.a B1 B2), own_ch3 h.hv hc (own_rows_apart h.hv h.duo.a B1 B2), h.ne, h.rd.ch hc k1 k2 k3, ⟨k1, k2, (new_ne ho k3.symm k2.symm hqz).symm, k4, k5, k6⟩, h.hB, ⟨z1, z2, ho0, z4, z5, z6⟩, h.bel.trans (hc.below z1 z2 z3 hz)⟩
theorem KQ.takeB (h : KQ W0 w B ba qa oa ga bb qb ob gb qi pa pb ra rb u v L M iu is) (hqz : qi < w.heap.size) {o' : Nat} {r' : Rs} (hR : Rnr w' bb qb o' gb pb r') (hc : Ch3 bb qb ob w w') (ho : o' = ob ∨ o' = qb ∨ w.heap.size ≤ o') : KQ W0 w' B ba qa oa ga bb qb o' gb qi pa pb ra r' u v L M iu is := by
  obtain ⟨k1, k2, k3, k4, k5, k6⟩ := h.hq
  obtain ⟨B1, B2, B3, B4, B5, B6, B7⟩ := h.hB
  obtain ⟨z1, z2, z3, z4, z5, z6⟩ := h.h0
  have hz := h.bel.size
  have ho0 : W0.heap.size ≤ o' := by rcases ho with rfl | rfl | h; assumption; assumption; omega
  exact ⟨h.duo.takeB hR hc ho, own_ch3 h.hu hc (own_rows_apart h.hu h.duo.b B4 B5), own_ch3 h.hv hc (own_rows_apart h.hv h.duo.b B4 B5), h.ne, h.rd.ch hc k4 k5 k6, ⟨k1, k2, k3, k4, k5, (new_ne ho k6.symm k5.symm hqz).symm⟩, h.hB, ⟨z1, z2, z3, z4, z5, ho0⟩, h.bel.trans (hc.below z4 z5 z6 hz)⟩
theorem KQ.grow (h : KQ W0 w B ba qa oa ga bb qb ob gb qi pa pb ra rb u v L M iu is) {x : Value} {N : List Pn} (hx : w.ownsRow B 45 5 x N.length (rcs N)) (hg : w.grownBy w' x.ownBlock) (hb : Below B w w') (hBz : W0.heap.size ≤ B) : Duo w' ba qa oa ga bb qb ob gb pa pb ra rb ∧ RdI w' iu qi is ∧ Below W0.heap.size W0 w' := by
  obtain ⟨B1, B2, B3, B4, B5, B6, B7⟩ := h.hB
  have ap := own_rows_apart hx h.duo.a B1 B2
  have bp := own_rows_apart hx h.duo.b B4 B5
  have hlt := hx.lt
  refine ⟨⟨h.duo.a.grown hg hb.size (fun k hk => ?_), h.duo.b.grown hg hb.size (fun k hk => ?_), h.duo.n1, h.duo.n2, h.duo.n3, h.duo.n4⟩, h.rd.keep hb.size (fun _ => hb.block _ (by omega)), h.bel.trans (hb.mono hBz)⟩
  · obtain ⟨e1, e2, e3⟩ := ap k hk
    exact ⟨e1, e2, e3, by have := (hlt k hk).1; omega⟩
  · obtain ⟨e1, e2, e3⟩ := bp k hk
    exact ⟨e1, e2, e3, by have := (hlt k hk).1; omega⟩
theorem KQ.appU (h : KQ W0 w B ba qa oa ga bb qb ob gb qi pa pb ra rb u v L M iu is) (hBz : W0.heap.size ≤ B) {u' : Value} {L' : List Pn} (hu : w'.ownsRow B 45 5 u' L'.length (rcs L')) (hg : w.grownBy w' u.ownBlock) (hb : Below B w w') (hf : ∀ k, u'.ownBlock = some k → u.ownBlock = some k ∨ w.heap.size ≤ k) : KQ W0 w' B ba qa oa ga bb qb ob gb qi pa pb ra rb u' v L' M iu is := by
  obtain ⟨h1, h2, h3⟩ := h.grow h.hu hg hb hBz
  refine ⟨h1, hu, own_grown h.hv hg (fun k hk e => h.ne k e hk), fun k hk e => ?_, h2, h.hq, h.hB, h.h0, h3⟩
  rcases hf k hk with hk2 | hk2
  · exact h.ne k hk2 e
  · have := (h.hv.lt k e).2
    omega
theorem KQ.appV (h : KQ W0 w B ba qa oa ga bb qb ob gb qi pa pb ra rb u v L M iu is) (hBz : W0.heap.size ≤ B) {v' : Value} {M' : List Pn} (hv : w'.ownsRow B 45 5 v' M'.length (rcs M')) (hg : w.grownBy w' v.ownBlock) (hb : Below B w w') (hf : ∀ k, v'.ownBlock = some k → v.ownBlock = some k ∨ w.heap.size ≤ k) : KQ W0 w' B ba qa oa ga bb qb ob gb qi pa pb ra rb u v' L M' iu is := by
  obtain ⟨h1, h2, h3⟩ := h.grow h.hv hg hb hBz
  refine ⟨h1, own_grown h.hu hg (fun k hk e => h.ne k hk e), hv, fun k hk e => ?_, h2, h.hq, h.hB, h.h0, h3⟩
  rcases hf k e with hk2 | hk2
  · exact h.ne k hk hk2
  · have := (h.hu.lt k hk).2
    omega
end
end Go.Proofs.Ytombgbdplafooaa
/- The program's runner and the document's own, side by side. -/
namespace Go.Proofs.Ytombgbdplafooaa
open Go.RowKit M
open O (RdO Kpk Pik Small Ints)
open O.MO (Oq Pq rightP)
set_option linter.unusedVariables false
set_option linter.unusedSimpArgs false

/-- A list of the document's panes doesn't lie in a runner's blocks. -/
theorem own_panes_apart {w : World} {b q o g : Nat} {p : Pq} {r : Rs} {B n : Nat} {v : Value} {xs : List Value} (h : w.ownsRow B 105 5 v n xs) (hR : Rnr w b q o g p r) : ∀ k, v.ownBlock = some k → k ≠ b ∧ k ≠ q ∧ k ≠ o := by
  intro k hk
  have ho := hR.ot
  obtain ⟨u, h1, ⟨v2, hh, _⟩, _⟩ := hR
  refine ⟨own_typed h h1 (by decide) k hk, own_typed h hh (by decide) k hk, ?_⟩
  obtain ⟨_, ⟨rfl, _⟩ | ⟨g', cap, cur, rfl, _, hb, _⟩⟩ := h
  · cases hk
  · simp only [Value.ownBlock, Option.some.injEq] at hk
    subst hk
    exact ho.ne hb (by decide) (by decide)
structure RK (w X : World) (g0 gp gr z0 : Nat) (U : Value) (p : Pq) (b q o g : Nat) (ra rd : Rs) (x : Value) (qj : Nat) (jv : Value) (js : List Inp) : Prop where
  R : Rnr X b q o g p ra
  K : Wk X gr U p.n p.s p.a p.k p.f rd.m rd.l rd.s x
  xo : X.ownsRow z0 105 5 x rd.L.length (qcs rd.L)
  P : Pik X gp U p.n p.s p.a p.k p.f
  O : OpsIn X U p.os
  I : RdI X jv qj js
  B : Below g0 w X
  zg : g0 ≤ z0
  zp : gp < z0
  zu : ∀ k, U.ownBlock = some k → k < z0
  zs : z0 ≤ b ∧ z0 ≤ q ∧ z0 ≤ o ∧ z0 ≤ g
  gn : gr ≠ b ∧ gr ≠ q ∧ gr ≠ o ∧ gr ≠ g
  qn : qj ≠ b ∧ qj ≠ q ∧ qj ≠ o
  ql : qj < X.heap.size
  zz : z0 ≤ X.heap.size
section
variable {w X X' : World} {g0 gp gr z0 : Nat} {U : Value} {p : Pq} {b q o g : Nat} {ra rd : Rs} {x : Value} {qj : Nat} {jv : Value} {js : List Inp}
theorem RK.call (h : RK w X g0 gp gr z0 U p b q o g ra rd x qj jv js) (hb : Below X.heap.size X X') : RK w X' g0 gp gr z0 U p b q o g ra rd x qj jv js :=
  ⟨h.R.below hb, h.K.call hb, own_below h.xo hb, h.P.call hb, h.O.below hb, h.I.below hb, h.B.trans (hb.mono (Nat.le_trans h.zg h.zz)), h.zg, h.zp, h.zu, h.zs, h.gn, h.qn, Nat.lt_of_lt_of_le h.ql hb.size, Nat.le_trans h.zz hb.size⟩
/-- The program's runner takes. -/
theorem RK.take (h : RK w X g0 gp gr z0 U p b q o g ra rd x qj jv js) {o' : Nat} {ra' : Rs} (hR : Rnr X' b q o' g p ra') (hc : Ch3 b q o X X') (ho : o' = o ∨ o' = q ∨ X.heap.size ≤ o') : RK w X' g0 gp gr z0 U p b q o' g ra' rd x qj jv js := by
  obtain ⟨s1, s2, s3, s4⟩ := h.zs
  obtain ⟨n1, n2, n3, n4⟩ := h.gn
  obtain ⟨m1, m2, m3⟩ := h.qn
  have hp := h.zp
  have hg := h.zg
  have hz := h.zz
  have hgl := h.K.lt
  have hql := h.ql
  obtain ⟨l1, l2, l3, l4⟩ := h.R.lt
  have hk : ∀ k, k < z0 → X'.heap[k]? = X.heap[k]? := fun k hk => hc.other k (by omega) (by omega) (by omega) (by omega)
  have hxa := own_panes_apart h.xo h.R
  refine ⟨hR, h.K.keep (hc.other gr hgl n1 n2 n3), ?_, (hk gp hp).trans h.P, h.O.keep (fun k hk1 _ => hk k (h.zu k hk1)), h.I.keep hc.size (fun _ => hc.other qj hql m1 m2 m3), h.B.trans (hc.below (by omega) (by omega) (by omega) (by omega)), hg, hp, h.zu, ⟨s1, s2, ?_, s4⟩, ⟨n1, n2, ?_, n4⟩, ⟨m1, m2, ?_⟩, Nat.lt_of_lt_of_le hql hc.size, Nat.le_trans hz hc.size⟩
  · exact own_ch3 h.xo hc hxa
  · rcases ho with rfl | rfl | ho <;> omega
  · rcases ho with rfl | rfl | ho <;> omega
  · rcases ho with rfl | rfl | ho <;> omega
/-- The document's own one is laid anew in its block. -/
theorem RK.own (h : RK w X g0 gp gr z0 U p b q o g ra rd x qj jv js) {rd' : Rs} {x' : Value} (hK : Wk X' gr U p.n p.s p.a p.k p.f rd'.m rd'.l rd'.s x') (hz : ∀ j, j ≠ gr → X'.heap[j]? = X.heap[j]?) (hs : X'.heap.size = X.heap.size) (hb : ∀ B, B ≤ gr → Below B X X') (hx : X.ownsRow z0 105 5 x' rd'.L.length (qcs rd'.L)) (hgr : z0 ≤ gr) (hqg : qj ≠ gr) : RK w X' g0 gp gr z0 U p b q o g ra rd' x' qj jv js := by
  obtain ⟨n1, n2, n3, n4⟩ := h.gn
  have hp := h.zp
  have hg := h.zg
  have hb0 := hb 0 (Nat.zero_le _)
  refine ⟨h.R.keep (b' := gr) (q' := gr) (o' := gr) ⟨hb0.os, hb0.tape, hb0.output, Nat.le_of_eq hs.symm, fun y _ hy _ _ => hz y hy⟩ ⟨fun e => n1 e.symm, fun e => n1 e.symm, fun e => n1 e.symm⟩ ⟨fun e => n2 e.symm, fun e => n2 e.symm, fun e => n2 e.symm⟩ ⟨fun e => n3 e.symm, fun e => n3 e.symm, fun e => n3 e.symm⟩ ⟨fun e => n4 e.symm, fun e => n4 e.symm, fun e => n4 e.symm⟩,
    hK, own_blk hx (Nat.le_of_eq hs.symm) (fun k hk => hz k (own_typed hx h.K (by decide) k hk)), (hz gp (by omega)).trans h.P, h.O.keep (fun k hk _ => hz k (by have := h.zu k hk; omega)), h.I.keep (Nat.le_of_eq hs.symm) (fun _ => hz qj hqg), h.B.trans (hb g0 (by omega)), hg, hp, h.zu, h.zs, h.gn, h.qn, by rw [hs]; exact h.ql, by rw [hs]; exact h.zz⟩
/-- A twin takes its place. -/
theorem RK.twin (h : RK w X g0 gp gr z0 U p b q o g ra rd x qj jv js) {b' q' o' g' : Nat} (hR : Rnr X' b' q' o' g' p ra) (hb : Below X.heap.size X X') (h1 : X.heap.size ≤ b') (h2 : X.heap.size ≤ q') (h3 : X.heap.size ≤ o') (h4 : X.heap.size ≤ g') : RK w X' g0 gp gr z0 U p b' q' o' g' ra rd x qj jv js := by
  have h' := h.call hb
  have hz := h.zz
  have hg := h.K.lt
  have hq := h.ql
  exact ⟨hR, h'.K, h'.xo, h'.P, h'.O, h'.I, h'.B, h.zg, h.zp, h.zu, ⟨by omega, by omega, by omega, by omega⟩, ⟨by omega, by omega, by omega, by omega⟩, ⟨by omega, by omega, by omega⟩, h'.ql, h'.zz⟩
/-- Another runner takes. -/
theorem RK.other (h : RK w X g0 gp gr z0 U p b q o g ra rd x qj jv js) {b1 q1 o1 : Nat} (hc : Ch3 b1 q1 o1 X X') (hx : ∀ k, x.ownBlock = some k → k ≠ b1 ∧ k ≠ q1 ∧ k ≠ o1)
    (hz : z0 ≤ b1 ∧ z0 ≤ q1 ∧ z0 ≤ o1) (hgr : gr ≠ b1 ∧ gr ≠ q1 ∧ gr ≠ o1) (hqj : qj ≠ b1 ∧ qj ≠ q1 ∧ qj ≠ o1)
    (hb : b ≠ b1 ∧ b ≠ q1 ∧ b ≠ o1) (hq : q ≠ b1 ∧ q ≠ q1 ∧ q ≠ o1) (ho : o ≠ b1 ∧ o ≠ q1 ∧ o ≠ o1) (hg : g ≠ b1 ∧ g ≠ q1 ∧ g ≠ o1) : RK w X' g0 gp gr z0 U p b q o g ra rd x qj jv js := by
  have hp := h.zp
  have hg0 := h.zg
  have hzz := h.zz
  have hk : ∀ k, k < z0 → X'.heap[k]? = X.heap[k]? := fun k hk => hc.other k (by omega) (by omega) (by omega) (by omega)
  exact ⟨h.R.keep hc hb hq ho hg, h.K.keep (hc.other gr h.K.lt hgr.1 hgr.2.1 hgr.2.2), own_ch3 h.xo hc hx, (hk gp hp).trans h.P, h.O.keep (fun k hk1 _ => hk k (h.zu k hk1)), h.I.keep hc.size (fun _ => hc.other qj h.ql hqj.1 hqj.2.1 hqj.2.2), h.B.trans (hc.below (by omega) (by omega) (by omega) (by omega)), hg0, hp, h.zu, h.zs, h.gn, h.qn, Nat.lt_of_lt_of_le h.ql hc.size, Nat.le_trans hzz hc.size⟩
theorem len_b (b o : Nat) (n sl K : Int) (L : List Pn) (w : World) (hP : Pan w b o n sl K L) :
    Calls Try.prog 22 #[.pointer (some ⟨b, 0, none⟩)] w fun e w' => e = .returned (.int .i64 ((L.length : Nat) : Int)) ∧ Below w.heap.size w w' :=
  (len_is b o n sl K L L.length w hP rfl).mono fun e w' h => ⟨h.1, h.2 ▸ Below.refl _ _⟩
theorem wk_at6 {w : World} {b : Nat} {u v : Value} {n s a k f m l sn : Int} (h : Wk w b u n s a k f m l sn v) : w.cell? ⟨b, 6, none⟩ = some (.int .i64 m) := by
  obtain ⟨e0, e1, e2, e3, e4, e5, e6, e7, e8, e9, e10, e11, e12⟩ := h.c
  exact e6
theorem wk_at7 {w : World} {b : Nat} {u v : Value} {n s a k f m l sn : Int} (h : Wk w b u n s a k f m l sn v) : w.cell? ⟨b, 7, none⟩ = some (.int .i64 l) := by
  obtain ⟨e0, e1, e2, e3, e4, e5, e6, e7, e8, e9, e10, e11, e12⟩ := h.c
  exact e7
theorem wk_at8 {w : World} {b : Nat} {u v : Value} {n s a k f m l sn : Int} (h : Wk w b u n s a k f m l sn v) : w.cell? ⟨b, 8, none⟩ = some (.int .i64 sn) := by
  obtain ⟨e0, e1, e2, e3, e4, e5, e6, e7, e8, e9, e10, e11, e12⟩ := h.c
  exact e8
theorem wk_at12 {w : World} {b : Nat} {u v : Value} {n s a k f m l sn : Int} (h : Wk w b u n s a k f m l sn v) : w.cell? ⟨b, 12, none⟩ = some v := by
  obtain ⟨e0, e1, e2, e3, e4, e5, e6, e7, e8, e9, e10, e11, e12⟩ := h.c
  exact e12
end
end Go.Proofs.Ytombgbdplafooaa
