/- Package whole: Rows, Past, Labels, Prefix, with slices.Equal of rows. -/
import Derived.Test.YtombgbdplafooaaRTake
import Derived.Test.YtombgbdplafooaaRRuns
import Derived.Test.YtombgbdplafooaaRNew
import Derived.Test.YtombgbdplafooaaMathX
import Derived.Deep.QuietTactic
import Derived.BigQuiet
namespace Go.Proofs.Ytombgbdplafooaa
open Go.RowKit M
open O (RdO)
open O.MO (Oq Pq rightP)
set_option linter.unusedVariables false
set_option linter.unusedSimpArgs false
attribute [local go_sem ↓] Go.wp_at_zero Go.wp_at_succ

set_option maxHeartbeats 2000000 in
set_option maxRecDepth 100000 in
/-- whole.Rows of a right pipe. -/
theorem wrows_is (v : Value) (p : Pq) (iv : Value) (qb : Nat) (is : List Inp) (w : World) (hv : OpsIn w v p.os) (hr : rightP p = true) (hl : p.os.length ≤ 1000) (hI : RdI w iv qb is) (hq : qb ≤ w.heap.size) (hn : is.length ≤ 100000) :
    Calls Try.prog 39 #[O.pv v p.n p.s p.a p.k p.f, iv] w fun e w' => ∃ u, e = .returned u ∧ w'.ownsRow w.heap.size 45 5 u (rowsR p r0 is).length (rcs (rowsR p r0 is)) ∧ Below w.heap.size w w' := by
  obtain ⟨os, n, s, a, k, f⟩ := p
  simp only at hv hl ⊢
  obtain ⟨va, vl, vc, rfl⟩ := hv.form
  have hv' : Hid (OpsIn w (.slice va vl vc) os) := hv
  have hr' : Hid (rightP ⟨os, n, s, a, k, f⟩ = true) := hr
  have hl' : Hid (os.length ≤ 1000) := hl
  have hI' : Hid (RdI w iv qb is) := hI
  have hn' : Hid (is.length ≤ 100000) := hn
  clear hv hr hl hI hn
  go_enter Try.func39, Try.ntmps39
  go_upto_region 1 with fail
  refine world_gen (fun W => Hid (O.Pik W w.heap.size (.slice va vl vc) n s a k f) ∧ Hid (OpsIn W (.slice va vl vc) os) ∧ Hid (RdI W iv qb is) ∧ Hid (Below w.heap.size w W) ∧ w.heap.size < W.heap.size) ⟨O.pik_new _ _ _ _ _ _ _, hv'.out.below (below_alloc _ _), hI'.out.below (below_alloc _ _), below_alloc _ _, by simp⟩ ?_
  clear hv' hI'
  rintro W ⟨k0, hv, hI, b0, hsz⟩
  generalize hg0 : w.heap.size = g0 at k0 b0 hsz hq ⊢
  have c0 := k0.out.c0
  have c1 := k0.out.c1
  have c2 := k0.out.c2
  have c3 := k0.out.c3
  have c4 := k0.out.c4
  have c5 := k0.out.c5
  have hg1 : Hid (w.heap.size = g0) := hg0
  clear hg0
  go_wp2_with fail
  refine (new_is (.slice va vl vc) ⟨os, n, s, a, k, f⟩ _ hv.out hr'.out hl'.out).mono ?_
  rintro e W1 ⟨b, q, o, g, rfl, hR, z1, z2, z3, z4, b1⟩
  have hI1 : Hid (RdI W1 iv qb is) := hI.out.below b1
  have hB1 : Hid (Below g0 w W1) := b0.out.trans (b1.mono (by omega))
  have hR1 : Hid (Rnr W1 b q o g ⟨os, n, s, a, k, f⟩ r0) := hR
  have hz : W.heap.size ≤ W1.heap.size := b1.size
  clear hR b1 hI b0 k0 hv c0 c1 c2 c3 c4 c5
  go_wp2_with fail
  refine (rtake_is b q o g ⟨os, n, s, a, k, f⟩ r0 iv qb is _ hR1.out hI1.out (by omega) (by omega) (by omega) (by have := hn'.out; simp; omega) (by have := hn'.out; simp; omega) (by have := hn'.out; simp; omega)).mono ?_
  rintro e W2 ⟨u, o', rfl, hu, hR2, ho2, hch⟩
  have hB2 : Hid (Below g0 w W2) := hB1.out.trans (hch.below (by omega) (by omega) (by omega) (by omega))
  have hu2 : Hid (W2.ownsRow g0 45 5 u (rowsR ⟨os, n, s, a, k, f⟩ r0 is).length (rcs (rowsR ⟨os, n, s, a, k, f⟩ r0 is))) := O.own_base hu (by omega)
  clear hu hR2 hch hB1 hR1 hI1
  go_wp2_with fail
  go_ret
  exact ⟨u, rfl, by rw [hg1.out]; exact hu2.out, by rw [hg1.out]; exact hB2.out⟩
set_option maxHeartbeats 2000000 in
set_option maxRecDepth 100000 in
/-- whole.Rows of a pipe that isn't right. -/
theorem wrows_no (v : Value) (os : List Oq) (n s a k f : Int) (iv : Value) (w : World) (hv : OpsIn w v os) (hr : rightP ⟨os, n, s, a, k, f⟩ = false) :
    Calls Try.prog 39 #[O.pv v n s a k f, iv] w fun e w' => e = .returned (.slice none 0 0) ∧ Below w.heap.size w w' := by
  obtain ⟨va, vl, vc, rfl⟩ := hv.form
  have hv' : Hid (OpsIn w (.slice va vl vc) os) := hv
  have hr' : Hid (rightP ⟨os, n, s, a, k, f⟩ = false) := hr
  clear hv hr
  go_enter Try.func39, Try.ntmps39
  go_upto_region 1 with fail
  refine world_gen (fun W => Hid (O.Pik W w.heap.size (.slice va vl vc) n s a k f) ∧ Hid (OpsIn W (.slice va vl vc) os) ∧ Hid (Below w.heap.size w W) ∧ w.heap.size < W.heap.size) ⟨O.pik_new _ _ _ _ _ _ _, hv'.out.below (below_alloc _ _), below_alloc _ _, by simp⟩ ?_
  clear hv'
  rintro W ⟨k0, hv, b0, hsz⟩
  generalize hg0 : w.heap.size = g0 at k0 b0 hsz ⊢
  have c0 := k0.out.c0
  have c1 := k0.out.c1
  have c2 := k0.out.c2
  have c3 := k0.out.c3
  have c4 := k0.out.c4
  have c5 := k0.out.c5
  have hg1 : Hid (w.heap.size = g0) := hg0
  clear hg0
  go_wp2_with fail
  refine (new_no (.slice va vl vc) os n s a k f _ hv.out hr'.out).mono ?_
  rintro e W1 ⟨rfl, b1⟩
  have hB1 : Hid (Below g0 w W1) := b0.out.trans (b1.mono (by omega))
  clear b1 b0 k0 hv c0 c1 c2 c3 c4 c5
  go_wp2_with fail
  go_ret
  exact ⟨rfl, by rw [hg1.out]; exact hB1.out⟩
set_option maxHeartbeats 2000000 in
set_option maxRecDepth 100000 in
/-- whole.Past of a right pipe. -/
theorem wpast_is (v : Value) (p : Pq) (iv : Value) (qb : Nat) (is : List Inp) (z : Bool) (w : World) (hv : OpsIn w v p.os) (hr : rightP p = true) (hl : p.os.length ≤ 1000) (hI : RdI w iv qb is) (hq : qb ≤ w.heap.size) (hn : is.length ≤ 100000) (hz : decide ((stR p r0 is).L = []) = z) :
    Calls Try.prog 40 #[O.pv v p.n p.s p.a p.k p.f, iv] w fun e w' => e = .returned (.bool z) ∧ Below w.heap.size w w' := by
  obtain ⟨os, n, s, a, k, f⟩ := p
  simp only at hv hl ⊢
  obtain ⟨va, vl, vc, rfl⟩ := hv.form
  have hv' : Hid (OpsIn w (.slice va vl vc) os) := hv
  have hr' : Hid (rightP ⟨os, n, s, a, k, f⟩ = true) := hr
  have hl' : Hid (os.length ≤ 1000) := hl
  have hI' : Hid (RdI w iv qb is) := hI
  have hn' : Hid (is.length ≤ 100000) := hn
  have hzz : Hid (decide ((stR ⟨os, n, s, a, k, f⟩ r0 is).L = []) = z) := hz
  clear hv hr hl hI hn hz
  go_enter Try.func40, Try.ntmps40
  go_upto_region 1 with fail
  refine world_gen (fun W => Hid (O.Pik W w.heap.size (.slice va vl vc) n s a k f) ∧ Hid (OpsIn W (.slice va vl vc) os) ∧ Hid (RdI W iv qb is) ∧ Hid (Below w.heap.size w W) ∧ w.heap.size < W.heap.size) ⟨O.pik_new _ _ _ _ _ _ _, hv'.out.below (below_alloc _ _), hI'.out.below (below_alloc _ _), below_alloc _ _, by simp⟩ ?_
  clear hv' hI'
  rintro W ⟨k0, hv, hI, b0, hsz⟩
  generalize hg0 : w.heap.size = g0 at k0 b0 hsz hq ⊢
  have c0 := k0.out.c0
  have c1 := k0.out.c1
  have c2 := k0.out.c2
  have c3 := k0.out.c3
  have c4 := k0.out.c4
  have c5 := k0.out.c5
  have hg1 : Hid (w.heap.size = g0) := hg0
  clear hg0
  go_wp2_with fail
  refine (new_is (.slice va vl vc) ⟨os, n, s, a, k, f⟩ _ hv.out hr'.out hl'.out).mono ?_
  rintro e W1 ⟨b, q, o, g, rfl, hR, z1, z2, z3, z4, b1⟩
  have hI1 : Hid (RdI W1 iv qb is) := hI.out.below b1
  have hB1 : Hid (Below g0 w W1) := b0.out.trans (b1.mono (by omega))
  have hR1 : Hid (Rnr W1 b q o g ⟨os, n, s, a, k, f⟩ r0) := hR
  have hsz1 : W.heap.size ≤ W1.heap.size := b1.size
  clear hR b1 hI b0 k0 hv c0 c1 c2 c3 c4 c5
  go_wp2_with fail
  refine (rtake_is b q o g ⟨os, n, s, a, k, f⟩ r0 iv qb is _ hR1.out hI1.out (by omega) (by omega) (by omega) (by have := hn'.out; simp; omega) (by have := hn'.out; simp; omega) (by have := hn'.out; simp; omega)).mono ?_
  rintro e W2 ⟨u, o', rfl, hu, hR2, ho2, hch⟩
  have hB2 : Hid (Below g0 w W2) := hB1.out.trans (hch.below (by omega) (by omega) (by omega) (by omega))
  have hR3 : Hid (Rnr W2 b q o' g ⟨os, n, s, a, k, f⟩ (stR ⟨os, n, s, a, k, f⟩ r0 is)) := hR2
  have hLl := (rows_len ⟨os, n, s, a, k, f⟩ is).2
  clear hu hR2 hch hB1 hR1 hI1
  generalize stR ⟨os, n, s, a, k, f⟩ r0 is = R at hR3 hzz hLl
  obtain ⟨c0, c1, c2, c3⟩ := hR3.out.cells
  go_wp2_with fail
  refine (len_is q o' n s a R.L R.L.length _ hR3.out.pan rfl).mono ?_
  rintro e W3 ⟨rfl, he⟩; obtain rfl := he.symm; clear he
  have hzL : (Value.bool (decide ((R.L.length : Int) = 0))) = .bool z := by
    rw [← hzz.out]
    congr 1
    simp
  go_wp2_with fail
  go_ret
  exact ⟨by first | (rw [← hzL]; done) | (rw [← hzL]) | (congr 1), by rw [hg1.out]; exact hB2.out⟩
set_option maxHeartbeats 2000000 in
set_option maxRecDepth 100000 in
/-- whole.Past of a pipe that isn't right. -/
theorem wpast_no (v : Value) (os : List Oq) (n s a k f : Int) (iv : Value) (w : World) (hv : OpsIn w v os) (hr : rightP ⟨os, n, s, a, k, f⟩ = false) :
    Calls Try.prog 40 #[O.pv v n s a k f, iv] w fun e w' => e = .returned (.bool true) ∧ Below w.heap.size w w' := by
  obtain ⟨va, vl, vc, rfl⟩ := hv.form
  have hv' : Hid (OpsIn w (.slice va vl vc) os) := hv
  have hr' : Hid (rightP ⟨os, n, s, a, k, f⟩ = false) := hr
  clear hv hr
  go_enter Try.func40, Try.ntmps40
  go_upto_region 1 with fail
  refine world_gen (fun W => Hid (O.Pik W w.heap.size (.slice va vl vc) n s a k f) ∧ Hid (OpsIn W (.slice va vl vc) os) ∧ Hid (Below w.heap.size w W) ∧ w.heap.size < W.heap.size) ⟨O.pik_new _ _ _ _ _ _ _, hv'.out.below (below_alloc _ _), below_alloc _ _, by simp⟩ ?_
  clear hv'
  rintro W ⟨k0, hv, b0, hsz⟩
  generalize hg0 : w.heap.size = g0 at k0 b0 hsz ⊢
  have c0 := k0.out.c0
  have c1 := k0.out.c1
  have c2 := k0.out.c2
  have c3 := k0.out.c3
  have c4 := k0.out.c4
  have c5 := k0.out.c5
  have hg1 : Hid (w.heap.size = g0) := hg0
  clear hg0
  go_wp2_with fail
  refine (new_no (.slice va vl vc) os n s a k f _ hv.out hr'.out).mono ?_
  rintro e W1 ⟨rfl, b1⟩
  have hB1 : Hid (Below g0 w W1) := b0.out.trans (b1.mono (by omega))
  clear b1 b0 k0 hv c0 c1 c2 c3 c4 c5
  go_wp2_with fail
  go_ret
  exact ⟨rfl, by rw [hg1.out]; exact hB1.out⟩
set_option maxHeartbeats 1000000 in
set_option maxRecDepth 100000 in
/-- whole.Labels. -/
theorem labels_is (iv : Value) (qb : Nat) (is : List Inp) (w : World) (hI : RdI w iv qb is) :
    Calls Try.prog 41 #[iv] w fun e w' => e = .returned (.int .u64 (labs is : Nat)) ∧ Below w.heap.size w w' := by
  obtain ⟨hn1, hlab, ao, cap, rfl, hn2, hn3, hc⟩ := hI
  have hcell : Hid (∀ j, j < is.length → ∃ off, ao = some ⟨qb, off, none⟩ ∧ qb < w.heap.size ∧ InAt w qb (off + j * 5) (iAt is j)) := fun j hj => by
    obtain ⟨off, e1, e2, e3⟩ := hc (by omega)
    exact ⟨off, e1, e2, e3 j hj⟩
  have hlab' : Hid (∀ i ∈ is, i.e.l < 18446744073709551616) := hlab
  clear hc hlab
  obtain ⟨m, hm⟩ : ∃ m, Hid (is.length = m) := ⟨_, rfl⟩
  rw [hm.out] at hn1 hn2 hcell ⊢
  go_enter Try.func41, Try.ntmps41
  go_wp2_with fail
  go_loopw [3, 8] (fun u i wr => ∃ j N : Nat, j ≤ m ∧ i = .int .i64 j ∧ u = .int .u64 (N : Nat) ∧ Hid (labs (is.take j) = N) ∧ Below w.heap.size w wr) (fun _ i _ => m - (intOf i).toNat)
  case atStart => exact ⟨0, 0, Nat.zero_le _, rfl, rfl, rfl, Below.refl _ _⟩
  case round =>
    obtain ⟨j, N, hj, rfl, rfl, hN, hb⟩ := hrel
    by_cases hlt : j < m
    · obtain ⟨off, rfl, hq1, hin⟩ := hcell.out j hlt
      have hjl : j < is.length := by rw [hm.out]; exact hlt
      have hin2 := hin.keep (hb.block qb hq1)
      have hel := hlab'.out _ (iAt_mem is j hjl)
      have hNl : N < 18446744073709551616 := by rw [← hN.out]; exact labs_lt _ (fun i hi => hlab'.out i (List.mem_of_mem_take hi))
      have hst : Hid (labs (is.take (j + 1)) = N ||| labI (iAt is j)) := by
        have h : labs (is.take (j + 1)) = N ||| labI (iAt is j) := by rw [take_in is j hjl, labs_snoc, hN.out]
        exact h
      obtain ⟨x, hx⟩ : ∃ x, Hid (iAt is j = x) := ⟨_, rfl⟩
      rw [hx.out] at hin2 hel hst
      have hel' : Hid (x.e.l < 18446744073709551616) := hel
      have hNl' : Hid (N < 18446744073709551616) := hNl
      clear hin hx hel hN hNl
      obtain ⟨c0, c1, c2, c3, c4⟩ := hin2
      go_upto_region 5 with fail
      clear c0 c1 c2 c3 c4
      have hwz : w.heap.size ≤ wr.heap.size := hb.size
      refine world_gen (fun W => Hid (Ink W wr.heap.size x) ∧ Below w.heap.size w W) ⟨ink_new _ _, hb.trans ((below_alloc _ _).mono hwz)⟩ ?_
      clear hb
      rintro W ⟨hK, hb⟩
      generalize wr.heap.size = gi at hK hwz ⊢
      obtain ⟨mk, ⟨et, ek, ev, el⟩⟩ := x
      obtain ⟨c0, c1, c2, c3, c4⟩ := hK.out.c
      simp only at c0 c1 c2 c3 c4
      cases mk with
      | true =>
        go_wp2_with fail
        go_roundw
        case rel => exact ⟨j + 1, N, by omega, by go_num, rfl, by rw [hst.out]; exact Nat.or_zero N, hb⟩
        case measure => simp [intOf]; omega
      | false =>
        go_wp2_with fail
        go_roundw
        case rel => exact ⟨j + 1, N ||| el, by omega, by go_num, by rw [u64_or_nat N el hNl'.out hel'.out], hst.out, hb⟩
        case measure => simp [intOf]; omega
    · obtain rfl : j = m := by omega
      rw [List.take_of_length_le (Nat.le_of_eq hm.out)] at hN
      have hN2 := hN.out
      subst hN2
      go_wp2_with fail
      go_ret
      exact ⟨rfl, hb⟩
end Go.Proofs.Ytombgbdplafooaa
