/- The document's own Runner: New; Whole. -/
import Derived.Test.YtnamjnopicghhaaRefTake
import Derived.Test.YtnamjnopicghhaaMathX
import Derived.Deep.QuietTactic
import Derived.BigQuiet
namespace Go.Proofs.Ytnamjnopicghhaa
open Go.RowKit M
open O (RdO Kpk Pik Small Ints)
open O.MO (Oq Pq rightP)
set_option linter.unusedVariables false
set_option linter.unusedSimpArgs false
attribute [local go_sem ↓] Go.wp_at_zero Go.wp_at_succ

theorem okl_step {p : Pq} {r : Rs} {i : Inp} (h : Okl p.n p.s r.L) (hl : i.e.l < 18446744073709551616) : Okl p.n p.s (stepR p r i).L := by
  cases hm : i.mrk with
  | true =>
    cases hg : goes r.m i.e.t with
    | true => rw [(step_mark hm hg).1]; exact okl_drop h _
    | false => rw [(step_still hm hg).1]; exact h
  | false =>
    cases hk : okT i.e.t with
    | false => rw [step_none hm hk]; exact h
    | true =>
      by_cases hlt : i.e.t < r.m
      · rw [step_late hm hk hlt]; exact h
      · cases hx : runE p.os i.e with
        | none => rw [step_drop hm hk hlt hx]; exact h
        | some x => rw [step_put hm hk hlt hx]; exact okl_putE h (by rw [(runE_some hx).2.2]; exact hl)
theorem okl_all {p : Pq} : ∀ (is : List Inp) (r : Rs), Okl p.n p.s r.L → (∀ i ∈ is, i.e.l < 18446744073709551616) → Okl p.n p.s (stR p r is).L
  | [], r, h, _ => h
  | i :: is, r, h, hl => okl_all is _ (okl_step h (hl i (by simp))) (fun z hz => hl z (by simp [hz]))
/-- What the document's Take wants of a state. -/
theorem st_ok {p : Pq} (hr : rightB p.n p.s = true) {is : List Inp} (hl : ∀ i ∈ is, i.e.l < 18446744073709551616) (hn : is.length ≤ 60) :
    Okl p.n p.s (stR p r0 is).L ∧ (stR p r0 is).L.length ≤ 100000 ∧ (∀ q ∈ (stR p r0 is).L, 0 ≤ q.c ∧ q.c ≤ 900 ∧ q.l < 18446744073709551616) ∧ (0 ≤ (stR p r0 is).l ∧ (stR p r0 is).l ≤ 1000000) ∧ (0 ≤ (stR p r0 is).s ∧ (stR p r0 is).s ≤ 1000000) ∧ (rowsR p r0 is).length ≤ 1000 := by
  have h1 := okl_all (p := p) is r0 (okl_nil _ _) hl
  have h2 := rows_len p is
  have h3 := (cn_all hr is r0 0 (cn_nil 0) (by omega) (by omega)).1
  have h4 := all_counts p is r0
  have e1 : r0.l = 0 := rfl
  have e2 : r0.s = 0 := rfl
  refine ⟨h1, by omega, fun q hq => ?_, by omega, by omega, by omega⟩
  have := h3 q hq
  exact ⟨this.1, by omega, (h1.2 q hq).1.2.2⟩
/-- Lists of the call's own of unlike things lie in unlike blocks. -/
theorem own_ne {w : World} {B1 B2 : Nat} {e1 e2 : TypeId} {s1 s2 : Nat} {u v : Value} {n m : Nat} {xs ys : List Value} (h1 : w.ownsRow B1 e1 s1 u n xs) (h2 : w.ownsRow B2 e2 s2 v m ys) (he : e1 ≠ e2) : ∀ k, u.ownBlock = some k → v.ownBlock ≠ some k := by
  intro k hk hk2
  obtain ⟨_, ⟨rfl, _⟩ | ⟨g, cap, cur, rfl, _, hh, _⟩⟩ := h1
  · cases hk
  · simp only [Value.ownBlock, Option.some.injEq] at hk
    subst hk
    exact own_typed h2 hh (fun e => he e.symm) _ hk2 rfl
set_option maxHeartbeats 4000000 in
set_option maxRecDepth 100000 in
theorem wnew_is (v : Value) (os : List Oq) (n s a k f : Int) (w : World) (hv : OpsIn w v os) :
    Calls Try.prog 42 #[O.pv v n s a k f] w fun e w' => e = .returned (wval v n s a k f 0 0 0 (.slice none 0 0)) ∧ Below w.heap.size w w' := by
  obtain ⟨va, vl, vc, rfl⟩ := hv.form
  clear hv
  go_enter Try.func42, Try.ntmps42
  go_upto_region 1 with fail
  obtain ⟨g0, hg0⟩ : ∃ g, Hid (w.heap.size = g) := ⟨_, rfl⟩
  refine world_gen (fun X => Hid (O.Pik X w.heap.size (.slice va vl vc) n s a k f) ∧ Hid (Wk X (w.heap.size + 1) (.slice none 0 0) 0 0 0 0 0 0 0 0 (.slice none 0 0)) ∧ Hid (Below w.heap.size w X)) ⟨(O.pik_new _ _ _ _ _ _ _).call (below_alloc _ _), wk_zero _ _ (by simp), (below_alloc w _).alloc (by simp) _⟩ ?_
  rintro X ⟨hP, hZ, hB⟩
  rw [hg0.out] at hP hZ hB ⊢
  obtain ⟨gz, hgz⟩ : ∃ g, g0 + 1 = g := ⟨_, rfl⟩
  rw [hgz] at hZ ⊢
  have hlt : g0 < gz := by omega
  clear hgz
  have c0 := hP.out.c0
  have c1 := hP.out.c1
  have c2 := hP.out.c2
  have c3 := hP.out.c3
  have c4 := hP.out.c4
  have c5 := hP.out.c5
  obtain ⟨e0, e1, e2, e3, e4, e5, e6, e7, e8, e9, e10, e11, e12⟩ := hZ.out.c
  have f0 := hZ.out.free 0
  have f1 := hZ.out.free 1
  have f2 := hZ.out.free 2
  have f3 := hZ.out.free 3
  have f4 := hZ.out.free 4
  have f5 := hZ.out.free 5
  have f6 := hZ.out.free 6
  have f7 := hZ.out.free 7
  have f8 := hZ.out.free 8
  have f9 := hZ.out.free 9
  have f10 := hZ.out.free 10
  have f11 := hZ.out.free 11
  have f12 := hZ.out.free 12
  go_wp2_with fail
  have hall := wk_all hZ.out (.slice va vl vc) (.slice none 0 0) n s a k f 0 0 0
  clear e0 e1 e2 e3 e4 e5 e6 e7 e8 e9 e10 e11 e12 f0 f1 f2 f3 f4 f5 f6 f7 f8 f9 f10 f11 f12 c0 c1 c2 c3 c4 c5
  generalize ((((((((((((X.setCell ⟨gz, 0, none⟩ (.slice va vl vc)).setCell ⟨gz, 1, none⟩ (.int .i64 n)).setCell ⟨gz, 2, none⟩ (.int .i64 s)).setCell ⟨gz, 3, none⟩ (.int .i64 a)).setCell ⟨gz, 4, none⟩ (.int .i64 k)).setCell ⟨gz, 5, none⟩ (.int .i64 f)).setCell ⟨gz, 6, none⟩ (.int .i64 0)).setCell ⟨gz, 7, none⟩ (.int .i64 0)).setCell ⟨gz, 8, none⟩ (.int .i64 0)).setCell ⟨gz, 9, none⟩ (.int .i64 n)).setCell ⟨gz, 10, none⟩ (.int .i64 s)).setCell ⟨gz, 11, none⟩ (.int .i64 a)).setCell ⟨gz, 12, none⟩ (.slice none 0 0) = Z at hall ⊢
  obtain ⟨hz1, hz2, hz3, hz4⟩ := hall
  obtain ⟨e0, e1, e2, e3, e4, e5, e6, e7, e8, e9, e10, e11, e12⟩ := hz1.c
  have hbz : Below g0 w Z := hB.out.trans (hz4 _ (Nat.le_of_lt hlt))
  exact bodyPost_ret (v := wval (.slice va vl vc) n s a k f 0 0 0 (.slice none 0 0)) (by simp [results, Try.results42, go_sem, e0, e1, e2, e3, e4, e5, e6, e7, e8, e9, e10, e11, e12]) rfl ⟨rfl, by rw [hg0.out]; exact hbz⟩
set_option maxHeartbeats 8000000 in
set_option maxRecDepth 100000 in
/-- The document's own Whole. -/
theorem wwhole_is (v : Value) (p : Pq) (iv : Value) (qb : Nat) (is : List Inp) (w : World) (hv : OpsIn w v p.os) (hr : rightB p.n p.s = true) (hnb : -1099511627776 ≤ p.n ∧ p.n ≤ 1099511627776) (hI : RdI w iv qb is) (hq : qb ≤ w.heap.size) (hn : is.length ≤ 60) :
    Calls Try.prog 19 #[O.pv v p.n p.s p.a p.k p.f, iv] w fun e w' => ∃ u, e = .returned u ∧ w'.ownsRow w.heap.size 39 5 u (rowsR p r0 is).length (rcs (rowsR p r0 is)) ∧ Below w.heap.size w w' := by
  obtain ⟨os, n, s, a, k, f⟩ := p
  simp only at hv hr hnb ⊢
  obtain ⟨va, vl, vc, rfl⟩ := hv.form
  obtain ⟨hn1, hlab, ao, cap, rfl, hn2, hn3, hc⟩ := hI
  have hcell : Hid (∀ j, j < is.length → ∃ off, ao = some ⟨qb, off, none⟩ ∧ qb < w.heap.size ∧ InAt w qb (off + j * 5) (iAt is j)) := fun j hj => by
    obtain ⟨off, e1, e2, e3⟩ := hc (by omega)
    exact ⟨off, e1, e2, e3 j hj⟩
  have hlab' : Hid (∀ i ∈ is, i.e.l < 18446744073709551616) := hlab
  have hr' : Hid (rightB n s = true) := hr
  have hv' : Hid (OpsIn w (.slice va vl vc) os) := hv
  clear hc hlab hr hv
  obtain ⟨m, hm⟩ : ∃ m, Hid (is.length = m) := ⟨_, rfl⟩
  rw [hm.out] at hn1 hn2 hcell hn ⊢
  obtain ⟨i0, hi, hx0, hx1, hx2⟩ := info_parts Try.info39
  obtain ⟨g0, hg0⟩ : ∃ g, Hid (w.heap.size = g) := ⟨_, rfl⟩
  go_enter Try.func19, Try.ntmps19
  go_upto_region 1 with fail
  refine world_gen (fun X => Hid (O.Pik X w.heap.size (.slice va vl vc) n s a k f) ∧ Hid (Below w.heap.size w X)) ⟨O.pik_new _ _ _ _ _ _ _, below_alloc _ _⟩ ?_
  rintro X ⟨hP, hB⟩
  have c0 := hP.out.c0
  have c1 := hP.out.c1
  have c2 := hP.out.c2
  have c3 := hP.out.c3
  have c4 := hP.out.c4
  have c5 := hP.out.c5
  go_wp2_with fail
  refine (wnew_is (.slice va vl vc) os n s a k f _ (hv'.out.below hB.out)).mono ?_
  rintro e W1 ⟨rfl, b1⟩
  have hB1 : Hid (Below w.heap.size w W1) := hB.out.trans (b1.mono hB.out.size)
  clear hP hB b1 c0 c1 c2 c3 c4 c5
  go_upto_region 2 with fail
  refine world_gen (fun Y => Hid (Wk Y W1.heap.size (.slice va vl vc) n s a k f 0 0 0 (.slice none 0 0)) ∧ Hid (Below w.heap.size w Y)) ⟨wk_new W1 (.slice va vl vc) (.slice none 0 0) n s a k f 0 0 0, hB1.out.alloc hB1.out.size _⟩ ?_
  have hgr : w.heap.size ≤ W1.heap.size := hB1.out.size
  clear hB1
  rintro Y ⟨hW, hB⟩
  generalize W1.heap.size = gr at hW hgr ⊢
  go_wp2_with fail
  go_loopw [6, 14] (fun u i wr => ∃ (j : Nat) (r : Rs) (x : Value), j ≤ m ∧ i = .int .i64 j ∧ Hid (stR ⟨os, n, s, a, k, f⟩ r0 (is.take j) = r) ∧ Hid (Wk wr gr (.slice va vl vc) n s a k f r.m r.l r.s x) ∧ Hid (wr.ownsRow w.heap.size 141 5 x r.L.length (qcs r.L)) ∧ Hid (wr.ownsRow w.heap.size 39 5 u (rowsR ⟨os, n, s, a, k, f⟩ r0 (is.take j)).length (rcs (rowsR ⟨os, n, s, a, k, f⟩ r0 (is.take j)))) ∧ Hid (Below w.heap.size w wr)) (fun _ i _ => m - (intOf i).toNat)
  case atStart => exact ⟨0, r0, .slice none 0 0, Nat.zero_le _, rfl, rfl, hW, World.ownsRow_nil _ _ _ _, World.ownsRow_nil _ _ _ _, hB⟩
  case round =>
    obtain ⟨j, r, x, hj, rfl, hst, hW, hx, hu, hB⟩ := hrel
    by_cases hlt : j < m
    · obtain ⟨off, rfl, hq1, hin⟩ := hcell.out j hlt
      have hjl : j < is.length := by rw [hm.out]; exact hlt
      have hin2 := hin.keep (hB.out.block qb hq1)
      have hel := hlab'.out _ (iAt_mem is j hjl)
      have hok := st_ok (p := ⟨os, n, s, a, k, f⟩) hr'.out (is := is.take j) (fun i hi => hlab'.out i (List.mem_of_mem_take hi)) (by rw [List.length_take]; omega)
      rw [hst.out] at hok
      have hok' : Hid _ := hok
      have hs2 : Hid (stR ⟨os, n, s, a, k, f⟩ r0 (is.take (j + 1)) = stepR ⟨os, n, s, a, k, f⟩ r (iAt is j)) := by
        have h : stR ⟨os, n, s, a, k, f⟩ r0 (is.take (j + 1)) = stepR ⟨os, n, s, a, k, f⟩ r (iAt is j) := by rw [take_in is j hjl, stR_snoc, hst.out]
        exact h
      have hr2 : Hid (rowsR ⟨os, n, s, a, k, f⟩ r0 (is.take (j + 1)) = rowsR ⟨os, n, s, a, k, f⟩ r0 (is.take j) ++ rowR ⟨os, n, s, a, k, f⟩ r (iAt is j)) := by
        have h : rowsR ⟨os, n, s, a, k, f⟩ r0 (is.take (j + 1)) = rowsR ⟨os, n, s, a, k, f⟩ r0 (is.take j) ++ rowR ⟨os, n, s, a, k, f⟩ r (iAt is j) := by rw [take_in is j hjl, rowsR_snoc, hst.out]
        exact h
      obtain ⟨y, hy⟩ : ∃ y, Hid (iAt is j = y) := ⟨_, rfl⟩
      rw [hy.out] at hin2 hel hs2 hr2
      have hel' : Hid (y.e.l < 18446744073709551616) := hel
      obtain ⟨R1, hR1⟩ : ∃ x, Hid (rowsR ⟨os, n, s, a, k, f⟩ r0 (is.take j) = x) := ⟨_, rfl⟩
      rw [hR1.out] at hu hr2
      have hRl : Hid (R1.length ≤ 1000) := by
        have h : R1.length ≤ 1000 := by rw [← hR1.out]; exact hok'.out.2.2.2.2.2
        exact h
      clear hin hy hel hok hst hR1
      obtain ⟨d0, d1, d2, d3, d4⟩ := hin2
      go_upto_region 6 with fail
      clear d0 d1 d2 d3 d4
      have hwz : w.heap.size ≤ wr.heap.size := hB.out.size
      refine world_gen (fun X => Hid (Ink X wr.heap.size y) ∧ Hid (Wk X gr (.slice va vl vc) n s a k f r.m r.l r.s x) ∧ Hid (X.ownsRow w.heap.size 141 5 x r.L.length (qcs r.L)) ∧ Hid (X.ownsRow w.heap.size 39 5 u6 R1.length (rcs R1)) ∧ Hid (Below w.heap.size w X)) ⟨ink_new _ _, hW.out.call (below_alloc _ _), hx.out.alloc _, hu.out.alloc _, hB.out.alloc hwz _⟩ ?_
      clear hW hx hu hB
      rintro X ⟨hK, hW, hx, hu, hB⟩
      generalize wr.heap.size = gi at hK hwz ⊢
      obtain ⟨rm, rl, rs, rL⟩ := r
      simp only at hW hx
      obtain ⟨c0, c1, c2, c3, c4⟩ := hK.out.c
      obtain ⟨e0, e1, e2, e3, e4, e5, e6, e7, e8, e9, e10, e11, e12⟩ := hW.out.c
      have hXz : w.heap.size ≤ X.heap.size := hB.out.size
      go_wp2_with fail
      refine (wtake_is (.slice va vl vc) x os n s a k f rm rl rs rL y w.heap.size _ (hv'.out.below hB.out) hx.out hXz hok'.out.1 hok'.out.2.1 hok'.out.2.2.1 hnb hel'.out hok'.out.2.2.2.1 hok'.out.2.2.2.2.1).mono ?_
      rintro e W2 ⟨r', x', q, hrr, rfl, hx2, hq2, b2⟩
      have hrr' : Hid _ := hrr
      obtain ⟨qa, qc, rfl⟩ := own_len hq2
      obtain ⟨ya, yc, rfl⟩ := own_len hx2
      have hW2 : Hid (Wk W2 gr (.slice va vl vc) n s a k f rm rl rs x) := hW.out.call b2
      have hu2 : Hid (W2.ownsRow w.heap.size 39 5 u6 R1.length (rcs R1)) := own_below hu.out b2
      have hB2 : Hid (Below w.heap.size w W2) := hB.out.trans (b2.mono hXz)
      have hq3 : Hid (W2.ownsRow w.heap.size 39 5 (.slice qa (rowR ⟨os, n, s, a, k, f⟩ ⟨rm, rl, rs, rL⟩ y).length qc) (rowR ⟨os, n, s, a, k, f⟩ ⟨rm, rl, rs, rL⟩ y).length (rcs (rowR ⟨os, n, s, a, k, f⟩ ⟨rm, rl, rs, rL⟩ y))) := O.own_base hq2 hXz
      have hx3 : Hid (W2.ownsRow w.heap.size 141 5 (.slice ya r'.L.length yc) r'.L.length (qcs r'.L)) := hx2
      have hrl2 := (step_len ⟨os, n, s, a, k, f⟩ ⟨rm, rl, rs, rL⟩ y).2
      have hrl3 : Hid ((rowR ⟨os, n, s, a, k, f⟩ ⟨rm, rl, rs, rL⟩ y).length ≤ 100000) := Nat.le_trans hrl2 hok'.out.2.1
      clear hW hx hu hB hq2 hx2 b2 hrr hrl2 hK c0 c1 c2 c3 c4 e0 e1 e2 e3 e4 e5 e6 e7 e8 e9 e10 e11 e12
      generalize rowR ⟨os, n, s, a, k, f⟩ ⟨rm, rl, rs, rL⟩ y = Q at hq3 hr2 hrl3 ⊢
      obtain ⟨e0, e1, e2, e3, e4, e5, e6, e7, e8, e9, e10, e11, e12⟩ := hW2.out.c
      have f0 := hW2.out.free 0
      have f1 := hW2.out.free 1
      have f2 := hW2.out.free 2
      have f3 := hW2.out.free 3
      have f4 := hW2.out.free 4
      have f5 := hW2.out.free 5
      have f6 := hW2.out.free 6
      have f7 := hW2.out.free 7
      have f8 := hW2.out.free 8
      have f9 := hW2.out.free 9
      have f10 := hW2.out.free 10
      have f11 := hW2.out.free 11
      have f12 := hW2.out.free 12
      go_upto_region 8 with fail
      have hall := wk_all hW2.out (.slice va vl vc) (.slice ya r'.L.length yc) n s a k f r'.m r'.l r'.s
      clear e0 e1 e2 e3 e4 e5 e6 e7 e8 e9 e10 e11 e12 f0 f1 f2 f3 f4 f5 f6 f7 f8 f9 f10 f11 f12
      generalize ((((((((((((W2.setCell ⟨gr, 0, none⟩ (.slice va vl vc)).setCell ⟨gr, 1, none⟩ (.int .i64 n)).setCell ⟨gr, 2, none⟩ (.int .i64 s)).setCell ⟨gr, 3, none⟩ (.int .i64 a)).setCell ⟨gr, 4, none⟩ (.int .i64 k)).setCell ⟨gr, 5, none⟩ (.int .i64 f)).setCell ⟨gr, 6, none⟩ (.int .i64 r'.m)).setCell ⟨gr, 7, none⟩ (.int .i64 r'.l)).setCell ⟨gr, 8, none⟩ (.int .i64 r'.s)).setCell ⟨gr, 9, none⟩ (.int .i64 n)).setCell ⟨gr, 10, none⟩ (.int .i64 s)).setCell ⟨gr, 11, none⟩ (.int .i64 a)).setCell ⟨gr, 12, none⟩ (.slice ya r'.L.length yc) = Z at hall ⊢
      obtain ⟨hz1, hz2, hz3, hz4⟩ := hall
      have hx9 : Hid (Z.ownsRow w.heap.size 141 5 (.slice ya r'.L.length yc) r'.L.length (qcs r'.L)) := own_blk hx3.out (Nat.le_of_eq hz3.symm) (fun q hq => hz2 q (own_typed hx3.out hW2.out (by decide) q hq))
      have hu9 : Hid (Z.ownsRow w.heap.size 39 5 u6 R1.length (rcs R1)) := own_blk hu2.out (Nat.le_of_eq hz3.symm) (fun q hq => hz2 q (own_typed hu2.out hW2.out (by decide) q hq))
      have hq9 : Hid (Z.ownsRow w.heap.size 39 5 (.slice qa Q.length qc) Q.length (rcs Q)) := own_blk hq3.out (Nat.le_of_eq hz3.symm) (fun q hq => hz2 q (own_typed hq3.out hW2.out (by decide) q hq))
      have hBZ : Hid (Below w.heap.size w Z) := hB2.out.trans (hz4 _ hgr)
      have hWZ : Hid (Wk Z gr (.slice va vl vc) n s a k f r'.m r'.l r'.s (.slice ya r'.L.length yc)) := hz1
      have hZz : w.heap.size ≤ Z.heap.size := hBZ.out.size
      clear hz1 hz2 hz3 hz4 hx3 hu2 hq3 hB2 hW2
      go_wp2_with (at_builtin; refine wpList_append_srcG _ (by rfl) _ _ 34 rfl 5 w.heap.size 39 i0 rzero 40 Try.underlying34 hi hx0 hx1 hx2 rfl (by decide) u6 R1.length (rcs R1) rfl hu9.out (.slice qa Q.length qc) Q.length (rcs Q) rfl (srcN_own hq9.out) (rcs_one _) ?c1 ?c2 ?c3 ?_)
      case c1 => have := hRl.out; have := hrl3.out; unfold maxLen; omega
      case c2 => have := hRl.out; have := hrl3.out; omega
      case c3 => exact hZz
      intro v8 W8 o8 b8 g8
      have hW8 : Hid (Wk W8 gr (.slice va vl vc) n s a k f r'.m r'.l r'.s (.slice ya r'.L.length yc)) := hWZ.out.keep (g8.block gr hWZ.out.lt (fun e => own_typed hu9.out hWZ.out (by decide) gr e.symm rfl))
      have hx8 : Hid (W8.ownsRow w.heap.size 141 5 (.slice ya r'.L.length yc) r'.L.length (qcs r'.L)) := own_grown hx9.out g8 (fun z hz => own_ne hx9.out hu9.out (by decide) z hz)
      have hB8 : Hid (Below w.heap.size w W8) := hBZ.out.trans b8
      have hs9 : Hid (stR ⟨os, n, s, a, k, f⟩ r0 (is.take (j + 1)) = r') := by
        have h : stR ⟨os, n, s, a, k, f⟩ r0 (is.take (j + 1)) = r' := by rw [hs2.out]; exact hrr'.out
        exact h
      have ho8 : Hid (W8.ownsRow w.heap.size 39 5 v8 (rowsR ⟨os, n, s, a, k, f⟩ r0 (is.take (j + 1))).length (rcs (rowsR ⟨os, n, s, a, k, f⟩ r0 (is.take (j + 1))))) := by
        have h : W8.ownsRow w.heap.size 39 5 v8 (rowsR ⟨os, n, s, a, k, f⟩ r0 (is.take (j + 1))).length (rcs (rowsR ⟨os, n, s, a, k, f⟩ r0 (is.take (j + 1)))) := by rw [hr2.out, rcs_append, List.length_append]; exact o8
        exact h
      clear o8 b8 g8 hWZ hx9 hu9 hq9 hBZ hs2 hr2 hrr' hok'
      go_wp2_with fail
      go_roundw
      case rel => exact ⟨j + 1, r', _, by omega, by go_num, hs9, hW8, hx8, ho8, hB8⟩
      case measure => simp [intOf]; omega
    · obtain rfl : m = j := by omega
      rw [List.take_of_length_le (Nat.le_of_eq hm.out)] at hu
      go_wp2_with fail
      go_ret
      exact ⟨_, rfl, hu.out, hB.out⟩
end Go.Proofs.Ytnamjnopicghhaa
