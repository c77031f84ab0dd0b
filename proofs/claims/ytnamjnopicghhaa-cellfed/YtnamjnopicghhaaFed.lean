/- CellFed: what is fed waits whatever room or quota there is, with its own label. -/
import Derived.Test.YtnamjnopicghhaaLawAll
import Derived.Deep.QuietTactic
import Derived.BigQuiet
namespace Go.Proofs.Ytnamjnopicghhaa
open Go.RowKit M
open O (Small Ints kv Kpk Pik)
open O.MO (Oq Pq rightP)
set_option linter.unusedVariables false
set_option linter.unusedSimpArgs false
attribute [local go_sem ↓] Go.wp_at_zero Go.wp_at_succ

namespace M
theorem fed_all {p : Pq} (hos : p.os = []) : ∀ (is : List Inp) (r : Rs), r.m = 0 → (∀ i ∈ is, i.mrk = false ∧ okT i.e.t = true) →
    rowsR p r is = [] ∧ (stR p r is).m = 0 ∧ (stR p r is).l = r.l ∧ (stR p r is).s = r.s + is.length
  | [], r, h, _ => ⟨rfl, h, rfl, by simp [stR]⟩
  | i :: is, r, h, ht => by
    obtain ⟨hm, hk⟩ := ht i (by simp)
    have hx : runE p.os i.e = some i.e := by rw [hos]; exact runE_nil _
    have h0 : 0 ≤ i.e.t := by have := of_decide_eq_true (p := 0 ≤ i.e.t ∧ i.e.t ≤ 1099511627776) hk; exact this.1
    have hl : ¬ i.e.t < r.m := by omega
    obtain ⟨g1, g2, g3, g4⟩ := fed_all hos is (stepR p r i) (by rw [step_put hm hk hl hx]; exact h) (fun z hz => ht z (by simp [hz]))
    have e1 : rowsR p r (i :: is) = rowR p r i ++ rowsR p (stepR p r i) is := rfl
    have e2 : stR p r (i :: is) = stR p (stepR p r i) is := rfl
    rw [e1, e2, g1, row_event hm, g2, g3, g4, step_put hm hk hl hx]
    refine ⟨rfl, rfl, rfl, ?_⟩
    simp only [List.length_cons]
    omega
theorem fed_some {p : Pq} (hr : rightB p.n p.s = true) (hos : p.os = []) (is : List Inp) (h : ∀ i ∈ is, i.mrk = false ∧ okT i.e.t = true) (hl : is.length ≤ 100) (h0 : 0 < is.length) : 0 < (stR p r0 is).L.length := by
  obtain ⟨_, _, d, h1, h2, h3, h4⟩ := cn_all (p := p) hr is r0 0 (cn_nil _) (by decide) (by omega)
  obtain ⟨g1, g2, g3, g4⟩ := fed_all hos is r0 rfl h
  have h5 := h4 hos
  rw [g1] at h1
  rw [g3, g4] at h5
  have h6 : sumC ([] : List Pn) = 0 := rfl
  rw [h6] at h1
  have h1' : sumC (stR p r0 is).L = d := by omega
  have h8 : r0.l = 0 := rfl
  have h9 : r0.s = 0 := rfl
  by_cases hz : (stR p r0 is).L.length = 0
  · rw [List.eq_nil_of_length_eq_zero hz, h6] at h1'
    omega
  · omega
end M
/-- What stands in the round: all that waits are events with this label. -/
def Wf (Lb j : Nat) (wait : List Inp) : Prop := wait.length ≤ j ∧ ∀ x ∈ wait, x.mrk = false ∧ 0 ≤ x.e.t ∧ x.e.t ≤ 120 ∧ x.e.l = Lb
theorem wf_snoc {Lb j : Nat} {wait : List Inp} (h : Wf Lb j wait) (t k v : Int) (h0 : 0 ≤ t) (h1 : t ≤ 120) : Wf Lb (j + 1) (wait ++ [⟨false, ⟨t, k, v, Lb⟩⟩]) := by
  refine ⟨by have := h.1; simp; omega, fun x hx => ?_⟩
  rcases List.mem_append.1 hx with hx | hx
  · exact h.2 x hx
  · obtain rfl := List.mem_singleton.1 hx
    exact ⟨rfl, h0, h1, rfl⟩
set_option maxHeartbeats 8000000 in
set_option maxRecDepth 100000 in
theorem cellFed_walk (k : KeepIn) (la : Option Addr) (ll lc : Nat) (id fr : Int) (w : World) (hk : IsKeep w k) (hI : Ins4 w la ll lc) (hid : (Lit.int .i64 id).wf = true) (hfr : (Lit.int .u64 fr).wf = true) :
    Calls Try.prog 6 #[kin k, .slice la ll lc, .int .i64 id, .int .u64 fr] w fun e w' => e = .returned (.bool true) ∧ Below w.heap.size w w' := by
  obtain ⟨ao, lo, co, an, ln, cn, kn, ks, kg, kk, kf⟩ := k
  unfold kin
  obtain ⟨hk1, hk2⟩ := hk
  simp only at hk1 hk2
  have hI' : Hid (Ins4 w la ll lc) := hI
  obtain ⟨F, rfl, hF⟩ := wf_nat hfr
  clear hI hid hfr
  obtain ⟨Lb, hLb⟩ : ∃ Lb, Hid ((F ||| 1 : Nat) = Lb) := ⟨_, rfl⟩
  have hLb0 : Lb ≠ 0 := by
    rw [← hLb.out]
    have h : 1 ≤ F ||| 1 := Nat.right_le_or
    omega
  have hLb1 : Lb < 18446744073709551616 := by
    rw [← hLb.out]
    exact Nat.or_lt_two_pow (n := 64) hF (by decide)
  have hor : bits BinOp.or IntKind.u64 (F : Int) 1 = (Lb : Int) := by
    have h := u64_or_nat F 1 hF (by decide)
    rw [hLb.out] at h
    exact h
  go_enter Try.func6, Try.ntmps6
  go_upto_region 1 with fail
  refine world_gen (fun W => Hid (Kpk W w.heap.size (.slice ao lo co) (.slice an ln cn) kn ks kg kk kf) ∧ Hid (Ints W ao lo co) ∧ Hid (Ints W an ln cn) ∧ Hid (St w W [])) ⟨O.kpk_new _ _ _ _ _ _ _ _, hk1.call (below_alloc _ _), hk2.call (below_alloc _ _), (st_start w).below (below_alloc _ _)⟩ ?_
  clear hk1 hk2
  rintro W ⟨hK, hk1, hk2, hB⟩
  generalize w.heap.size = g0 at hK ⊢
  have c0 := hK.out.c0
  have c1 := hK.out.c1
  have c2 := hK.out.c2
  have c3 := hK.out.c3
  have c4 := hK.out.c4
  have c5 := hK.out.c5
  have c6 := hK.out.c6
  go_wp2_with fail
  refine (kpipe_st ao lo co an ln cn kn ks kg kk kf _ hB.out hk1.out hk2.out).mono ?_
  rintro e W1 ⟨p, ua, uc, hSm, rfl, hS1, _⟩
  have hS' : Hid (Small p) := hSm
  have hS : Hid (St w W1 (opT (.slice ua p.os.length uc) p.os :: [])) := hS1
  clear hK hk1 hk2 c0 c1 c2 c3 c4 c5 c6 hB hS1 hSm
  go_upto_region 2 with fail
  refine world_gen (fun X => Hid (St w X (pkT W1.heap.size (.slice ua p.os.length uc) p :: opT (.slice ua p.os.length uc) p.os :: []))) (hS.out.newBlk _ _ rfl) ?_
  clear hS
  generalize W1.heap.size = gp
  rintro W hS
  have hSm2 := small_plain (os := p.os) (n := p.n) (s := p.s) (a := p.a) (k := p.k) (f := p.f) hS'.out
  have hrb := (small_new hS'.out).2.2.2
  obtain ⟨q, hq⟩ : ∃ q : Pq, q = ⟨[], p.n, p.s, p.a, p.k, p.f⟩ := ⟨_, rfl⟩
  have hqr : Hid (rightP q = true) := by
    have h : rightP q = true := by rw [hq]; exact hSm2
    exact h
  have hqo : Hid (q.os = []) := by
    have h : q.os = [] := by rw [hq]
    exact h
  have hqb : Hid (rightB q.n q.s = true) := by
    have h : rightB q.n q.s = true := by rw [hq]; exact hrb
    exact h
  have e1 : p.n = q.n := by rw [hq]
  have e2 : p.s = q.s := by rw [hq]
  have e3 : p.a = q.a := by rw [hq]
  have e4 : p.k = q.k := by rw [hq]
  have e5 : p.f = q.f := by rw [hq]
  have hk : O.Pik W gp (.slice ua p.os.length uc) p.n p.s p.a p.k p.f := hS.out.blk
  have c0 := hk.c0
  have f0 := hk.free 0
  have hS2 : Hid (St w (W.setCell ⟨gp, 0, none⟩ (.slice none 0 0)) (pkT gp (.slice none 0 0) q :: [])) := by
    have h : St w (W.setCell ⟨gp, 0, none⟩ (.slice none 0 0)) (pkT gp (.slice none 0 0) q :: []) := by
      have h1 : St w (W.setCell ⟨gp, 0, none⟩ (.slice none 0 0)) (pkT gp (.slice none 0 0) q :: opT (.slice ua p.os.length uc) p.os :: []) := by
        refine hS.out.setB 0 _ ?_
        rw [← e1, ← e2, ← e3, ← e4, ← e5]
        unfold O.Pik at hk
        simp [World.setCell, Array.getElem?_modify, hk]
      exact h1.rm 1
    exact h
  clear hk hS hSm2 hrb hq e1 e2 e3 e4 e5
  go_upto_region 3 with fail
  clear c0 f0
  generalize W.setCell ⟨gp, 0, none⟩ (.slice none 0 0) = W2 at *
  go_wp2_with fail
  refine (O.within_any id 0 7 _ (by decide) (by decide) (by decide)).mono ?_
  rintro e W' ⟨⟨i, hi0, hi7, rfl⟩, he⟩; obtain rfl := he.symm; clear he
  obtain ⟨n, rfl⟩ := Int.eq_ofNat_of_zero_le hi0
  have hn : n < 8 := by omega
  have hk : O.Pik W2 gp (.slice none 0 0) q.n q.s q.a q.k q.f := hS2.out.blk
  have c0 := hk.c0
  have c1 := hk.c1
  have c2 := hk.c2
  have c3 := hk.c3
  have c4 := hk.c4
  have c5 := hk.c5
  clear hk
  go_upto_region 4 with fail
  go_wp2_with fail
  refine (cnew_is (p := q) (.slice none 0 0) (n : Nat) 0 0 _ hS2.out (by rw [hqo.out]; exact opsIn_nil _) hqr.out (by rw [hqo.out]; decide) ⟨by omega, by omega⟩ (.inl ⟨by decide, rfl⟩)).mono ?_
  rintro e V1 ⟨c, rfl, hN⟩
  have hS3 : Hid (St w V1 (cel c q (n : Nat) 0 0 0 [] [] :: [])) := hN.rm 1
  clear hN hS2 c0 c1 c2 c3 c4 c5
  go_wp2_with fail
  refine (inputs_st la ll lc _ hS3.out (hI'.out.below hS3.out.b (Nat.le_refl _) hS3.out.size)).mono ?_
  rintro e W3 ⟨is, ia, ic, rfl, hl25, hG, hN⟩
  have hS : Hid (St w W3 (cel c q (n : Nat) 0 0 0 [] [] :: inl (.slice ia is.length ic) is :: [])) := hN.sw
  have hG' : Hid (∀ i ∈ is, Good i) := hG
  clear hN hS3 hI' hG
  obtain ⟨m, hm⟩ : ∃ m, Hid (is.length = m) := ⟨_, rfl⟩
  rw [hm.out] at hl25 hS ⊢
  go_wp2_with fail
  clear hor
  go_loopw [12, 33] (fun nv i wr => ∃ (j f : Nat) (wait : List Inp), j ≤ m ∧ f ≤ j ∧ nv = .int .i64 f ∧ i = .int .i64 j ∧ Hid (Wf Lb j wait ∧ wait.length = f) ∧ Hid (St w wr (cel c q (n : Nat) 0 0 (f : Nat) wait [] :: inl (.slice ia m ic) is :: []))) (fun _ i _ => m - (intOf i).toNat)
  case atStart => exact ⟨0, 0, [], Nat.zero_le _, Nat.le_refl _, rfl, rfl, ⟨⟨by simp, fun x hx => by cases hx⟩, rfl⟩, hS⟩
  case round =>
    obtain ⟨j, f, wait, hj, hfj, rfl, rfl, hW, hS5⟩ := hrel
    clear hS
    by_cases hlt : j < m
    · obtain ⟨g, off, rfl, hin⟩ := hS5.out.inAt (v := ia) (n := m) (c := ic) (is := is) (by simp) j (by rw [hm.out]; exact hlt)
      obtain ⟨x, hx⟩ : ∃ x, Hid (iAt is j = x) := ⟨_, rfl⟩
      have hg : Good x := by rw [← hx.out]; exact hG'.out _ (iAt_mem is j (by rw [hm.out]; exact hlt))
      rw [hx.out] at hin
      clear hx
      obtain ⟨d0, d1, d2, d3, d4⟩ := hin
      go_upto_region 12 with fail
      clear d0 d1 d2 d3 d4
      refine world_gen (fun X => Hid (St w X (inkT wr.heap.size x :: cel c q (n : Nat) 0 0 (f : Nat) wait [] :: inl (.slice (some ⟨g, off, none⟩) m ic) is :: []))) (hS5.out.newBlk _ _ rfl) ?_
      clear hS5
      generalize wr.heap.size = g1
      rintro V4 hS
      obtain ⟨mk, ⟨t, ky, y, lb⟩⟩ := x
      have hK : Ink V4 g1 ⟨mk, ⟨t, ky, y, lb⟩⟩ := hS.out.blk
      obtain ⟨d0, d1, d2, d3, d4⟩ := hK.c
      have f4 := hK.thaw 4
      simp only [Nat.zero_add] at d0 d1 d2 d3 d4
      cases mk with
      | true =>
        have hS6 : Hid (St w V4 (cel c q (n : Nat) 0 0 (f : Nat) wait [] :: inl (.slice (some ⟨g, off, none⟩) m ic) is :: [])) := hS.out.drop
        have hW' : Hid (Wf Lb (j + 1) wait ∧ wait.length = f) := ⟨⟨Nat.le_succ_of_le hW.out.1.1, hW.out.1.2⟩, hW.out.2⟩
        clear hK hS hg
        go_wp2_with fail
        go_roundw
        case rel => exact ⟨j + 1, f, wait, by omega, by omega, by go_num, by go_num, hW', hS6⟩
        case measure => simp [intOf]; omega
      | false =>
        obtain ⟨_, ht0, ht1, hk0, hk1, _⟩ : false = false ∧ 0 ≤ t ∧ t ≤ 120 ∧ 0 ≤ ky ∧ ky ≤ 3 ∧ True := by
          rcases hg with h | h
          · exact absurd h.1 (by simp)
          · exact ⟨rfl, h.2.1, h.2.2.1, h.2.2.2.1, h.2.2.2.2.1, trivial⟩
        have hS6 : Hid (St w (V4.setCell ⟨g1, 4, none⟩ (.int .u64 (Lb : Int))) (inkT g1 ⟨false, ⟨t, ky, y, Lb⟩⟩ :: cel c q (n : Nat) 0 0 (f : Nat) wait [] :: inl (.slice (some ⟨g, off, none⟩) m ic) is :: [])) := hS.out.setB 4 _ (hK.setl Lb)
        clear hK hS hg
        go_upto_region 14 with fail
        clear d0 d1 d2 d3 d4 f4
        generalize V4.setCell ⟨g1, 4, none⟩ (.int .u64 (Lb : Int)) = V5 at *
        obtain ⟨d0, d1, d2, d3, d4⟩ := (show Ink V5 g1 ⟨false, ⟨t, ky, y, Lb⟩⟩ from hS6.out.blk).c
        simp only [Nat.zero_add] at d0 d1 d2 d3 d4
        go_wp2_with fail
        refine (feed_is ⟨t, ky, y, Lb⟩ _ hS6.out.sw hLb1 (by have := hW.out.1.1; omega) (wait ++ [⟨false, ⟨t, ky, y, Lb⟩⟩]) (.inl ⟨decide_eq_true ⟨by simp only; omega, by simp only; omega, hLb0⟩, rfl⟩)).mono ?_
        rintro e V6 ⟨rfl, hN⟩
        have hS7 : Hid (St w V6 (inkT g1 ⟨false, ⟨t, ky, y, Lb⟩⟩ :: cel c q (n : Nat) 0 0 (f : Nat) (wait ++ [⟨false, ⟨t, ky, y, Lb⟩⟩]) [] :: inl (.slice (some ⟨g, off, none⟩) m ic) is :: [])) := hN.sw
        clear hN hS6 d0 d1 d2 d3 d4
        obtain ⟨v, b, vr, vt, hO⟩ := hS7.out.drop.opn
        have d3 := hO.ck.c3
        obtain ⟨qv, _⟩ := hO.sw.qv
        clear hO
        go_upto_region 16 with fail
        go_wp2_with fail
        refine (qwaiting_is v (wait ++ [⟨false, ⟨t, ky, y, Lb⟩⟩]) _ qv).mono ?_
        rintro e V7 ⟨rfl, hb7⟩
        have hS8 : Hid (St w V7 (inkT g1 ⟨false, ⟨t, ky, y, Lb⟩⟩ :: cel c q (n : Nat) 0 0 (f : Nat) (wait ++ [⟨false, ⟨t, ky, y, Lb⟩⟩]) [] :: inl (.slice (some ⟨g, off, none⟩) m ic) is :: [])) := hS7.out.below hb7
        have hlen : (((wait ++ [(⟨false, ⟨t, ky, y, Lb⟩⟩ : Inp)]).length : Nat) : Int) = (f : Int) + 1 := by have := hW.out.2; simp; omega
        rw [hlen]
        clear hlen hS7 hb7 d3 qv
        obtain ⟨d0, d1, d2, d3, d4⟩ := (show Ink V7 g1 ⟨false, ⟨t, ky, y, Lb⟩⟩ from hS8.out.blk).c
        simp only [Nat.zero_add] at d0 d1 d2 d3 d4
        go_wp2_with fail
        refine (offer_is 99 ⟨false, ⟨t, ky, y, Lb⟩⟩ _ hS8.out.sw hn (by decide) (by decide) ⟨by omega, by omega⟩ (by have := hW.out.1.1; simp; omega) 4 0 0 ((f : Nat) + 1) (wait ++ [⟨false, ⟨t, ky, y, Lb⟩⟩]) (.inr (.inl ⟨decide_eq_true ⟨by simp only; omega, by simp only; omega⟩, rfl, rfl, rfl, rfl, rfl, rfl⟩))).mono ?_
        rintro e V8 ⟨rfl, hN⟩
        have hS9 : Hid (St w V8 (cel c q (n : Nat) 0 0 ((f + 1 : Nat) : Int) (wait ++ [⟨false, ⟨t, ky, y, Lb⟩⟩]) [] :: inl (.slice (some ⟨g, off, none⟩) m ic) is :: [])) := hN.rm 1
        have hW' : Hid (Wf Lb (j + 1) (wait ++ [⟨false, ⟨t, ky, y, Lb⟩⟩]) ∧ (wait ++ [(⟨false, ⟨t, ky, y, Lb⟩⟩ : Inp)]).length = f + 1) := ⟨wf_snoc hW.out.1 t ky y ht0 ht1, by have := hW.out.2; simp; omega⟩
        clear hN hS8 d0 d1 d2 d3 d4
        go_wp2_with fail
        go_roundw
        case rel => exact ⟨j + 1, f + 1, wait ++ [⟨false, ⟨t, ky, y, Lb⟩⟩], by omega, by omega, by go_num, by go_num, hW', hS9⟩
        case measure => simp [intOf]; omega
    · have hW2 : Hid (Wf Lb m wait ∧ wait.length = f) := by
        have h : Wf Lb m wait ∧ wait.length = f := by
          obtain rfl : j = m := by omega
          exact hW.out
        exact h
      have hall : ∀ i ∈ wait, i.mrk = false ∧ okT i.e.t = true := fun i hi => by
        obtain ⟨a1, a2, a3, a4⟩ := hW2.out.1.2 i hi
        exact ⟨a1, decide_eq_true ⟨a2, by omega⟩⟩
      have hf25 : f ≤ 25 := by have := hW2.out.1.1; have := hW2.out.2; omega
      have hfed := fed_all hqo.out wait r0 rfl hall
      have hsome : Hid (0 < f → 0 < (stR q r0 wait).L.length) := by
        have h : 0 < f → 0 < (stR q r0 wait).L.length := fun h => fed_some hqb.out hqo.out wait hall (by have := hW2.out.2; omega) (by have := hW2.out.2; omega)
        exact h
      have hlab : Hid (LabE Lb (stR q r0 wait).L) := by
        have h : LabE Lb (stR q r0 wait).L := (labE_all (p := q) wait r0 (labE_nil _) (fun x hx => .inr (hW2.out.1.2 x hx).2.2.2)).1
        exact h
      have hLl : (stR q r0 wait).L.length ≤ 200 := by
        have := (rows_len q wait).2
        have := hW2.out.2
        omega
      obtain ⟨r, hr⟩ : ∃ r, Hid (stR q r0 wait = r) := ⟨_, rfl⟩
      have hrr : Hid (r.m = 0 ∧ r.l = 0 ∧ r.s = (f : Int) ∧ rowsR q r0 wait = []) := by
        have h : r.m = 0 ∧ r.l = 0 ∧ r.s = (f : Int) ∧ rowsR q r0 wait = [] := by
          obtain ⟨g1, g2, g3, g4⟩ := hfed
          rw [← hr.out]
          refine ⟨g2, g3, ?_, g1⟩
          rw [g4, hW2.out.2]
          show (0 : Int) + f = f
          omega
        exact h
      rw [hr.out] at hsome hlab hLl
      have hwl : Hid (wait.length = f) := hW2.out.2
      have hS6 : Hid (St w wr (cel c q (n : Nat) 0 0 (f : Nat) wait [] :: [])) := hS5.out.rm 1
      clear hall hfed hW hW2 hS5 hG'
      go_wp2_with fail
      refine (feed_is ⟨-1, 0, 0, 1⟩ _ hS6.out (by decide) (by have := hwl.out; omega) wait (.inr ⟨by decide, rfl⟩)).mono ?_
      rintro e V1 ⟨rfl, hN⟩
      have hS7 : Hid (St w V1 (cel c q (n : Nat) 0 0 (f : Nat) wait [] :: [])) := hN
      clear hN hS6
      go_wp2_with fail
      refine (feed_is ⟨1, 0, 0, 0⟩ _ hS7.out (by decide) (by have := hwl.out; omega) wait (.inr ⟨by decide, rfl⟩)).mono ?_
      rintro e V2 ⟨rfl, hN⟩
      have hS8 : Hid (St w V2 (cel c q (n : Nat) 0 0 (f : Nat) wait [] :: [])) := hN
      clear hN hS7
      obtain ⟨v, b, vr, vt, hO⟩ := hS8.out.opn
      have hO1 : Hid (St w V2 (cb c 0 0 (f : Nat) v b (n : Nat) vr vt :: inl v wait :: rnt b q (stR q r0 []) :: rwl vr (rowsR q r0 []) :: inl vt [] :: [])) := hO
      have d3 := hO.ck.c3
      obtain ⟨qv, _⟩ := hO.sw.qv
      clear hO hS8
      go_wp2_with fail
      refine (qwaiting_is v wait _ qv).mono ?_
      rintro e V3 ⟨rfl, hb3⟩
      rw [hwl.out]
      have hO2 : Hid (St w V3 (cb c 0 0 (f : Nat) v b (n : Nat) vr vt :: inl v wait :: rnt b q (stR q r0 []) :: rwl vr (rowsR q r0 []) :: inl vt [] :: [])) := hO1.out.below hb3
      clear hb3 hO1 d3 qv
      have d0 := hO2.out.ck.c0
      have d1 := hO2.out.ck.c1
      have d2 := hO2.out.ck.c2
      go_wp2_with fail
      refine (qspent_is 0 0 (f : Nat) _).mono ?_
      rintro e V4 ⟨rfl, hb3⟩
      have hO3 : Hid (St w V4 (cb c 0 0 (f : Nat) v b (n : Nat) vr vt :: inl v wait :: rnt b q (stR q r0 []) :: rwl vr (rowsR q r0 []) :: inl vt [] :: [])) := hO2.out.below hb3
      clear hb3 hO2 d0 d1 d2
      have d0 := hO3.out.ck.c0
      have d1 := hO3.out.ck.c1
      have d2 := hO3.out.ck.c2
      go_wp2_with fail
      refine (qrefused_is 0 0 (f : Nat) _).mono ?_
      rintro e V5 ⟨rfl, hb3⟩
      have hS9 : Hid (St w V5 (cel c q (n : Nat) 0 0 (f : Nat) wait [] :: [])) := (hO3.out.below hb3).cls
      clear hb3 hO3 d0 d1 d2
      go_wp2_with fail
      refine (serve_is 99 _ hS9.out f (.inr (.inr ⟨by rw [hwl.out]; omega, hwl.out.symm⟩)) (by have := hwl.out; simp; omega)).mono ?_
      rintro e V6 ⟨u, rfl, hN⟩
      have hdr : wait.drop f = [] := List.drop_of_length_le (by have := hwl.out; omega)
      have htk : wait.take f = wait := List.take_of_length_le (by have := hwl.out; omega)
      rw [hdr, htk, List.nil_append] at hN
      have hS10 : Hid (St w V6 (cel c q (n : Nat) 0 0 (f : Nat) [] wait :: [])) := hN.drop
      clear hN hS9 hdr htk
      obtain ⟨v2, b2, vr2, vt2, hO⟩ := hS10.out.opn
      rw [hr.out] at hO
      obtain ⟨F2, ⟨q1, o1, gg, hR, _⟩, _⟩ := (hO.re [2, 0, 1] 3).get
      have hR' : Hid (Rnr V6 b2 q1 o1 gg q r) := hR
      have hk6 : Hid (Ckb V6 c 0 0 (f : Nat) v2 b2 (n : Nat) vr2 vt2) := hO.ck
      have hq6 : Hid (Qv V6 v2 []) := hO.sw.qv.1
      clear hO
      have d4 := hk6.out.c4
      obtain ⟨uu, h1, hP, _⟩ := hR
      have x0 := h1.c0
      have x1 := h1.c1
      have x2 := h1.c2
      have x3 := h1.c3
      rw [hrr.out.2.2.1] at x2
      clear h1 hP
      go_wp2_with fail
      refine (seen_is r.m r.l (f : Nat) _).mono ?_
      rintro e V7 ⟨rfl, hb7⟩
      have hS11 : Hid (St w V7 (cel c q (n : Nat) 0 0 (f : Nat) [] wait :: [])) := hS10.out.below hb7
      have hR7 : Hid (Rnr V7 b2 q1 o1 gg q r) := hR'.out.below hb7
      have hk7 : Hid (Ckb V7 c 0 0 (f : Nat) v2 b2 (n : Nat) vr2 vt2) := hk6.out.call hb7
      have hq7 : Hid (Qv V7 v2 []) := hq6.out.below hb7
      clear hS10 hR' hk6 hq6 hb7 d4 x0 x1 x2 x3
      have d4 := hk7.out.c4
      obtain ⟨uu, h1, hP, _⟩ := hR7.out
      have x3 := h1.c3
      clear h1
      go_wp2_with fail
      refine (open_is q1 o1 q.n q.s q.a r.L _ hP (by omega)).mono ?_
      rintro e V8 ⟨u3, rfl, hu3, hb8⟩
      obtain ⟨ra, rc, rfl⟩ := own_len' hu3
      have hS12 : Hid (St w V8 (rwl (.slice ra r.L.length rc) r.L :: cel c q (n : Nat) 0 0 (f : Nat) [] wait :: [])) := hS11.out.newr hb8 hu3 (Nat.le_refl _)
      have hR8 : Hid (Rnr V8 b2 q1 o1 gg q r) := hR7.out.below hb8
      have hk8 : Hid (Ckb V8 c 0 0 (f : Nat) v2 b2 (n : Nat) vr2 vt2) := hk7.out.call hb8
      have hq8 : Hid (Qv V8 v2 []) := hq7.out.below hb8
      clear hS11 hR7 hk7 hq7 hb8 hu3 hP d4 x3
      obtain ⟨M, hM⟩ : ∃ M, Hid (r.L.length = M) := ⟨_, rfl⟩
      rw [hM.out] at hS12 hLl
      rw [hM.out]
      go_wp2_with fail
      go_loopw [130] (fun i wr => ∃ (j : Nat), j ≤ M ∧ i = .int .i64 j ∧ Hid (St w wr (rwl (.slice ra M rc) r.L :: cel c q (n : Nat) 0 0 (f : Nat) [] wait :: [])) ∧ Hid (Below V8.heap.size V8 wr)) (fun i _ => M - (intOf i).toNat)
      case atStart => exact ⟨0, Nat.zero_le _, rfl, hS12, Below.refl _ _⟩
      case round =>
        obtain ⟨j, hj, rfl, hS8, hB8⟩ := hrel
        clear hS12
        by_cases hlt : j < M
        · obtain ⟨g, off, rfl, hin⟩ := hS8.out.rowAt (v := ra) (n := M) (c := rc) (R := r.L) (by simp) j (by rw [hM.out]; exact hlt)
          obtain ⟨x, hx⟩ : ∃ x, Hid (pAt r.L j = x) := ⟨_, rfl⟩
          have hxl : x.l = Lb := by rw [← hx.out]; exact hlab.out _ (pAt_mem r.L j (by rw [hM.out]; exact hlt))
          rw [hx.out] at hin
          obtain ⟨d0, d1, d2, d3, d4⟩ := hin
          rw [hxl] at d4
          have hS9 : Hid (∀ ob, St w (wr.alloc ob) (rwl (.slice (some ⟨g, off, none⟩) M rc) r.L :: cel c q (n : Nat) 0 0 (f : Nat) [] wait :: []) ∧ Below V8.heap.size V8 (wr.alloc ob)) := fun ob => ⟨hS8.out.below (below_alloc _ _), hB8.out.alloc hB8.out.size ob⟩
          clear hS8 hB8 hxl
          go_wp2_with fail
          go_roundw
          case rel => exact ⟨j + 1, by omega, by go_num, (hS9.out _).1, (hS9.out _).2⟩
          case measure => simp [intOf]; omega
        · have hR9 : Hid (Rnr wr b2 q1 o1 gg q r) := hR8.out.below hB8.out
          have hk9 : Hid (Ckb wr c 0 0 (f : Nat) v2 b2 (n : Nat) vr2 vt2) := hk8.out.call hB8.out
          have hq9 : Hid (Qv wr v2 []) := hq8.out.below hB8.out
          have hS9 : Hid (St w wr (cel c q (n : Nat) 0 0 (f : Nat) [] wait :: [])) := hS8.out.drop
          clear hR8 hk8 hq8 hS8 hB8
          have d3 := hk9.out.c3
          go_wp2_with fail
          refine (qwaiting_is v2 [] _ hq9.out).mono ?_
          rintro e X1 ⟨rfl, hb⟩
          have hS13 : Hid (St w X1 (cel c q (n : Nat) 0 0 (f : Nat) [] wait :: [])) := hS9.out.below hb
          clear hS9 d3
          have hR10 : Hid (Rnr X1 b2 q1 o1 gg q r) := hR9.out.below hb
          have hk10 : Hid (Ckb X1 c 0 0 (f : Nat) v2 b2 (n : Nat) vr2 vt2) := hk9.out.call hb
          clear hR9 hk9 hq9 hb
          go_wp2_with fail
          refine (takenl_is _ hS13.out (by have := hwl.out; omega)).mono ?_
          rintro e X2 ⟨u4, rfl, hN, hb⟩
          obtain ⟨ta, tc, rfl, _, _, _⟩ := hN.qv.1.len
          have hS14 : Hid (St w X2 (cel c q (n : Nat) 0 0 (f : Nat) [] wait :: [])) := hN.drop
          have hR11 : Hid (Rnr X2 b2 q1 o1 gg q r) := hR10.out.below hb
          have hk11 : Hid (Ckb X2 c 0 0 (f : Nat) v2 b2 (n : Nat) vr2 vt2) := hk10.out.call hb
          clear hR10 hk10 hb hN hS13
          rw [hwl.out]
          go_wp2_with fail
          refine (count_is _ hS14.out).mono ?_
          rintro e X3 ⟨rfl, he⟩; obtain rfl := he.symm; clear he
          rw [hrr.out.2.2.2]
          have hB : Hid (Below w.heap.size w X2) := hS14.out.b
          clear hS14
          by_cases hf0 : f = 0
          · subst hf0
            go_wp2_with fail
            refine (runs_is _).mono ?_
            rintro e X4 ⟨rfl, hb⟩
            have hB2 : Hid (Below w.heap.size w X4) := below_call hB.out hb
            clear hB hb
            go_wp2_with fail
            go_ret
            exact ⟨rfl, hB2.out⟩
          · have hL0 : 0 < M := by have := hsome.out (by omega); rw [hM.out] at this; exact this
            have d4 := hk11.out.c4
            obtain ⟨uu, h1, hP, _⟩ := hR11.out
            have x3 := h1.c3
            have hfb : ((f : Int) == 0) = false := by simpa using hf0
            clear h1
            go_wp2_with fail
            refine (len_is q1 o1 q.n q.s q.a r.L M _ hP hM.out).mono ?_
            rintro e X4 ⟨rfl, he⟩; obtain rfl := he.symm; clear he
            clear hP d4 x3 hR11 hk11
            go_wp2_with fail
            refine (runs_is _).mono ?_
            rintro e X5 ⟨rfl, hb⟩
            have hB2 : Hid (Below w.heap.size w X5) := below_call hB.out hb
            clear hB hb
            go_wp2_with fail
            go_ret
            exact ⟨rfl, hB2.out⟩
end Go.Proofs.Ytnamjnopicghhaa
