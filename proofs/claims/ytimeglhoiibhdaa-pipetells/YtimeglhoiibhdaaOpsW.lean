/- The statement PipeOps, for every memory. -/
import Derived.Test.YtimeglhoiibhdaaOnly
namespace Go.Proofs.Ytimeglhoiibhdaa
open Go.RowKit M
attribute [local go_sem ↓] Go.wp_at_zero Go.wp_at_succ
theorem rd_at {w : World} {g N cp : Nat} {ns : List Oq} (h : RdO w (.slice (some ⟨g, 0, none⟩) N cp) ns) (j : Nat) (hj : j < ns.length) :
    w.cell? ⟨g, j * 2, none⟩ = some (.int .i64 (opAt ns j).k) ∧ w.cell? ⟨g, j * 2 + 1, none⟩ = some (.int .i64 (opAt ns j).n) := by
  obtain ⟨_, _, ao, cap, he, _, _, hc⟩ := h
  injection he with e1 e2 e3
  obtain ⟨b, off, hb, _, hcell⟩ := hc (by omega)
  rw [hb] at e1
  injection e1 with e1
  injection e1 with e1 e4
  subst e1 e4
  obtain ⟨c0, c1⟩ := hcell j hj
  rw [Nat.zero_add] at c0 c1
  exact ⟨c0, c1⟩
theorem own_emptyO (w : World) : (w.alloc (.cells #[] 23)).ownsRow w.heap.size 23 2 (.slice (some ⟨w.heap.size, 0, none⟩) 0 0) 0 [] :=
  World.ownsRow_lit w #[] 0 (Nat.le_refl _) (by unfold maxLen; omega) (by simp)
theorem opl_set1 : ∀ (os : List Oq) (j : Nat) (m : Int), j < os.length → (opl os).set (j * 2 + 1) (.int .i64 m) = opl (os.set j ⟨(opAt os j).k, m⟩)
  | [], j, _, h => by simp at h
  | x :: s, 0, m, _ => by simp [opl_cons]
  | x :: s, j + 1, m, h => by
    have hj : j < s.length := by simpa using h
    have e : opAt (x :: s) (j + 1) = opAt s j := by simp
    rw [e]
    show (Value.int .i64 x.k :: Value.int .i64 x.n :: opl s).set ((j + 1) * 2 + 1) _ = Value.int .i64 x.k :: Value.int .i64 x.n :: opl (s.set j _)
    rw [show (j + 1) * 2 + 1 = j * 2 + 1 + 1 + 1 by omega]
    simp only [List.set_cons_succ]
    rw [opl_set1 s j m hj]
/-- What a list of operations that can be read is copied from. -/
theorem src_rdo {w : World} {g N cp : Nat} {os : List Oq} (h : RdO w (.slice (some ⟨g, 0, none⟩) N cp) os) : ∀ j u, (opl os)[j]? = some u → w.cell? ((⟨g, 0, none⟩ : Addr).add j) = some u := by
  intro j u hj
  obtain ⟨h1, h2⟩ := opl_some hj
  obtain ⟨c0, c1⟩ := rd_at h (j / 2) h1
  rw [Addr.add_lit, Nat.zero_add]
  have hj' : j = j / 2 * 2 + j % 2 := by omega
  have hr : j % 2 < 2 := by omega
  generalize j % 2 = r at h2 hj' hr
  rw [hj']
  match r, hr with
  | 0, _ => simpa [opCells, ← h2] using c0
  | 1, _ => simpa [opCells, ← h2] using c1
theorem put_one_each : ∀ l : List Int, (∀ z ∈ l, -64 ≤ z ∧ z ≤ 63) → (put l).length = l.length
  | [], _ => rfl
  | z :: l, hz => by
    have := hz z (List.mem_cons_self ..)
    rw [put_cons, List.length_append, put_one_each l (fun y hy => hz y (List.mem_cons_of_mem _ hy)), leb_small _ (by unfold zz; split <;> omega)]
    simp; omega
theorem opInts_small {os : List Oq} (h : ∀ o ∈ os, 1 ≤ o.k ∧ o.k ≤ 6 ∧ -5 ≤ o.n ∧ o.n ≤ 9 ∧ rightO o = true) : ∀ z ∈ opInts os, -64 ≤ z ∧ z ≤ 63 := by
  intro z hz
  simp only [opInts, List.mem_flatMap, List.mem_cons, List.not_mem_nil, or_false] at hz
  obtain ⟨o, ho, rfl | rfl⟩ := hz
  · have := h o ho; omega
  · have := h o ho; omega
/-- A pipe of small numbers with at most six operations. -/
def Smallish (p : Pq) : Prop := p.os.length ≤ 6 ∧ (∀ o ∈ p.os, 1 ≤ o.k ∧ o.k ≤ 6 ∧ -5 ≤ o.n ∧ o.n ≤ 9 ∧ rightO o = true) ∧ 1 ≤ p.s ∧ p.s ≤ 12 ∧ p.s ≤ p.n ∧ p.n ≤ 4 * p.s ∧ 1 ≤ p.a ∧ p.a ≤ 4 ∧ -1 ≤ p.k ∧ p.k ≤ 1 ∧ -1 ≤ p.f ∧ p.f ≤ 1
theorem ish_right {p : Pq} (h : Smallish p) : rightP p = true := by
  obtain ⟨h1, h2, h3, h4, h5, h6, h7, h8, h9, h10, h11, h12⟩ := h
  have e1 : rightL p.os = true := by
    unfold rightL
    rw [decide_eq_true (by omega), Bool.true_and, List.all_eq_true]
    exact fun o ho => (h2 o ho).2.2.2.2
  have e2 : rightB p.n p.s = true := right_mk h3 h5 (by omega) (by omega)
  have e3 : sinkB p.k = true := by unfold sinkB; simp; omega
  have e4 : sinkB p.f = true := by unfold sinkB; simp; omega
  unfold rightP
  rw [e1, e2, e3, e4, decide_eq_true (by omega)]; rfl
theorem ish_fits {p : Pq} (h : Smallish p) : PFits p := by
  obtain ⟨h1, h2, h3, h4, h5, h6, h7, h8, h9, h10, h11, h12⟩ := h
  refine ⟨fun o ho => ?_, ?_, ?_, ?_, ?_, ?_⟩
  · obtain ⟨q1, q2, q3, q4, _⟩ := h2 o ho
    exact ⟨⟨by omega, by omega⟩, ⟨by omega, by omega⟩⟩
  all_goals exact ⟨by omega, by omega⟩
theorem ish_len {p : Pq} (h : Smallish p) : (enc p).length = 6 + 2 * p.os.length := by
  rw [enc_of (ish_right h)]
  obtain ⟨h1, h2, h3, h4, h5, h6, h7, h8, h9, h10, h11, h12⟩ := h
  rw [put_one_each, nums_len]
  intro z hz
  simp only [nums, List.cons_append, List.nil_append, List.mem_cons] at hz
  rcases hz with rfl | rfl | rfl | rfl | rfl | rfl | hz
  all_goals first | omega | exact opInts_small h2 z hz
/-- Two operations: are they the same? -/
theorem eq23 (x y x' y' : Int) (r : Bool) (w : World) (hr : r = true ↔ x = x' ∧ y = y') : (Op.equalIn 10000 23 (opv x y) (opv x' y')).run Try.prog w = .ok r w := by
  have u3 := Try.underlying3
  have a3 := Try.isAgg3
  have z3 := Try.sizeOf3
  have e : r = (x == x' && y == y') := by rw [Bool.eq_iff_iff, hr]; simp
  subst e
  clear hr
  go_simp
  by_cases h1 : x = x' <;> by_cases h2 : y = y' <;> simp [h1, h2]
/-- Two neighbours turned. -/
def swapO (os : List Oq) (i : Nat) : List Oq := (os.set i (opAt os (i + 1))).set (i + 1) (opAt os i)
theorem swap_len (os : List Oq) (i : Nat) : (swapO os i).length = os.length := by simp [swapO]
theorem opAt_mem {os : List Oq} {i : Nat} (h : i < os.length) : opAt os i ∈ os := getD_mem os ⟨0, 0⟩ i h
theorem swap_mem {os : List Oq} {i : Nat} (h : i + 1 < os.length) : ∀ o ∈ swapO os i, o ∈ os := by
  intro o ho
  rcases List.mem_or_eq_of_mem_set ho with h1 | h1
  · rcases List.mem_or_eq_of_mem_set h1 with h2 | h2
    · exact h2
    · rw [h2]; exact opAt_mem h
  · rw [h1]; exact opAt_mem (by omega)
theorem swap_eq {os : List Oq} {i : Nat} (h : i + 1 < os.length) : os = swapO os i ↔ opAt os i = opAt os (i + 1) := by
  constructor
  · intro e
    have h1 : opAt (swapO os i) i = opAt os (i + 1) := by
      unfold swapO opAt
      simp [List.getD_eq_getElem?_getD, show i < os.length by omega]
    rw [← e] at h1
    exact h1
  · intro e
    apply List.ext_getElem?
    intro j
    unfold swapO
    rw [List.getElem?_set, List.getElem?_set]
    have e1 : os[i]? = some (opAt os i) := by simp [List.getD_eq_getElem?_getD, show i < os.length by omega]
    have e2 : os[i + 1]? = some (opAt os (i + 1)) := by simp [List.getD_eq_getElem?_getD, h]
    by_cases hj : i + 1 = j
    · subst hj; rw [if_pos rfl, if_pos (by simpa using h), e2, e]
    · by_cases hj2 : i = j
      · subst hj2; rw [if_neg hj, if_pos rfl, if_pos (by omega), e1, e]
      · rw [if_neg hj, if_neg hj2]
theorem swap_cells (os : List Oq) (i : Nat) (h : i + 1 < os.length) :
    ((((opl os).set (i * 2) (.int .i64 (opAt os (i + 1)).k)).set (i * 2 + 1) (.int .i64 (opAt os (i + 1)).n)).set ((i + 1) * 2) (.int .i64 (opAt os i).k)).set ((i + 1) * 2 + 1) (.int .i64 (opAt os i).n) = opl (swapO os i) := by
  rw [opl_set os i _ _ (by omega), opl_set _ (i + 1) _ _ (by simpa using h)]
  rfl
set_option maxHeartbeats 4000000 in
set_option maxRecDepth 100000 in
theorem ops_core (ao : Option Addr) (lo co : Nat) (an : Option Addr) (ln cn : Nat) (n s a k f x1 : Int) (w : World) (ho : Ints w ao lo co) (hn : Ints w an ln cn) :
    Calls Try.prog 7 #[kv (.slice ao lo co) (.slice an ln cn) n s a k f, .int .i64 x1] w fun e w' => e = .returned (.bool true) ∧ Below w.heap.size w w' := by
  obtain ⟨i0, hi, hz0, hz1, hz2⟩ := info_parts Try.info23
  go_enter Try.func7, Try.ntmps7
  go_upto_region 1 with fail
  refine world_gen (fun W => Kpk W w.heap.size (.slice ao lo co) (.slice an ln cn) n s a k f ∧ Ints W ao lo co ∧ Ints W an ln cn ∧ Below w.heap.size w W)
    ⟨kpk_new _ _ _ _ _ _ _ _, ho.call (below_alloc _ _), hn.call (below_alloc _ _), below_alloc _ _⟩ ?_
  clear ho hn
  rintro W0 ⟨k0, ho, hn, b0⟩
  obtain ⟨g, hg⟩ : ∃ g, Hid (w.heap.size = g) := ⟨_, rfl⟩
  rw [hg.out] at k0 ⊢
  have c0 := k0.c0
  have c1 := k0.c1
  have c2 := k0.c2
  have c3 := k0.c3
  have c4 := k0.c4
  have c5 := k0.c5
  have c6 := k0.c6
  go_wp2_with fail
  refine (keep_any ao lo co an ln cn n s a k f _ ho hn).mono ?_
  rintro e w1 ⟨⟨os, n1, s1, a1, k1, f1⟩, u, hsm, rfl, o1, _, b1⟩
  simp only at o1
  have hsm' : Hid (Small ⟨os, n1, s1, a1, k1, f1⟩) := hsm
  have hr : Hid (rightP ⟨os, n1, s1, a1, k1, f1⟩ = true) := small_right hsm
  have hf : Hid (PFits ⟨os, n1, s1, a1, k1, f1⟩) := small_fits hsm
  have rd1 : Hid (RdO w1 u os) := rd_opl o1 rfl hf.out.1
  have hN4 : os.length ≤ 4 := hsm.1
  obtain ⟨ua, uc, rfl⟩ := own_some2 o1
  obtain ⟨N, hN⟩ : ∃ L, Hid (os.length = L) := ⟨_, rfl⟩
  rw [hN.out] at rd1 hN4 ⊢
  have bb := bcall b0 b1
  clear o1 hsm c0 c1 c2 c3 c4 c5 c6 k0 ho hn b0 b1
  go_upto_region 2 with fail
  refine world_gen (fun W => Pik W w1.heap.size (.slice ua N uc) n1 s1 a1 k1 f1 ∧ Hid (RdO W (.slice ua N uc) os) ∧ Below w.heap.size w W) ⟨pik_new _ _ _ _ _ _ _, rd1.out.call (below_alloc _ _), bnew bb _⟩ ?_
  have hgp0 := bb.size
  clear rd1 bb
  rintro W1 ⟨p1, rd1, bb⟩
  generalize w1.heap.size = gp at p1 hgp0 ⊢
  have c0 := p1.c0
  go_wp2_with fail
  refine (roomy_anyO _ os 9 0 _ rd1.out (by have := hN.out; omega)).mono ?_
  rintro e w2 ⟨uf, rfl, o2, b2⟩
  have p2 := p1.call b2
  have bb2 := bcall bb b2
  have hgW : gp < W1.heap.size := p1.lt
  obtain ⟨gf, cf, rfl, hcf1, hcf2, hgf⟩ := own_form o2 (by
    intro hu
    obtain ⟨_, h | ⟨g', cap', cur, h', _⟩⟩ := o2
    · have := h.2; simp at this
    · rw [hu] at h'; injection h' with h1; cases h1)
  have hfl : (os ++ List.replicate 80 (⟨9, 0⟩ : Oq)).length = N + 80 := by rw [List.length_append, List.length_replicate, hN.out]
  have hfb : ∀ x ∈ os ++ List.replicate 80 (⟨9, 0⟩ : Oq), x.n ≤ 9223372036854775807 := by
    intro x hx
    rcases List.mem_append.1 hx with h | h
    · exact (hf.out.1 x h).2.2
    · rw [List.eq_of_mem_replicate h]; decide
  have f2 : Hid (RdO w2 (.slice (some ⟨gf, 0, none⟩) (N + 80) cf) (os ++ List.replicate 80 (⟨9, 0⟩ : Oq))) := rd_part o2 hfb _ 0 0 (N + 80) cf (by omega) (fun j _ => by rw [Nat.zero_add]) (by omega) hfl (by omega) hcf2 (fun x h => h)
  have q2 : Hid (RdO w2 (.slice (some ⟨gf, 0, none⟩) N cf) os) := rd_part o2 hfb os 0 0 N cf (by rw [List.length_append]; omega) (fun j hj => by rw [Nat.zero_add, pre_atO os ⟨9, 0⟩ j hj]) (by omega) hN.out (by omega) hcf2 (fun x h => List.mem_append_left _ h)
  rw [hfl] at hcf1 ⊢
  have hgfp : gf ≠ gp := by omega
  clear o2 hfl hfb rd1 bb b2 p1 c0
  have c0 := p2.c0
  have fr := p2.free 0
  have hN0 : (0 : Int) ≤ (N : Int) := by omega
  have hN1 : (N : Int) ≤ (cf : Int) := by omega
  have hN2 : N ≤ cf := by omega
  go_upto_region 4 with fail
  refine world_gen (fun W => Pik W gp (.slice (some ⟨gf, 0, none⟩) N cf) n1 s1 a1 k1 f1 ∧ Hid (RdO W (.slice (some ⟨gf, 0, none⟩) (N + 80) cf) (os ++ List.replicate 80 (⟨9, 0⟩ : Oq))) ∧ Hid (RdO W (.slice (some ⟨gf, 0, none⟩) N cf) os) ∧ Below w.heap.size w W)
    ⟨p2.set0 _, f2.out.block (Below.heap_setCell _ _ _ _ hgfp) (by simp [World.setCell]), q2.out.block (Below.heap_setCell _ _ _ _ hgfp) (by simp [World.setCell]), bb2.setCell hgp0 _⟩ ?_
  clear p2 f2 q2 bb2 c0 fr
  rintro W3 ⟨p3, f3, q3, bb3⟩
  have hemp := own_emptyO W3
  have pA := p3.alloc (.cells #[] 23)
  have c0 := pA.c0
  go_upto_region 5 with (at_builtin; refine wpList_append_own _ rfl _ _ 24 rfl W3.heap.size 23 i0 _ 2 16 Try.underlying24 hi hz0 hz1 hz2 rfl (by decide) (.slice (some ⟨W3.heap.size, 0, none⟩) 0 0) 0 [] rfl hemp ⟨gf, 0, none⟩ N cf (opl os) rfl (by rw [opl_len, hN.out]) (src_rdo (q3.out.call (below_alloc _ _))) (opl_one os) (by unfold maxLen; omega) (by omega) (by simp) ?_; intro vw w4 hown4 hgrow4 hnil4)
  have o4 : w4.ownsRow W3.heap.size 23 2 vw os.length (opl os) := by rw [hN.out]; simpa using hown4
  have hvn : ¬ vw = .slice none 0 0 := by
    intro h
    have := hnil4.1 h
    cases this.1
  obtain ⟨gw, cw, rfl, hcw1, hcw2, _⟩ := own_form o4 hvn
  have b34 : Below W3.heap.size W3 w4 := (below_alloc W3 _).grown hgrow4 (by simp) (fun k hk => by simp [Value.ownBlock] at hk; omega)
  have r4 : Hid (RdO w4 (.slice (some ⟨gw, 0, none⟩) N cw) os) := by have h := rd_opl o4 rfl hf.out.1; rw [hN.out] at h; exact h
  rw [hN.out] at hcw1
  have p4 := p3.call b34
  have f4 : Hid (RdO w4 _ _) := f3.out.call b34
  have q4 : Hid (RdO w4 _ _) := q3.out.call b34
  have bb4 := bcall bb3 b34
  clear hown4 hgrow4 hnil4 hvn o4 p3 pA f3 q3 bb3 b34 hemp c0
  rw [hN.out]
  have c0 := p4.c0
  have c1 := p4.c1
  have c2 := p4.c2
  have c3 := p4.c3
  have c4 := p4.c4
  have c5 := p4.c5
  go_wp2_with fail
  refine (enc_any _ ⟨os, n1, s1, a1, k1, f1⟩ _ q4.out hf.out).mono ?_
  rintro e w5 ⟨ub, rfl, o5, b5⟩
  obtain ⟨gb, cb, rfl, _, _, _, _⟩ := own_form1 o5 (enc_len hr.out)
  have hEl : (enc ⟨os, n1, s1, a1, k1, f1⟩).length = 6 + 2 * N := by
    have h := ish_len (p := ⟨os, n1, s1, a1, k1, f1⟩) ⟨by simp only; have := hN.out; omega, hsm'.out.2⟩
    simp only at h
    rw [hN.out] at h
    exact h
  have rb5 : Hid (Rd .u8 w5 (.slice (some ⟨gb, 0, none⟩) (6 + 2 * N) cb) (toI (enc ⟨os, n1, s1, a1, k1, f1⟩))) := by have h := rd_bv o5; rw [hEl] at h; exact h
  have p5 := p4.call b5
  have f5 : Hid (RdO w5 _ _) := f4.out.call b5
  have q5 : Hid (RdO w5 _ _) := q4.out.call b5
  have r5 : Hid (RdO w5 _ _) := r4.out.call b5
  have bb5 := bcall bb4 b5
  rw [hEl]
  clear hEl o5 p4 f4 q4 r4 bb4 b5
  clear c0 c1 c2 c3 c4 c5
  obtain ⟨E, hE⟩ : ∃ E, 6 + 2 * N = E := ⟨_, rfl⟩
  rw [hE] at rb5 ⊢
  go_wp2_with fail
  refine (dec_yes _ _ ⟨os, n1, s1, a1, k1, f1⟩ _ rb5.out hr.out hf.out (enc_of hr.out).symm).mono ?_
  rintro e w6 ⟨x, rfl, o6, _, b6⟩
  simp only at o6
  obtain ⟨xa, xc, rfl⟩ := own_some2 o6
  rw [hN.out] at o6 ⊢
  go_upto_region 7 with fail
  refine world_gen (fun W => Pik W w6.heap.size (.slice xa N xc) n1 s1 a1 k1 f1 ∧ W.ownsRow w5.heap.size 23 2 (.slice xa N xc) N (opl os) ∧ Below w5.heap.size w5 W) ⟨pik_new _ _ _ _ _ _ _, own_below o6 (below_alloc _ _), b6.alloc b6.size _⟩ ?_
  have hgx := b6.size
  clear o6 b6
  rintro W7 ⟨x7, o7, b7⟩
  generalize w6.heap.size = gx at x7 hgx ⊢
  have c0 := x7.c0
  go_wp2_with fail
  refine (intact_anyO _ _ os 9 0 _ (f5.out.call b7) (r5.out.call b7) (by have := hN.out; omega)).mono ?_
  rintro e w8 ⟨rfl, b8⟩
  have x8 := x7.call b8
  have o8 := own_below o7 b8
  have b58 := b7.trans (b8.mono b7.size)
  clear c0 x7 o7 b7 b8 f5
  have c0 := x8.c0
  go_wp2_with fail
  go_loopw [57] (fun i wr => ∃ (j : Nat) (os' : List Oq), j ≤ N ∧ i = .int .i64 j ∧ Hid (os'.length = N) ∧ Hid (∀ o ∈ os', -5 ≤ o.n ∧ o.n ≤ 9 + (j : Int)) ∧ Pik wr gx (.slice xa N xc) n1 s1 a1 k1 f1 ∧ wr.ownsRow w5.heap.size 23 2 (.slice xa N xc) N (opl os') ∧ Below w5.heap.size w5 wr) (fun i _ => N - (intOf i).toNat)
  case atStart => exact ⟨0, os, Nat.zero_le _, rfl, hN.out, (fun o ho => by have := hsm'.out.2.1 o ho; exact ⟨by omega, by omega⟩), x8, o8, b58⟩
  case round =>
    clear x8 o8 b58 c0
    obtain ⟨j, os', hj, rfl, hlen, hbd, x8, o8, b58⟩ := hrel
    by_cases hlt : j < N
    · obtain ⟨gr, cr, hxe, _, _, hgr⟩ := own_form o8 (by intro h; injection h with _ h2; omega)
      injection hxe with hx1 hx2 hx3
      subst hx1 hx3
      have hco := own_cells (os := os') (cap := xc) (by rw [hlen.out]; exact o8) j (by have := hlen.out; omega)
      rw [Nat.zero_add] at hco
      have hfz := o8.frozenAt (j * 2 + 1)
      have hb2 := hbd.out _ (opAt_mem (by have := hlen.out; omega : j < os'.length))
      have hst0 := (o8.stored (j * 2 + 1) (.int .i64 ((opAt os' j).n + 1))).1
      rw [opl_set1 os' j _ (by have := hlen.out; omega)] at hst0
      obtain ⟨⟨c, m⟩, hee⟩ : ∃ x, opAt os' j = x := ⟨_, rfl⟩
      rw [hee] at hco hb2 hst0
      obtain ⟨q0, q1⟩ := hco
      simp only at q0 q1 hb2 hst0
      have hst : Hid ((wr.setCell ⟨gr, j * 2 + 1, none⟩ (.int .i64 (m + 1))).ownsRow w5.heap.size 23 2 (.slice (some ⟨gr, 0, none⟩) N xc) N (opl (os'.set j ⟨c, m + 1⟩))) := hst0
      have hnx : gx ≠ gr := by
        intro h
        subst h
        obtain ⟨_, h | ⟨g', cap', cur, h1, _, h3, _⟩⟩ := o8
        · cases h.1
        · injection h1 with h1
          injection h1 with h1
          injection h1 with h1
          subst h1
          unfold Pik at x8
          rw [x8] at h3
          injection h3 with h3
          injection h3 with _ h4
          cases h4
      have x9 := x8.heap (Below.heap_setCell wr ⟨gr, j * 2 + 1, none⟩ (.int .i64 (m + 1)) gx hnx)
      have b59 : Below w5.heap.size w5 (wr.setCell ⟨gr, j * 2 + 1, none⟩ (.int .i64 (m + 1))) := b58.setCell hgr _
      obtain ⟨hb3, hb4⟩ := hb2
      have c0 := x8.c0
      clear hst0 hee
      go_wp2
      go_roundw
      case rel =>
        refine ⟨j + 1, os'.set j ⟨c, m + 1⟩, by omega, by go_num, ?_, ?_, x9, hst.out, b59⟩
        · show (os'.set j _).length = N
          rw [List.length_set]; exact hlen.out
        · intro o ho
          rcases List.mem_or_eq_of_mem_set ho with h | h
          · have := hbd.out o h; exact ⟨by omega, by omega⟩
          · rw [h]; exact ⟨by simp only; omega, by simp only; omega⟩
      case measure => simp [intOf]; omega
    · obtain rfl : j = N := by omega
      have p8 := p5.below b58 p5.lt
      have q8 : Hid (RdO wr _ _) := q5.out.call b58
      have r8 : Hid (RdO wr _ _) := r5.out.call b58
      have rb8 : Hid (Rd .u8 wr _ _) := rb5.out.call b58
      have bb8 := bcall bb5 b58
      clear x8 o8 b58 hbd hlen hlt hj p5 q5 r5 rb5 bb5
      have c0 := p8.c0
      go_wp2_with fail
      refine (same_ops _ _ os os _ true q8.out r8.out (by simp)).mono ?_
      rintro e w9 ⟨rfl, b9⟩
      have p9 := p8.call b9
      have q9 : Hid (RdO w9 _ _) := q8.out.call b9
      have r9 : Hid (RdO w9 _ _) := r8.out.call b9
      have rb9 : Hid (Rd .u8 w9 _ _) := rb8.out.call b9
      have bb9 := bcall bb8 b9
      clear p8 q8 r8 rb8 bb8 b9 c0
      have c0 := p9.c0
      have c1 := p9.c1
      have c2 := p9.c2
      have c3 := p9.c3
      have c4 := p9.c4
      have c5 := p9.c5
      go_upto_region 17 with fail
      refine world_gen (fun W => Pik W w9.heap.size (.slice (some ⟨gf, 0, none⟩) j cf) n1 s1 a1 k1 f1 ∧ Below w9.heap.size w9 W) ⟨pik_new _ _ _ _ _ _ _, below_alloc _ _⟩ ?_
      rintro V ⟨qq, bV⟩
      obtain ⟨gq, hgq⟩ : ∃ g, Hid (w9.heap.size = g) := ⟨_, rfl⟩
      rw [hgq.out] at qq ⊢
      clear c0 c1 c2 c3 c4 c5
      have hemp := own_emptyO V
      have r9V : Hid (RdO V (.slice (some ⟨gw, 0, none⟩) j cw) os) := r9.out.call bV
      have bVs := bV.size
      go_upto_region 18 with (at_builtin; first | (refine wpList_append_own _ rfl _ _ 24 rfl V.heap.size 23 i0 _ 2 16 Try.underlying24 hi hz0 hz1 hz2 rfl (by decide) (.slice (some ⟨V.heap.size, 0, none⟩) 0 0) 0 [] rfl hemp ⟨gw, 0, none⟩ j cw (opl os) rfl (by rw [opl_len, hN.out]) (src_rdo (r9V.out.call (below_alloc _ _))) (opl_one os) (by unfold maxLen; omega) (by omega) (by simp) ?_; intro va wa hownA hgrowA hnilA; have bA : Below V.heap.size V wa := (below_alloc V _).grown hgrowA (by simp) (fun k hk => by simp [Value.ownBlock] at hk; omega); have oA : wa.ownsRow V.heap.size 23 2 va j (opl os) := (by simpa using hownA); have bAs := bA.size) | (refine wpList_append_own _ rfl _ _ 24 rfl V.heap.size 23 i0 _ 2 16 Try.underlying24 hi hz0 hz1 hz2 rfl (by decide) va j (opl os) rfl (oA.alloc _) ⟨wa.heap.size, 0, none⟩ 1 1 (opCells ⟨1, 1⟩) rfl rfl (lit_cells wa 1 1) (by intro u hu; simp only [opCells, List.mem_cons, List.not_mem_nil, or_false] at hu; rcases hu with rfl | rfl <;> rfl) (by simp only [maxLen]; omega) (by omega) (by simp; omega) ?_; intro vb wb hownB hgrowB hnilB; obtain ⟨gt, ct, rfl⟩ := ownsRow_succ hownB; have bB : Below V.heap.size V wb := ((bA.alloc bAs _).grown hgrowB (by simp; omega) (fun k hk => (oA.lt k hk).1)); have qB := qq.call bB; have d0 := qB.c0; have fr := qB.free 0))
      have hgqV : gq < V.heap.size := qq.lt
      have oB : wb.ownsRow V.heap.size 23 2 (.slice (some ⟨gt, 0, none⟩) (j + 1) ct) (j + 1) (opl (os ++ [⟨1, 1⟩])) := by
        have h : opl (os ++ [(⟨1, 1⟩ : Oq)]) = opl os ++ opCells ⟨1, 1⟩ := by rw [opl_append]; simp [opl]
        rw [h]; exact hownB
      have hsq : Smallish ⟨os ++ [⟨1, 1⟩], n1, s1, a1, k1, f1⟩ := by
        refine ⟨by simp only [List.length_append, List.length_cons, List.length_nil]; have := hN.out; omega, ?_, hsm'.out.2.2⟩
        intro o ho
        rcases List.mem_append.1 ho with h | h
        · exact hsm'.out.2.1 o h
        · rw [List.mem_singleton.1 h]; exact ⟨by decide, by decide, by decide, by decide, by decide⟩
      have hq1 : Hid (PFits ⟨os ++ [⟨1, 1⟩], n1, s1, a1, k1, f1⟩) := ish_fits hsq
      have hlq : (os ++ [(⟨1, 1⟩ : Oq)]).length = j + 1 := by rw [List.length_append, hN.out]; rfl
      have hql : Hid ((enc ⟨os ++ [⟨1, 1⟩], n1, s1, a1, k1, f1⟩).length = E + 2) := by
        have h := ish_len hsq
        simp only [hlq] at h
        have h2 : (enc ⟨os ++ [⟨1, 1⟩], n1, s1, a1, k1, f1⟩).length = E + 2 := by omega
        exact h2
      have rB := rd_opl oB hlq hq1.out.1
      have hgtV : V.heap.size ≤ gt := by
        obtain ⟨_, h | ⟨g', cap', cur, h1, h2, _⟩⟩ := oB
        · cases h.1
        · injection h1 with h1; injection h1 with h1; injection h1 with h1; omega
      have hgtq : gt ≠ gq := by omega
      refine world_gen (fun W => Pik W gq (.slice (some ⟨gt, 0, none⟩) (j + 1) ct) n1 s1 a1 k1 f1 ∧ Hid (RdO W (.slice (some ⟨gt, 0, none⟩) (j + 1) ct) (os ++ [(⟨1, 1⟩ : Oq)])) ∧ Below w9.heap.size w9 W)
        ⟨qB.set0 _, rB.block (Below.heap_setCell _ _ _ _ hgtq) (by simp [World.setCell]), (bV.trans (bB.mono bVs)).setCell (Nat.le_of_eq hgq.out) _⟩ ?_
      clear hownA hgrowA hnilA oA bA bAs hownB hgrowB hnilB bB qB d0 fr oB rB qq bV hemp r9V hlq hsq hgtV hgtq hgqV bVs
      rintro U ⟨qU, rU, bU⟩
      have pU := p9.call bU
      have q9U : Hid (RdO U _ _) := q9.out.call bU
      have c0 := qU.c0
      have c1 := qU.c1
      have c2 := qU.c2
      have c3 := qU.c3
      have c4 := qU.c4
      have c5 := qU.c5
      go_wp2_with fail
      refine (enc_any _ ⟨os ++ [⟨1, 1⟩], n1, s1, a1, k1, f1⟩ _ rU.out hq1.out).mono ?_
      rintro e wd ⟨ue, rfl, oe, be⟩
      obtain ⟨ea, ec, rfl⟩ := own_some1 oe
      rw [hql.out]
      have qd := qU.call be
      have pd' := pU.call be
      have rd' : Hid (RdO wd _ _) := rU.out.call be
      have q9d : Hid (RdO wd _ _) := q9U.out.call be
      have bd := bcall bU be
      clear oe be qU pU rU q9U bU c0 c1 c2 c3 c4 c5
      have c0 := qd.c0
      have c1 := qd.c1
      have c2 := qd.c2
      have c3 := qd.c3
      have c4 := qd.c4
      have c5 := qd.c5
      have d0 := pd'.c0
      have d1 := pd'.c1
      have d2 := pd'.c2
      have d3 := pd'.c3
      have d4 := pd'.c4
      have d5 := pd'.c5
      go_wp2_with fail
      refine (psame_is _ _ false _ (rdp_2 wd _ _ ⟨os, n1, s1, a1, k1, f1⟩ ⟨os ++ [⟨1, 1⟩], n1, s1, a1, k1, f1⟩ q9d.out rd'.out) (by
        constructor
        · intro h; cases h
        · intro h
          have h2 := h _ (List.mem_cons_of_mem _ (List.mem_cons_self ..))
          have h3 := congrArg (fun p : Pq => p.os.length) h2
          simp at h3)).mono ?_
      rintro e wf ⟨rfl, bf⟩
      have bdf := bstep (Below.refl wd.heap.size wd) bf
      have qf := qd.call bdf
      have bF := bcall bd bdf
      clear qd pd' rd' q9d bd bf bdf c0 c1 c2 c3 c4 c5 d0 d1 d2 d3 d4 d5 hq1 hql
      by_cases h1 : 1 < j
      case neg =>
        go_wp2_with fail
        refine (pipeRuns_walk wf).mono ?_
        rintro e wz ⟨rfl, bz⟩
        go_wp2
        go_ret
        exact ⟨rfl, bcall (bcall bb9 bF) bz⟩
      go_wp2_with fail
      refine (within_any x1 0 ((j : Int) - 2) _ (by omega) (by omega) (by omega)).mono ?_
      rintro e w' ⟨⟨iz, hi1, hi2, rfl⟩, he⟩; obtain rfl := he.symm; clear he
      obtain ⟨i, rfl⟩ : ∃ i : Nat, iz = (i : Int) := ⟨iz.toNat, by omega⟩
      have hij : i + 1 < j := by omega
      have hemp := own_emptyO wf
      have r9F : Hid (RdO wf (.slice (some ⟨gw, 0, none⟩) j cw) os) := r9.out.call bF
      have bFs := bF.size
      go_upto_region 23 with (at_builtin; refine wpList_append_own _ rfl _ _ 24 rfl wf.heap.size 23 i0 _ 2 16 Try.underlying24 hi hz0 hz1 hz2 rfl (by decide) (.slice (some ⟨wf.heap.size, 0, none⟩) 0 0) 0 [] rfl hemp ⟨gw, 0, none⟩ j cw (opl os) rfl (by rw [opl_len, hN.out]) (src_rdo (r9F.out.call (below_alloc _ _))) (opl_one os) (by unfold maxLen; omega) (by omega) (by simp) ?_; intro va wa hownA hgrowA hnilA; have bA : Below wf.heap.size wf wa := (below_alloc wf _).grown hgrowA (by simp) (fun k hk => by simp [Value.ownBlock] at hk; omega); have oA : wa.ownsRow wf.heap.size 23 2 va j (opl os) := (by simpa using hownA); obtain ⟨gt, ct, rfl, hct1, hct2, hgt⟩ := own_form oA (by intro h; have := hnilA.1 h; cases this.1); have qA := qf.call bA; have d0 := qA.c0; have fr := qA.free 0)
      have hgqf : gq < wf.heap.size := qf.lt
      have hgtq : gt ≠ gq := by omega
      refine world_gen (fun W => Pik W gq (.slice (some ⟨gt, 0, none⟩) j ct) n1 s1 a1 k1 f1 ∧ W.ownsRow wf.heap.size 23 2 (.slice (some ⟨gt, 0, none⟩) j ct) j (opl os) ∧ Below w9.heap.size w9 W)
        ⟨qA.set0 _, own_heap oA (fun k hk => Below.heap_setCell _ _ _ _ (show k ≠ gq by omega)), (bF.trans (bA.mono bFs)).setCell (Nat.le_of_eq hgq.out) _⟩ ?_
      clear hownA hgrowA hnilA bA oA qA d0 fr qf bF hemp r9F
      rintro V2 ⟨q2, o2, b2⟩
      obtain ⟨i1, hi1'⟩ : ∃ i1, i + 1 = i1 := ⟨_, rfl⟩
      have hI : (i : Int) + 1 = (i1 : Int) := by omega
      have hsw : Hid (Smallish ⟨swapO os i, n1, s1, a1, k1, f1⟩) := by
        refine ⟨by simp only [swap_len]; have := hN.out; omega, fun o ho => hsm'.out.2.1 o (swap_mem (show i + 1 < os.length by have := hN.out; omega) o ho), hsm'.out.2.2⟩
      have hswe : Hid (os = swapO os i ↔ opAt os i = opAt os (i + 1)) := swap_eq (by have := hN.out; omega)
      have hcl := swap_cells os i (by have := hN.out; omega)
      have oc0 := own_cells (os := os) (cap := ct) (by rw [hN.out]; exact o2) i (by have := hN.out; omega)
      have oc1 := own_cells (os := os) (cap := ct) (by rw [hN.out]; exact o2) (i + 1) (by have := hN.out; omega)
      have rc := r9.out.call b2
      have rc0 := rd_at rc i (by have := hN.out; omega)
      have rc1 := rd_at rc (i + 1) (by have := hN.out; omega)
      have hset1 := opl_set os i (opAt os (i + 1)).k (opAt os (i + 1)).n (by have := hN.out; omega)
      have hset2 : opAt (os.set i (opAt os (i + 1))) (i + 1) = opAt os (i + 1) := by
        simp [List.getD_eq_getElem?_getD]
      obtain ⟨⟨x, y⟩, hxy⟩ : ∃ x, opAt os i = x := ⟨_, rfl⟩
      obtain ⟨⟨x', y'⟩, hxy'⟩ : ∃ x, opAt os (i + 1) = x := ⟨_, rfl⟩
      rw [hxy, hxy'] at hswe hcl
      rw [hxy] at oc0 rc0
      rw [hxy'] at oc1 rc1 hset1 hset2
      have oS1 := (o2.stored (i * 2) (.int .i64 x')).1.stored (i * 2 + 1) (.int .i64 y')
      have oS1' := oS1.1
      rw [hset1] at oS1'
      have oc3 := own_cells (os := os.set i ⟨x', y'⟩) (cap := ct) (by rw [List.length_set, hN.out]; exact oS1') (i + 1) (by rw [List.length_set]; have := hN.out; omega)
      rw [hset2] at oc3
      have fz3 := oS1'.frozenAt ((i + 1) * 2)
      have fz4 := oS1'.frozenAt ((i + 1) * 2 + 1)
      have oS2 := ((oS1.1.stored ((i + 1) * 2) (.int .i64 x)).1.stored ((i + 1) * 2 + 1) (.int .i64 y)).1
      simp only at hcl oc0 oc1 rc0 rc1
      rw [hcl] at oS2
      rw [hi1'] at oc1 rc1 oc3 fz3 fz4 oS2
      obtain ⟨g0, g1'⟩ := oc0
      obtain ⟨g2, g3'⟩ := oc1
      obtain ⟨g4, g5⟩ := oc3
      obtain ⟨m0, m1⟩ := rc0
      obtain ⟨m2, m3⟩ := rc1
      rw [Nat.zero_add] at g0 g1' g2 g3' g4 g5
      simp only at g0 g1' g2 g3' g4 g5 m0 m1 m2 m3
      have fz1 := o2.frozenAt (i * 2)
      have fz2 := o2.frozenAt (i * 2 + 1)
      have hgtV : gt < V2.heap.size := World.block_lt_of_cell? V2 _ g0
      have hqt : gq < gt := by omega
      have oS2' : Hid (((((V2.setCell ⟨gt, i * 2, none⟩ (.int .i64 x')).setCell ⟨gt, i * 2 + 1, none⟩ (.int .i64 y')).setCell ⟨gt, i1 * 2, none⟩ (.int .i64 x)).setCell ⟨gt, i1 * 2 + 1, none⟩ (.int .i64 y)).ownsRow wf.heap.size 23 2 (.slice (some ⟨gt, 0, none⟩) j ct) j (opl (swapO os i))) := oS2
      clear oS2 oS1 oS1' hset1 hset2 hcl rc hxy hxy'
      have hW1 : IntKind.i64.wrap (i1 : Int) = (i1 : Int) := by rw [IntKind.wrap_i64]; omega
      have hI0 : (0 : Int) ≤ (i : Int) := by omega
      have hI1 : (i : Int) < (j : Int) := by omega
      have hI2 : (0 : Int) ≤ (i1 : Int) := by omega
      have hI3 : (i1 : Int) < (j : Int) := by omega
      go_cut [13] (fun iv wx => iv = .int .i64 (i : Int) ∧ wx.ownsRow wf.heap.size 23 2 (.slice (some ⟨gt, 0, none⟩) j ct) j (opl (swapO os i)) ∧ Below gt V2 wx)
      case first =>
        refine wp_region_held_drew (S := fun w' => Below gt V2 w') (by kernel_rfl) (Below.refl _ _).drew (fun hHeld => ?_)
        have hDr : V2.drew.heap = V2.heap := rfl
        obtain ⟨V1, hV1⟩ : ∃ V1, V1 = V2.drew := ⟨_, rfl⟩
        have n0 : V1.cell? ⟨gt, i * 2, none⟩ = some (.int .i64 x) := by rw [hV1]; exact g0
        have n1' : V1.cell? ⟨gt, i * 2 + 1, none⟩ = some (.int .i64 y) := by rw [hV1]; exact g1'
        have n2 : V1.cell? ⟨gt, i1 * 2, none⟩ = some (.int .i64 x') := by rw [hV1]; exact g2
        have n3 : V1.cell? ⟨gt, i1 * 2 + 1, none⟩ = some (.int .i64 y') := by rw [hV1]; exact g3'
        have z1 : V1.frozen? ⟨gt, i * 2, none⟩ = false := by rw [hV1]; exact fz1
        have z2 : V1.frozen? ⟨gt, i * 2 + 1, none⟩ = false := by rw [hV1]; exact fz2
        have n4 : ((V1.setCell ⟨gt, i * 2, none⟩ (.int .i64 x')).setCell ⟨gt, i * 2 + 1, none⟩ (.int .i64 y')).cell? ⟨gt, i1 * 2, none⟩ = some (.int .i64 x') := by rw [hV1]; exact g4
        have n5 : ((V1.setCell ⟨gt, i * 2, none⟩ (.int .i64 x')).setCell ⟨gt, i * 2 + 1, none⟩ (.int .i64 y')).cell? ⟨gt, i1 * 2 + 1, none⟩ = some (.int .i64 y') := by rw [hV1]; exact g5
        have z3 : ((V1.setCell ⟨gt, i * 2, none⟩ (.int .i64 x')).setCell ⟨gt, i * 2 + 1, none⟩ (.int .i64 y')).frozen? ⟨gt, i1 * 2, none⟩ = false := by rw [hV1]; exact fz3
        have z4 : ((V1.setCell ⟨gt, i * 2, none⟩ (.int .i64 x')).setCell ⟨gt, i * 2 + 1, none⟩ (.int .i64 y')).frozen? ⟨gt, i1 * 2 + 1, none⟩ = false := by rw [hV1]; exact fz4
        have oF : Hid (((((V1.setCell ⟨gt, i * 2, none⟩ (.int .i64 x')).setCell ⟨gt, i * 2 + 1, none⟩ (.int .i64 y')).setCell ⟨gt, i1 * 2, none⟩ (.int .i64 x)).setCell ⟨gt, i1 * 2 + 1, none⟩ (.int .i64 y)).ownsRow wf.heap.size 23 2 (.slice (some ⟨gt, 0, none⟩) j ct) j (opl (swapO os i))) := by rw [hV1]; exact oS2'.out
        rw [← hV1] at hHeld ⊢
        have hB1 := hHeld
        clear hV1 hDr g0 g1' g2 g3' g4 g5 fz1 fz2 fz3 fz4 oS2' o2 m0 m1 m2 m3
        refine take_at (i := 0) (v := .pointer (some ⟨gq, 0, none⟩)) rfl rfl (by kernel_rfl) (by kernel_rfl) (by kernel_rfl) (fun _ _ _ h => h) (Or.inl ⟨by rfl, fun X _ => by go_simp⟩) hHeld ?_
        try simp only [Act.put, List.setIfInBounds_toArray, List.set_cons_zero, List.set_cons_succ]
        refine take_at (i := 1) (v := (.slice (some ⟨gt, 0, none⟩) j ct)) rfl rfl (by kernel_rfl) (by kernel_rfl) (by kernel_rfl) (fun _ _ _ h => h) (Or.inl ⟨by rfl, fun X hX => by have c0 := (q2.below hX hqt).c0; go_simp⟩) hHeld ?_
        try simp only [Act.put, List.setIfInBounds_toArray, List.set_cons_zero, List.set_cons_succ]
        refine take_at (i := 2) (v := .int .i64 (i : Int)) rfl rfl (by kernel_rfl) (by kernel_rfl) (by kernel_rfl) (fun _ _ _ h => h) (Or.inl ⟨by rfl, fun X _ => by go_simp⟩) hHeld ?_
        try simp only [Act.put, List.setIfInBounds_toArray, List.set_cons_zero, List.set_cons_succ]
        refine take_at (i := 3) (v := .pointer (some ⟨gq, 0, none⟩)) rfl rfl (by kernel_rfl) (by kernel_rfl) (by kernel_rfl) (fun _ _ _ h => h) (Or.inl ⟨by rfl, fun X _ => by go_simp⟩) hHeld ?_
        try simp only [Act.put, List.setIfInBounds_toArray, List.set_cons_zero, List.set_cons_succ]
        refine take_at (i := 4) (v := (.slice (some ⟨gt, 0, none⟩) j ct)) rfl rfl (by kernel_rfl) (by kernel_rfl) (by kernel_rfl) (fun _ _ _ h => h) (Or.inl ⟨by rfl, fun X hX => by have c0 := (q2.below hX hqt).c0; go_simp⟩) hHeld ?_
        try simp only [Act.put, List.setIfInBounds_toArray, List.set_cons_zero, List.set_cons_succ]
        refine take_at (i := 5) (v := .int .i64 (i : Int)) rfl rfl (by kernel_rfl) (by kernel_rfl) (by kernel_rfl) (fun _ _ _ h => h) (Or.inl ⟨by rfl, fun X _ => by go_simp⟩) hHeld ?_
        try simp only [Act.put, List.setIfInBounds_toArray, List.set_cons_zero, List.set_cons_succ]
        refine take_at (i := 6) (v := .int .i64 (i1 : Int)) rfl rfl (by kernel_rfl) (by kernel_rfl) (by kernel_rfl) (fun _ _ _ h => h) (Or.inl ⟨by rfl, fun X _ => by go_simp⟩) hHeld ?_
        try simp only [Act.put, List.setIfInBounds_toArray, List.set_cons_zero, List.set_cons_succ]
        refine take_at (i := 7) (v := .pointer (some ⟨gq, 0, none⟩)) rfl rfl (by kernel_rfl) (by kernel_rfl) (by kernel_rfl) (fun _ _ _ h => h) (Or.inl ⟨by rfl, fun X _ => by go_simp⟩) hHeld ?_
        try simp only [Act.put, List.setIfInBounds_toArray, List.set_cons_zero, List.set_cons_succ]
        refine take_at (i := 8) (v := (.slice (some ⟨gt, 0, none⟩) j ct)) rfl rfl (by kernel_rfl) (by kernel_rfl) (by kernel_rfl) (fun _ _ _ h => h) (Or.inl ⟨by rfl, fun X hX => by have c0 := (q2.below hX hqt).c0; go_simp⟩) hHeld ?_
        try simp only [Act.put, List.setIfInBounds_toArray, List.set_cons_zero, List.set_cons_succ]
        refine take_at (i := 9) (v := .int .i64 (i : Int)) rfl rfl (by kernel_rfl) (by kernel_rfl) (by kernel_rfl) (fun _ _ _ h => h) (Or.inl ⟨by rfl, fun X _ => by go_simp⟩) hHeld ?_
        try simp only [Act.put, List.setIfInBounds_toArray, List.set_cons_zero, List.set_cons_succ]
        refine take_at (i := 10) (v := .int .i64 (i1 : Int)) rfl rfl (by kernel_rfl) (by kernel_rfl) (by kernel_rfl) (fun _ _ _ h => h) (Or.inl ⟨by rfl, fun X _ => by go_simp⟩) hHeld ?_
        try simp only [Act.put, List.setIfInBounds_toArray, List.set_cons_zero, List.set_cons_succ]
        refine take_at (i := 11) (v := .pointer (some ⟨gt, i1 * 2, none⟩)) rfl rfl (by kernel_rfl) (by kernel_rfl) (by kernel_rfl) (fun _ _ _ h => h) (Or.inl ⟨by rfl, fun X _ => by go_simp⟩) hHeld ?_
        try simp only [Act.put, List.setIfInBounds_toArray, List.set_cons_zero, List.set_cons_succ]
        refine take_at (i := 13) (v := .pointer (some ⟨gq, 0, none⟩)) rfl rfl (by kernel_rfl) (by kernel_rfl) (by kernel_rfl) (fun _ _ _ h => h) (Or.inl ⟨by rfl, fun X _ => by go_simp⟩) hHeld ?_
        try simp only [Act.put, List.setIfInBounds_toArray, List.set_cons_zero, List.set_cons_succ]
        refine take_at (i := 14) (v := (.slice (some ⟨gt, 0, none⟩) j ct)) rfl rfl (by kernel_rfl) (by kernel_rfl) (by kernel_rfl) (fun _ _ _ h => h) (Or.inl ⟨by rfl, fun X hX => by have c0 := (q2.below hX hqt).c0; go_simp⟩) hHeld ?_
        try simp only [Act.put, List.setIfInBounds_toArray, List.set_cons_zero, List.set_cons_succ]
        refine take_at (i := 15) (v := .int .i64 (i : Int)) rfl rfl (by kernel_rfl) (by kernel_rfl) (by kernel_rfl) (fun _ _ _ h => h) (Or.inl ⟨by rfl, fun X _ => by go_simp⟩) hHeld ?_
        try simp only [Act.put, List.setIfInBounds_toArray, List.set_cons_zero, List.set_cons_succ]
        refine take_at (i := 16) (v := .pointer (some ⟨gt, i * 2, none⟩)) rfl rfl (by kernel_rfl) (by kernel_rfl) (by kernel_rfl) (fun _ _ _ h => h) (Or.inl ⟨by rfl, fun X _ => by go_simp⟩) hHeld ?_
        try simp only [Act.put, List.setIfInBounds_toArray, List.set_cons_zero, List.set_cons_succ]
        refine wpAnyH_ready (rs := [12, 17]) (by kernel_rfl) (by simp) ?_
        refine (AllReadyH.cons rfl (fun K hK => ?_) (AllReadyH.cons rfl (fun K hK => ?_) AllReadyH.nil))
        · rw [if_pos (by rfl)]
          go_simp
          refine hK.out _ _ (hHeld) (fun hHeld => ?_)
          clear hK K
          try simp only [Act.put, List.setIfInBounds_toArray, List.set_cons_zero, List.set_cons_succ]
          refine wpAnyH_ready (rs := [17]) (by kernel_rfl) (by simp) ?_
          refine (AllReadyH.cons rfl (fun K hK => ?_) AllReadyH.nil)
          rw [if_pos (by rfl)]
          go_simp
          refine hK.out _ _ (hHeld) (fun hHeld => ?_)
          clear hK K
          try simp only [Act.put, List.setIfInBounds_toArray, List.set_cons_zero, List.set_cons_succ]
          refine take_at (i := 18) (v := .pointer (some ⟨gt, i * 2, none⟩)) rfl rfl (by kernel_rfl) (by kernel_rfl) (by kernel_rfl) (fun _ _ _ h => h) (Or.inl ⟨by rfl, fun X _ => by go_simp⟩) hHeld ?_
          try simp only [Act.put, List.setIfInBounds_toArray, List.set_cons_zero, List.set_cons_succ]
          refine wpAnyH_ready (rs := [19]) (by kernel_rfl) (by simp) ?_
          refine (AllReadyH.cons rfl (fun K hK => ?_) AllReadyH.nil)
          rw [if_pos (by rfl)]
          go_simp
          refine hK.out _ _ ((hB1.setCell (Nat.le_refl _) _).setCell (Nat.le_refl _) _) (fun hHeld => ?_)
          clear hK K
          try simp only [Act.put, List.setIfInBounds_toArray, List.set_cons_zero, List.set_cons_succ]
          refine take_at (i := 20) (v := .pointer (some ⟨gt, i1 * 2, none⟩)) rfl rfl (by kernel_rfl) (by kernel_rfl) (by kernel_rfl) (fun _ _ _ h => h) (Or.inl ⟨by rfl, fun X _ => by go_simp⟩) hHeld ?_
          try simp only [Act.put, List.setIfInBounds_toArray, List.set_cons_zero, List.set_cons_succ]
          refine wpAnyH_ready (rs := [21]) (by kernel_rfl) (by simp) ?_
          refine (AllReadyH.cons rfl (fun K hK => ?_) AllReadyH.nil)
          rw [if_pos (by rfl)]
          go_simp
          refine hK.out _ _ ((((hB1.setCell (Nat.le_refl _) _).setCell (Nat.le_refl _) _).setCell (Nat.le_refl _) _).setCell (Nat.le_refl _) _) (fun hHeld => ?_)
          clear hK K
          try simp only [Act.put, List.setIfInBounds_toArray, List.set_cons_zero, List.set_cons_succ]
          refine wpAnyH_done (by kernel_rfl) ?_ _
          go_wp2_with fail
          go_meet
          exact ⟨rfl, oF.out, hHeld⟩
        · rw [if_pos (by rfl)]
          go_simp
          refine hK.out _ _ (hHeld) (fun hHeld => ?_)
          clear hK K
          try simp only [Act.put, List.setIfInBounds_toArray, List.set_cons_zero, List.set_cons_succ]
          refine wpAnyH_ready (rs := [12]) (by kernel_rfl) (by simp) ?_
          refine (AllReadyH.cons rfl (fun K hK => ?_) AllReadyH.nil)
          rw [if_pos (by rfl)]
          go_simp
          refine hK.out _ _ (hHeld) (fun hHeld => ?_)
          clear hK K
          try simp only [Act.put, List.setIfInBounds_toArray, List.set_cons_zero, List.set_cons_succ]
          refine take_at (i := 18) (v := .pointer (some ⟨gt, i * 2, none⟩)) rfl rfl (by kernel_rfl) (by kernel_rfl) (by kernel_rfl) (fun _ _ _ h => h) (Or.inl ⟨by rfl, fun X _ => by go_simp⟩) hHeld ?_
          try simp only [Act.put, List.setIfInBounds_toArray, List.set_cons_zero, List.set_cons_succ]
          refine wpAnyH_ready (rs := [19]) (by kernel_rfl) (by simp) ?_
          refine (AllReadyH.cons rfl (fun K hK => ?_) AllReadyH.nil)
          rw [if_pos (by rfl)]
          go_simp
          refine hK.out _ _ ((hB1.setCell (Nat.le_refl _) _).setCell (Nat.le_refl _) _) (fun hHeld => ?_)
          clear hK K
          try simp only [Act.put, List.setIfInBounds_toArray, List.set_cons_zero, List.set_cons_succ]
          refine take_at (i := 20) (v := .pointer (some ⟨gt, i1 * 2, none⟩)) rfl rfl (by kernel_rfl) (by kernel_rfl) (by kernel_rfl) (fun _ _ _ h => h) (Or.inl ⟨by rfl, fun X _ => by go_simp⟩) hHeld ?_
          try simp only [Act.put, List.setIfInBounds_toArray, List.set_cons_zero, List.set_cons_succ]
          refine wpAnyH_ready (rs := [21]) (by kernel_rfl) (by simp) ?_
          refine (AllReadyH.cons rfl (fun K hK => ?_) AllReadyH.nil)
          rw [if_pos (by rfl)]
          go_simp
          refine hK.out _ _ ((((hB1.setCell (Nat.le_refl _) _).setCell (Nat.le_refl _) _).setCell (Nat.le_refl _) _).setCell (Nat.le_refl _) _) (fun hHeld => ?_)
          clear hK K
          try simp only [Act.put, List.setIfInBounds_toArray, List.set_cons_zero, List.set_cons_succ]
          refine wpAnyH_done (by kernel_rfl) ?_ _
          go_wp2_with fail
          go_meet
          exact ⟨rfl, oF.out, hHeld⟩
      case rest =>
        obtain ⟨rfl, o3, b3⟩ := hcut
        obtain ⟨V3, hV3⟩ : ∃ V3, V3 = wc := ⟨_, rfl⟩
        subst hV3
        have q3 := q2.below b3 hqt
        have hw9 : w9.heap.size ≤ gt := by have := hgq.out; omega
        have b93 : Below w9.heap.size w9 V3 := b2.trans (b3.mono hw9)
        have p3 := p9.call b93
        have q9' : Hid (RdO V3 _ _) := q9.out.call b93
        have rb3 : Hid (Rd .u8 V3 _ _) := rb9.out.call b93
        have hgwt : gw < gt := by
          have h := World.block_lt_of_cell? w9 ⟨gw, i * 2, none⟩ (rd_at r9.out i (by have := hN.out; omega)).1
          simp only at h
          omega
        have m0 := (b3.cell (p := ⟨gw, i * 2, none⟩) hgwt).trans m0
        have m1 := (b3.cell (p := ⟨gw, i * 2 + 1, none⟩) hgwt).trans m1
        have m2 := (b3.cell (p := ⟨gw, i1 * 2, none⟩) hgwt).trans m2
        have m3 := (b3.cell (p := ⟨gw, i1 * 2 + 1, none⟩) hgwt).trans m3
        have hgwV : gw < V3.heap.size := World.block_lt_of_cell? V3 _ m0
        have r3 : Hid (RdO V3 (.slice (some ⟨gt, 0, none⟩) j ct) (swapO os i)) := rd_opl o3 (by rw [swap_len]; exact hN.out) (ish_fits hsw.out).1
        have hF3 : Hid (PFits ⟨swapO os i, n1, s1, a1, k1, f1⟩) := ish_fits hsw.out
        have hR3 : Hid (rightP ⟨swapO os i, n1, s1, a1, k1, f1⟩ = true) := ish_right hsw.out
        have bb3 := bcall bb9 b93
        clear g0 g1' g2 g3' g4 g5 fz1 fz2 fz3 fz4 oS2' o2 o3 b2 b3 q2 p9 q9 r9 rb9 bb9 b93
        obtain ⟨r, hr1⟩ := bool_of (os = swapO os i)
        have hrr : Hid (r = true ↔ (⟨os, n1, s1, a1, k1, f1⟩ : Pq) = ⟨swapO os i, n1, s1, a1, k1, f1⟩) := by
          have h : r = true ↔ (⟨os, n1, s1, a1, k1, f1⟩ : Pq) = ⟨swapO os i, n1, s1, a1, k1, f1⟩ := by rw [hr1, pq_eq]; simp
          exact h
        have hrx : Hid (r = true ↔ x = x' ∧ y = y') := by
          have h : r = true ↔ x = x' ∧ y = y' := by rw [hr1, hswe.out]; simp
          exact h
        have hre : Hid (decide (enc ⟨swapO os i, n1, s1, a1, k1, f1⟩ = enc ⟨os, n1, s1, a1, k1, f1⟩) = r) := by
          have h : decide (enc ⟨swapO os i, n1, s1, a1, k1, f1⟩ = enc ⟨os, n1, s1, a1, k1, f1⟩) = r := by
            rw [Bool.eq_iff_iff, decide_eq_true_iff, hrr.out]
            constructor
            · intro h
              rw [enc_of hR3.out, enc_of hr.out] at h
              exact (enc_inj hF3.out hf.out hR3.out hr.out h).symm
            · intro h; rw [h]
          exact h
        clear hr1
        have heq : ∀ X : World, (Op.equalIn 10000 23 (opv x y) (opv x' y')).run Try.prog X = .ok r X := fun X => eq23 x y x' y' r X hrx.out
        go_upto_region 24 with fail
        go_cut [159] (fun q wx => q = .bool false ∧ Below V3.heap.size V3 wx)
        case first =>
          refine wp_region_held_drew (S := fun w' => Below V3.heap.size V3 w') (by kernel_rfl) (Below.refl _ _).drew (fun hHeld => ?_)
          generalize V3.drew = V1 at hHeld ⊢
          have hH1 := hHeld
          refine take_at (i := 0) (v := pv (.slice (some ⟨gf, 0, none⟩) j cf) n1 s1 a1 k1 f1) rfl rfl (by kernel_rfl) (by kernel_rfl) (by kernel_rfl) (fun _ _ _ h => h) (Or.inl ⟨by rfl, fun X hX => by have k := p3.call hX; have c0 := k.c0; have c1 := k.c1; have c2 := k.c2; have c3 := k.c3; have c4 := k.c4; have c5 := k.c5; go_simp⟩) hHeld ?_
          try simp only [Act.put, List.setIfInBounds_toArray, List.set_cons_zero, List.set_cons_succ]
          refine take_at (i := 1) (v := pv (.slice (some ⟨gt, 0, none⟩) j ct) n1 s1 a1 k1 f1) rfl rfl (by kernel_rfl) (by kernel_rfl) (by kernel_rfl) (fun _ _ _ h => h) (Or.inl ⟨by rfl, fun X hX => by have k := q3.call hX; have c0 := k.c0; have c1 := k.c1; have c2 := k.c2; have c3 := k.c3; have c4 := k.c4; have c5 := k.c5; go_simp⟩) hHeld ?_
          try simp only [Act.put, List.setIfInBounds_toArray, List.set_cons_zero, List.set_cons_succ]
          refine take_at (i := 4) (v := (.slice (some ⟨gw, 0, none⟩) j cw)) rfl rfl (by kernel_rfl) (by kernel_rfl) (by kernel_rfl) (fun _ _ _ h => h) (Or.inl ⟨by rfl, fun X _ => by go_simp⟩) hHeld ?_
          try simp only [Act.put, List.setIfInBounds_toArray, List.set_cons_zero, List.set_cons_succ]
          refine take_at (i := 5) (v := .int .i64 (i : Int)) rfl rfl (by kernel_rfl) (by kernel_rfl) (by kernel_rfl) (fun _ _ _ h => h) (Or.inl ⟨by rfl, fun X _ => by go_simp⟩) hHeld ?_
          try simp only [Act.put, List.setIfInBounds_toArray, List.set_cons_zero, List.set_cons_succ]
          refine take_at (i := 6) (v := .pointer (some ⟨gw, i * 2, none⟩)) rfl rfl (by kernel_rfl) (by kernel_rfl) (by kernel_rfl) (fun _ _ _ h => h) (Or.inl ⟨by rfl, fun X _ => by go_simp⟩) hHeld ?_
          try simp only [Act.put, List.setIfInBounds_toArray, List.set_cons_zero, List.set_cons_succ]
          refine take_at (i := 7) (v := opv x y) rfl rfl (by kernel_rfl) (by kernel_rfl) (by kernel_rfl) (fun _ _ _ h => h) (Or.inl ⟨by rfl, fun X hX => by have u0 := (hX.cell (p := ⟨gw, i * 2, none⟩) hgwV).trans m0; have u1 := (hX.cell (p := ⟨gw, i * 2 + 1, none⟩) hgwV).trans m1; go_simp⟩) hHeld ?_
          try simp only [Act.put, List.setIfInBounds_toArray, List.set_cons_zero, List.set_cons_succ]
          refine take_at (i := 8) (v := (.slice (some ⟨gw, 0, none⟩) j cw)) rfl rfl (by kernel_rfl) (by kernel_rfl) (by kernel_rfl) (fun _ _ _ h => h) (Or.inl ⟨by rfl, fun X _ => by go_simp⟩) hHeld ?_
          try simp only [Act.put, List.setIfInBounds_toArray, List.set_cons_zero, List.set_cons_succ]
          refine take_at (i := 9) (v := .int .i64 (i : Int)) rfl rfl (by kernel_rfl) (by kernel_rfl) (by kernel_rfl) (fun _ _ _ h => h) (Or.inl ⟨by rfl, fun X _ => by go_simp⟩) hHeld ?_
          try simp only [Act.put, List.setIfInBounds_toArray, List.set_cons_zero, List.set_cons_succ]
          refine take_at (i := 10) (v := .int .i64 (i1 : Int)) rfl rfl (by kernel_rfl) (by kernel_rfl) (by kernel_rfl) (fun _ _ _ h => h) (Or.inl ⟨by rfl, fun X _ => by go_simp⟩) hHeld ?_
          try simp only [Act.put, List.setIfInBounds_toArray, List.set_cons_zero, List.set_cons_succ]
          refine take_at (i := 11) (v := .pointer (some ⟨gw, i1 * 2, none⟩)) rfl rfl (by kernel_rfl) (by kernel_rfl) (by kernel_rfl) (fun _ _ _ h => h) (Or.inl ⟨by rfl, fun X _ => by go_simp⟩) hHeld ?_
          try simp only [Act.put, List.setIfInBounds_toArray, List.set_cons_zero, List.set_cons_succ]
          refine take_at (i := 12) (v := opv x' y') rfl rfl (by kernel_rfl) (by kernel_rfl) (by kernel_rfl) (fun _ _ _ h => h) (Or.inl ⟨by rfl, fun X hX => by have u0 := (hX.cell (p := ⟨gw, i1 * 2, none⟩) hgwV).trans m2; have u1 := (hX.cell (p := ⟨gw, i1 * 2 + 1, none⟩) hgwV).trans m3; go_simp⟩) hHeld ?_
          try simp only [Act.put, List.setIfInBounds_toArray, List.set_cons_zero, List.set_cons_succ]
          refine take_at (i := 13) (v := .bool r) rfl rfl (by kernel_rfl) (by kernel_rfl) (by kernel_rfl) (fun _ _ _ h => h) (Or.inl ⟨by rfl, fun X _ => by have e := heq X; go_simp⟩) hHeld ?_
          try simp only [Act.put, List.setIfInBounds_toArray, List.set_cons_zero, List.set_cons_succ]
          refine wpAnyH_ready (rs := [2]) (by kernel_rfl) (by simp) ?_
          refine (AllReadyH.cons rfl (fun K hK => ?_) AllReadyH.nil)
          rw [if_pos (by rfl)]
          go_simp
          refine hK.out _ _ (bnew hHeld _) (fun hHeld => ?_)
          clear hK K
          try simp only [Act.put, List.setIfInBounds_toArray, List.set_cons_zero, List.set_cons_succ]
          refine wpAnyH_ready (rs := [3]) (by kernel_rfl) (by simp) ?_
          refine (AllReadyH.cons rfl (fun K hK => ?_) AllReadyH.nil)
          rw [if_pos (by rfl)]
          go_wp2_with fail
          refine (psame_is _ _ r _ (rdp_2 V1 _ _ ⟨os, n1, s1, a1, k1, f1⟩ ⟨swapO os i, n1, s1, a1, k1, f1⟩ (q9'.out.call hH1) (r3.out.call hH1)) (by rw [hrr.out]; constructor <;> intro h <;> simpa [eq_comm] using h)).mono ?_
          rintro e w7 ⟨rfl, b7⟩
          go_wp2_with fail
          refine hK.out _ _ (bcall hHeld b7) (fun hHeld => ?_)
          clear hK K
          try simp only [Act.put, List.setIfInBounds_toArray, List.set_cons_zero, List.set_cons_succ]
          refine take_at (i := 14) (v := .bool false) rfl rfl (by kernel_rfl) (by kernel_rfl) (by kernel_rfl) (fun _ _ _ h => h) (Or.inl ⟨by rfl, fun X _ => by go_simp⟩) hHeld ?_
          try simp only [Act.put, List.setIfInBounds_toArray, List.set_cons_zero, List.set_cons_succ]
          refine take_at (i := 15) (v := .bool false) rfl rfl (by kernel_rfl) (by kernel_rfl) (by kernel_rfl) (fun _ _ _ h => h) (Or.inl ⟨by rfl, fun X _ => by go_simp⟩) hHeld ?_
          try simp only [Act.put, List.setIfInBounds_toArray, List.set_cons_zero, List.set_cons_succ]
          refine take_at (i := 16) (v := pv (.slice (some ⟨gt, 0, none⟩) j ct) n1 s1 a1 k1 f1) rfl rfl (by kernel_rfl) (by kernel_rfl) (by kernel_rfl) (fun _ _ _ h => h) (Or.inl ⟨by rfl, fun X hX => by have k := q3.call hX; have c0 := k.c0; have c1 := k.c1; have c2 := k.c2; have c3 := k.c3; have c4 := k.c4; have c5 := k.c5; go_simp⟩) hHeld ?_
          try simp only [Act.put, List.setIfInBounds_toArray, List.set_cons_zero, List.set_cons_succ]
          refine take_at (i := 18) (v := .slice (some ⟨gb, 0, none⟩) E cb) rfl rfl (by kernel_rfl) (by kernel_rfl) (by kernel_rfl) (fun _ _ _ h => h) (Or.inl ⟨by rfl, fun X _ => by go_simp⟩) hHeld ?_
          try simp only [Act.put, List.setIfInBounds_toArray, List.set_cons_zero, List.set_cons_succ]
          refine take_at (i := 20) (v := (.slice (some ⟨gw, 0, none⟩) j cw)) rfl rfl (by kernel_rfl) (by kernel_rfl) (by kernel_rfl) (fun _ _ _ h => h) (Or.inl ⟨by rfl, fun X _ => by go_simp⟩) hHeld ?_
          try simp only [Act.put, List.setIfInBounds_toArray, List.set_cons_zero, List.set_cons_succ]
          refine take_at (i := 21) (v := .int .i64 (i : Int)) rfl rfl (by kernel_rfl) (by kernel_rfl) (by kernel_rfl) (fun _ _ _ h => h) (Or.inl ⟨by rfl, fun X _ => by go_simp⟩) hHeld ?_
          try simp only [Act.put, List.setIfInBounds_toArray, List.set_cons_zero, List.set_cons_succ]
          refine take_at (i := 22) (v := .pointer (some ⟨gw, i * 2, none⟩)) rfl rfl (by kernel_rfl) (by kernel_rfl) (by kernel_rfl) (fun _ _ _ h => h) (Or.inl ⟨by rfl, fun X _ => by go_simp⟩) hHeld ?_
          try simp only [Act.put, List.setIfInBounds_toArray, List.set_cons_zero, List.set_cons_succ]
          refine take_at (i := 23) (v := opv x y) rfl rfl (by kernel_rfl) (by kernel_rfl) (by kernel_rfl) (fun _ _ _ h => h) (Or.inl ⟨by rfl, fun X hX => by have u0 := (hX.cell (p := ⟨gw, i * 2, none⟩) hgwV).trans m0; have u1 := (hX.cell (p := ⟨gw, i * 2 + 1, none⟩) hgwV).trans m1; go_simp⟩) hHeld ?_
          try simp only [Act.put, List.setIfInBounds_toArray, List.set_cons_zero, List.set_cons_succ]
          refine take_at (i := 24) (v := (.slice (some ⟨gw, 0, none⟩) j cw)) rfl rfl (by kernel_rfl) (by kernel_rfl) (by kernel_rfl) (fun _ _ _ h => h) (Or.inl ⟨by rfl, fun X _ => by go_simp⟩) hHeld ?_
          try simp only [Act.put, List.setIfInBounds_toArray, List.set_cons_zero, List.set_cons_succ]
          refine take_at (i := 25) (v := .int .i64 (i : Int)) rfl rfl (by kernel_rfl) (by kernel_rfl) (by kernel_rfl) (fun _ _ _ h => h) (Or.inl ⟨by rfl, fun X _ => by go_simp⟩) hHeld ?_
          try simp only [Act.put, List.setIfInBounds_toArray, List.set_cons_zero, List.set_cons_succ]
          refine take_at (i := 26) (v := .int .i64 (i1 : Int)) rfl rfl (by kernel_rfl) (by kernel_rfl) (by kernel_rfl) (fun _ _ _ h => h) (Or.inl ⟨by rfl, fun X _ => by go_simp⟩) hHeld ?_
          try simp only [Act.put, List.setIfInBounds_toArray, List.set_cons_zero, List.set_cons_succ]
          refine take_at (i := 27) (v := .pointer (some ⟨gw, i1 * 2, none⟩)) rfl rfl (by kernel_rfl) (by kernel_rfl) (by kernel_rfl) (fun _ _ _ h => h) (Or.inl ⟨by rfl, fun X _ => by go_simp⟩) hHeld ?_
          try simp only [Act.put, List.setIfInBounds_toArray, List.set_cons_zero, List.set_cons_succ]
          refine take_at (i := 28) (v := opv x' y') rfl rfl (by kernel_rfl) (by kernel_rfl) (by kernel_rfl) (fun _ _ _ h => h) (Or.inl ⟨by rfl, fun X hX => by have u0 := (hX.cell (p := ⟨gw, i1 * 2, none⟩) hgwV).trans m2; have u1 := (hX.cell (p := ⟨gw, i1 * 2 + 1, none⟩) hgwV).trans m3; go_simp⟩) hHeld ?_
          try simp only [Act.put, List.setIfInBounds_toArray, List.set_cons_zero, List.set_cons_succ]
          refine take_at (i := 29) (v := .bool r) rfl rfl (by kernel_rfl) (by kernel_rfl) (by kernel_rfl) (fun _ _ _ h => h) (Or.inl ⟨by rfl, fun X _ => by have e := heq X; go_simp⟩) hHeld ?_
          try simp only [Act.put, List.setIfInBounds_toArray, List.set_cons_zero, List.set_cons_succ]
          refine wpAnyH_ready (rs := [17]) (by kernel_rfl) (by simp) ?_
          refine (AllReadyH.cons rfl (fun K hK => ?_) AllReadyH.nil)
          rw [if_pos (by rfl)]
          go_wp2_with fail
          refine (enc_any _ ⟨swapO os i, n1, s1, a1, k1, f1⟩ _ (r3.out.call hHeld) hF3.out).mono ?_
          rintro e w8 ⟨ue, rfl, oe, b8⟩
          go_wp2_with fail
          have rde := rd_bv oe
          refine hK.out _ _ (bcall hHeld b8) (fun hHeld => ?_)
          clear hK K
          try simp only [Act.put, List.setIfInBounds_toArray, List.set_cons_zero, List.set_cons_succ]
          refine wpAnyH_ready (rs := [19]) (by kernel_rfl) (by simp) ?_
          refine (AllReadyH.cons rfl (fun K hK => ?_) AllReadyH.nil)
          rw [if_pos (by rfl)]
          go_wp2_with fail
          refine (same_bytes _ _ _ _ _ r rde (rb3.out.call hHeld) hre.out).mono ?_
          rintro e wA ⟨rfl, bA⟩
          go_wp2_with fail
          refine hK.out _ _ (bcall hHeld bA) (fun hHeld => ?_)
          clear hK K
          try simp only [Act.put, List.setIfInBounds_toArray, List.set_cons_zero, List.set_cons_succ]
          refine take_at (i := 30) (v := .bool false) rfl rfl (by kernel_rfl) (by kernel_rfl) (by kernel_rfl) (fun _ _ _ h => h) (Or.inl ⟨by rfl, fun X _ => by go_simp⟩) hHeld ?_
          try simp only [Act.put, List.setIfInBounds_toArray, List.set_cons_zero, List.set_cons_succ]
          refine take_at (i := 31) (v := .bool false) rfl rfl (by kernel_rfl) (by kernel_rfl) (by kernel_rfl) (fun _ _ _ h => h) (Or.inl ⟨by rfl, fun X _ => by go_simp⟩) hHeld ?_
          try simp only [Act.put, List.setIfInBounds_toArray, List.set_cons_zero, List.set_cons_succ]
          refine wpAnyH_done (by kernel_rfl) ?_ _
          go_wp2_with fail
          go_meet
          exact ⟨rfl, hHeld⟩
        case rest =>
          obtain ⟨rfl, bx⟩ := hcut
          go_wp2_with fail
          refine (pipeRuns_walk wc).mono ?_
          rintro e wz ⟨rfl, bz⟩
          go_wp2
          go_ret
          exact ⟨rfl, bcall (bcall bb3 bx) bz⟩
theorem pipeOps_walk (a0 : KeepIn) (a1 : Int) (w : World) (w0 : IsKeep w a0) (_ : (Lit.int .i64 a1).wf = true) :
    Calls Try.prog 7 #[kin a0, .int .i64 a1] w fun e w' => e = .returned (.bool true) ∧ Below w.heap.size w w' :=
  ops_core a0.ao a0.lo a0.co a0.an a0.ln a0.cn a0.n a0.s a0.g a0.k a0.f a1 w w0.1 w0.2
end Go.Proofs.Ytimeglhoiibhdaa
