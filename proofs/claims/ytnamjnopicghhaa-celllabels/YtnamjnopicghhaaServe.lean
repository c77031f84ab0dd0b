/- Serve, Count, Taken, Rows of a Cell. -/
import Derived.Test.YtnamjnopicghhaaCel
import Derived.Test.YtnamjnopicghhaaRe
namespace Go.Proofs.Ytnamjnopicghhaa
open Go.RowKit M
open O.MO (Oq Pq rightP)
set_option linter.unusedVariables false
set_option linter.unusedSimpArgs false
attribute [local go_sem ↓] Go.wp_at_zero Go.wp_at_succ

/-- The first ones of n, none where n is below 0. -/
def Fst (nn : Int) (L k : Nat) : Prop := (nn < 0 ∧ k = 0) ∨ (0 ≤ nn ∧ nn ≤ ((L : Nat) : Int) ∧ nn = (k : Nat)) ∨ (((L : Nat) : Int) < nn ∧ k = L)
theorem fst_ex (nn : Int) (L : Nat) : ∃ k, Fst nn L k := by
  unfold Fst
  by_cases h : nn < 0
  · exact ⟨0, .inl ⟨h, rfl⟩⟩
  · by_cases h2 : nn ≤ (L : Int)
    · exact ⟨nn.toNat, .inr (.inl ⟨by omega, h2, by omega⟩)⟩
    · exact ⟨L, .inr (.inr ⟨by omega, rfl⟩)⟩
theorem Fst.le {nn : Int} {L k : Nat} (h : Fst nn L k) : k ≤ L := by unfold Fst at h; omega
section
variable {W0 : World} {us : List Th} {c : Nat} {p : Pq} {i l s f : Int} {wait taken : List Inp}
/-- Taken is appended. -/
theorem taken_mid {W0 w w1 : World} {us : List Th} {c : Nat} {l s f : Int} {v : Value} {b : Nat} {i : Int} {vr vt v1 : Value} {L L1 : List Inp} (h : St W0 w (cb c l s f v b i vr vt :: inl vt L :: us)) (hq1 : Qv w1 v1 L1) (hl1 : Labl L1) (hg1 : w.grownBy w1 vt.ownBlock) (hf1 : ∀ k, v1.ownBlock = some k → vt.ownBlock = some k ∨ w.heap.size ≤ k) :
    ∃ a1 n1 x1, v1 = .slice a1 n1 x1 ∧ w1.cell? ⟨c, 7, none⟩ = some vt ∧ w1.frozen? ⟨c, 7, none⟩ = false ∧ Hid (St W0 (w1.setCell ⟨c, 7, none⟩ v1) (cb c l s f v b i vr v1 :: inl v1 L1 :: us)) := by
  have h1 : St W0 w1 (inl v1 L1 :: cb c l s f v b i vr vt :: us) := h.sw.grow hq1 hl1 hg1 hf1
  have h2 := h1.sw
  obtain ⟨a1, x1, e, _⟩ := hq1.len
  exact ⟨a1, _, x1, e, h2.ck.c7, h2.ck.free 7, h2.setC _ _ (h2.ck.set7 _)⟩
theorem rows_mid {W0 w w1 : World} {us : List Th} {c : Nat} {l s f : Int} {v : Value} {b : Nat} {i : Int} {vr vt v1 : Value} {L L1 : List Pn} (h : St W0 w (cb c l s f v b i vr vt :: rwl vr L :: us)) (hq1 : w1.ownsRow 0 39 5 v1 L1.length (rcs L1)) (hg1 : w.grownBy w1 vr.ownBlock) (hf1 : ∀ k, v1.ownBlock = some k → vr.ownBlock = some k ∨ w.heap.size ≤ k) :
    ∃ a1 n1 x1, v1 = .slice a1 n1 x1 ∧ w1.cell? ⟨c, 6, none⟩ = some vr ∧ w1.frozen? ⟨c, 6, none⟩ = false ∧ Hid (St W0 (w1.setCell ⟨c, 6, none⟩ v1) (cb c l s f v b i v1 vt :: rwl v1 L1 :: us)) := by
  have h1 : St W0 w1 (rwl v1 L1 :: cb c l s f v b i vr vt :: us) := h.sw.growr hq1 hg1 hf1
  have h2 := h1.sw
  obtain ⟨a1, l1, x1, e⟩ := own_slice hq1
  exact ⟨a1, _, x1, e, h2.ck.c6, h2.ck.free 6, h2.setC _ _ (h2.ck.set6 _)⟩
theorem own_len' {w : World} {B : Nat} {e : TypeId} {size n : Nat} {v : Value} {xs : List Value} (h : w.ownsRow B e size v n xs) : ∃ a c, v = .slice a n c := by
  obtain ⟨h1, h | ⟨g, cap, cur, rfl, h2, hh, r⟩⟩ := h
  · obtain ⟨rfl, rfl⟩ := h
    exact ⟨none, 0, rfl⟩
  · exact ⟨_, _, rfl⟩
theorem rw_src {w : World} {v : Value} {R : List Pn} (h : w.ownsRow 0 39 5 v R.length (rcs R)) : SrcN 5 w v R.length (rcs R) := srcN_own h
set_option maxHeartbeats 2000000 in
set_option maxRecDepth 100000 in
/-- Cell.Serve. -/
theorem serve_is (nn : Int) (w : World) (hS : St W0 w (cel c p i l s f wait taken :: us)) (k : Nat) (hk : Fst nn wait.length k) (hw : wait.length + taken.length ≤ 10000) :
    Calls Try.prog 11 #[.pointer (some ⟨c, 0, none⟩), .int .i64 nn] w fun e w' => ∃ u, e = .returned u ∧ St W0 w' (rwl u (rowsR p (stR p r0 taken) (wait.take k)) :: cel c p i l s f (wait.drop k) (taken ++ wait.take k) :: us) := by
  obtain ⟨i0, hi, hz0, hz1, hz2⟩ := info_parts Try.info39
  obtain ⟨v, b, vr, vt, hO⟩ := hS.opn
  have hk' : Hid (Fst nn wait.length k) := hk
  have hw' : Hid (wait.length + taken.length ≤ 10000) := hw
  have hO' : Hid (St W0 w (cb c l s f v b i vr vt :: inl v wait :: rnt b p (stR p r0 taken) :: rwl vr (rowsR p r0 taken) :: inl vt taken :: us)) := hO
  clear hk hw hS hO
  obtain ⟨js, hjs⟩ : ∃ js, Hid (wait.take k = js) := ⟨_, rfl⟩
  obtain ⟨rest, hrest⟩ : ∃ rest, Hid (wait.drop k = rest) := ⟨_, rfl⟩
  have hjl : Hid (js.length + taken.length ≤ 10000) := by
    have h : js.length + taken.length ≤ 10000 := by have := hw'.out; rw [← hjs.out, List.length_take]; omega
    exact h
  obtain ⟨r, hr⟩ : ∃ r, Hid (stR p r0 taken = r) := ⟨_, rfl⟩
  obtain ⟨R, hR⟩ : ∃ R, Hid (rowsR p r0 taken = R) := ⟨_, rfl⟩
  have hb : Hid (r.L.length + 8 * js.length ≤ 800000 ∧ (0 ≤ r.l ∧ r.l + js.length ≤ 1000000) ∧ (0 ≤ r.s ∧ r.s + js.length ≤ 1000000) ∧ R.length ≤ 80000 ∧ (rowsR p r js).length ≤ 200000) := by
    have h : r.L.length + 8 * js.length ≤ 800000 ∧ (0 ≤ r.l ∧ r.l + js.length ≤ 1000000) ∧ (0 ≤ r.s ∧ r.s + js.length ≤ 1000000) ∧ R.length ≤ 80000 ∧ (rowsR p r js).length ≤ 200000 := by
      have h1 := rows_len p taken
      have h2 := all_counts p taken r0
      have h3 := all_total p js (stR p r0 taken)
      have h4 := hjl.out
      simp only [r0] at h2
      rw [← hr.out, ← hR.out]
      simp only [r0] at h1 h3 ⊢
      omega
    exact h
  have hnew : Hid (rowsR p r0 (taken ++ js) = R ++ rowsR p r js ∧ stR p r0 (taken ++ js) = stR p r js) := by
    have h : rowsR p r0 (taken ++ js) = R ++ rowsR p r js ∧ stR p r0 (taken ++ js) = stR p r js := by rw [rowsR_append, stR_append, hr.out, hR.out]; exact ⟨rfl, rfl⟩
    exact h
  rw [hr.out, hR.out] at hO'
  rw [hr.out, hjs.out, hrest.out]
  go_enter Try.func11, Try.ntmps11
  go_wp2_with fail
  refine (pop_is nn _ hO'.out (by have := hw'.out; omega) k hk'.out).mono ?_
  rintro e w1 ⟨u, v1, rfl, hO1⟩
  rw [hjs.out, hrest.out] at hO1
  have hO2 : Hid (St W0 w1 (rnt b p r :: inl u js :: cb c l s f v1 b i vr vt :: inl v1 rest :: rwl vr R :: inl vt taken :: us)) := hO1.re [3, 0, 1, 2] 4
  clear hO' hO1
  have d4 := (hO2.out.re [2, 0, 1] 3).ck.c4
  go_upto_region 2 with fail
  go_wp2_with fail
  refine (rtake_st b p r u js _ hO2.out hb.out.1 hb.out.2.1 hb.out.2.2.1).mono ?_
  rintro e w2 ⟨q, rfl, hO3⟩
  have hO4 : Hid (St W0 w2 (cb c l s f v1 b i vr vt :: inl vt taken :: inl u js :: rwl q (rowsR p r js) :: rnt b p (stR p r js) :: inl v1 rest :: rwl vr R :: us)) := hO3.re [3, 6, 2, 0, 1, 4, 5] 7
  clear hO2 hO3 d4
  have d7 := hO4.out.ck.c7
  obtain ⟨qt, htl⟩ := (hO4.out.re [1, 0] 2).qv
  obtain ⟨qu, hul⟩ := (hO4.out.re [2, 0, 1] 3).qv
  obtain ⟨qb, hrd, hx1, hx2⟩ := qu.rdi hul 0
  clear hx1 hx2
  obtain ⟨ta, tc, rfl, ht1, ht2, ht3⟩ := qt.len
  obtain ⟨ua, uc, rfl, hu1, hu2, hu3⟩ := qu.len
  have hlab : Hid (Labl (taken ++ js)) := htl.app hul
  have hrd' : Hid (RdI w2 (.slice ua js.length uc) qb js) := hrd
  have hqt : Hid (Qv w2 (.slice ta taken.length tc) taken) := qt
  clear qt qu htl hul hrd ht3 hu3
  obtain ⟨nt, hnt⟩ : ∃ nt, Hid (taken.length = nt) := ⟨_, rfl⟩
  obtain ⟨nj, hnj⟩ : ∃ nj, Hid (js.length = nj) := ⟨_, rfl⟩
  rw [hnt.out] at d7 ht1 hqt
  rw [hnj.out] at hu1 hrd'
  rw [hnt.out, hnj.out] at hO4 hjl
  rw [hnj.out]
  go_upto_region 3 with fail
  go_upto_region 4 with (at_builtin; refine wpList_append_q (by rfl) _ _ rfl (.slice ta nt tc) taken rfl hqt.out (.slice ua nj uc) qb js rfl hrd'.out (by rw [hnt.out, hnj.out]; have := hjl.out; omega) ?_; rintro v3 w3 hq3 hg3 hf3; obtain ⟨a3, n3, x3, rfl, d0, f0, hO5⟩ := taken_mid hO4.out hq3 hlab.out hg3 hf3; clear hq3 hg3 hf3 d7 hqt hrd')
  clear d0 f0 hO4
  generalize w3.setCell ⟨c, 7, none⟩ (.slice a3 n3 x3) = w4 at *
  have hO6 : Hid (St W0 w4 (cb c l s f v1 b i vr (.slice a3 n3 x3) :: rwl vr R :: rwl q (rowsR p r js) :: inl (.slice a3 n3 x3) (taken ++ js) :: rnt b p (stR p r js) :: inl v1 rest :: us)) := (hO5.out.re [0, 6, 3, 1, 4, 5, 2] 7).rm 6
  clear hO5
  have d6 := hO6.out.ck.c6
  have hr1 := (hO6.out.re [1, 0] 2).rw
  have hr2 := (hO6.out.re [2, 0, 1] 3).rw
  obtain ⟨ra, rl, rc, rfl⟩ := own_slice hr1
  obtain ⟨qa, ql, qc, rfl⟩ := own_slice hr2
  have hr1' : Hid (w4.ownsRow 0 39 5 (.slice ra rl rc) R.length (rcs R)) := hr1
  have hr2' : Hid (w4.ownsRow 0 39 5 (.slice qa ql qc) (rowsR p r js).length (rcs (rowsR p r js))) := hr2
  obtain ⟨N, hN⟩ : ∃ N, Hid (rowsR p r js = N) := ⟨_, rfl⟩
  have hb2 : R.length ≤ 80000 ∧ N.length ≤ 200000 := by have := hb.out; rw [hN.out] at this; exact this.2.2.2
  have hN2 : Hid (rowsR p r0 (taken ++ js) = R ++ N) := by
    have h : rowsR p r0 (taken ++ js) = R ++ N := by rw [hnew.out.1, hN.out]
    exact h
  rw [hN.out] at hr2' hO6
  clear hr1 hr2
  go_upto_region 5 with (at_builtin; refine wpList_append_srcF _ (by rfl) _ _ 34 rfl 5 0 39 i0 rzero 40 Try.underlying34 hi hz0 hz1 hz2 rfl (by decide) (.slice ra rl rc) R.length (rcs R) rfl hr1'.out (.slice qa ql qc) N.length (rcs N) rfl (srcN_own hr2'.out) (rcs_one _) (by unfold maxLen; omega) (by omega) (by omega) ?_; rintro v5 w5 hq5 _ hg5 hf5; obtain ⟨a5, n5, x5, rfl, d0, f0, hO7⟩ := rows_mid (L1 := R ++ N) hO6.out (by rw [rcs_append, List.length_append]; exact hq5) hg5 hf5; clear hq5 hg5 hf5 d6 hr1' hr2')
  clear d0 f0 hO6
  have hfin : Hid (St W0 (w5.setCell ⟨c, 6, none⟩ (.slice a5 n5 x5)) (rwl (.slice qa ql qc) N :: cel c p i l s f rest (taken ++ js) :: us)) := by
    have h : St W0 (w5.setCell ⟨c, 6, none⟩ (.slice a5 n5 x5)) (rwl (.slice qa ql qc) N :: cel c p i l s f rest (taken ++ js) :: us) := by
      have h1 := hO7.out.re [0, 5, 4, 1, 3, 2] 6
      have h2 : St W0 (w5.setCell ⟨c, 6, none⟩ (.slice a5 n5 x5)) (cb c l s f v1 b i (.slice a5 n5 x5) (.slice a3 n3 x3) :: inl v1 rest :: rnt b p (stR p r0 (taken ++ js)) :: rwl (.slice a5 n5 x5) (rowsR p r0 (taken ++ js)) :: inl (.slice a3 n3 x3) (taken ++ js) :: rwl (.slice qa ql qc) N :: us) := by
        rw [hnew.out.2, hN2.out]; exact h1
      exact St.sw h2.cls
    exact h
  clear hO7
  rw [← hN.out] at hfin
  go_wp2_with fail
  go_ret
  exact ⟨_, rfl, hfin.out⟩
/-- Cell.Count. -/
theorem count_is (w : World) (hS : St W0 w (cel c p i l s f wait taken :: us)) :
    Calls Try.prog 26 #[.pointer (some ⟨c, 0, none⟩)] w fun e w' => e = .returned (.int .i64 ((rowsR p r0 taken).length : Nat)) ∧ w' = w := by
  obtain ⟨v, b, vr, vt, hO⟩ := hS.opn
  have d6 := hO.ck.c6
  have hr := (hO.re [3, 0, 1, 2] 4).rw
  obtain ⟨ra, rc, rfl⟩ := own_len' hr
  generalize (rowsR p r0 taken).length = n at *
  clear hO hr hS
  go_enter Try.func26, Try.ntmps26
  go_wp2
  go_ret
  exact ⟨rfl, rfl⟩
/-- Cell.Taken. -/
theorem takenl_is (w : World) (hS : St W0 w (cel c p i l s f wait taken :: us)) (hl : taken.length ≤ 100000) :
    Calls Try.prog 25 #[.pointer (some ⟨c, 0, none⟩)] w fun e w' => ∃ u, e = .returned u ∧ St W0 w' (inl u taken :: cel c p i l s f wait taken :: us) ∧ Below w.heap.size w w' := by
  obtain ⟨v, b, vr, vt, hO⟩ := hS.opn
  have d7 := hO.ck.c7
  obtain ⟨qt, htl⟩ := (hO.re [4, 0, 1, 2, 3] 5).qv
  obtain ⟨qb, hrd, hx1, hx2⟩ := qt.rdi htl 0
  have hS' : Hid (St W0 w (cel c p i l s f wait taken :: us)) := hS
  have hlab : Hid (Labl taken) := htl
  clear hx1 hx2 hO qt htl hS
  go_enter Try.func25, Try.ntmps25
  go_wp2_with fail
  refine (ccopy_is vt qb taken _ hrd (by omega)).mono ?_
  rintro e w1 ⟨u, rfl, hu, hb, hf⟩
  have hS2 : Hid (St W0 w1 (inl u taken :: cel c p i l s f wait taken :: us)) := hS'.out.newl hb hu hlab.out hf
  go_wp2_with fail
  go_ret
  exact ⟨_, rfl, hS2.out, hb⟩
end
end Go.Proofs.Ytnamjnopicghhaa
