/- Rows of a Cell: copies of a part of its rows. -/
import Derived.Test.YtnamjnopicghhaaServe
namespace Go.Proofs.Ytnamjnopicghhaa
open Go.RowKit M
open O.MO (Oq Pq rightP)
set_option linter.unusedVariables false
set_option linter.unusedSimpArgs false
attribute [local go_sem ↓] Go.wp_at_zero Go.wp_at_succ

theorem rcs_drop : ∀ (es : List Pn) (i : Nat), rcs (es.drop i) = (rcs es).drop (i * 5)
  | [], i => by simp [rcs]
  | e :: r, 0 => by simp
  | e :: r, i + 1 => by
    have e1 : rcs (e :: r) = rcell e ++ rcs r := by simp [rcs]
    rw [List.drop_succ_cons, rcs_drop r i, e1, show (i + 1) * 5 = 5 + i * 5 by omega, ← List.drop_drop]
    rfl
theorem rcs_take : ∀ (es : List Pn) (i : Nat), rcs (es.take i) = (rcs es).take (i * 5)
  | [], i => by simp [rcs]
  | e :: r, 0 => by simp [rcs]
  | e :: r, i + 1 => by
    have e1 : rcs (e :: r) = rcell e ++ rcs r := by simp [rcs]
    have e2 : rcs (e :: r.take i) = rcell e ++ rcs (r.take i) := by simp [rcs]
    rw [List.take_succ_cons, e2, rcs_take r i, e1, show (i + 1) * 5 = (rcell e).length + i * 5 by show _ = 5 + i * 5; omega, List.take_length_add_append]
/-- A part of a list of rows, read. -/
theorem rows_part {w : World} {ao : Option Addr} {n cap : Nat} {R : List Pn} (h : w.ownsRow 0 39 5 (.slice ao n cap) n (rcs R)) (hn : n = R.length) (F m : Nat) (hm : F + m ≤ n) (ao' : Option Addr) (ha : ao' = if cap - F = 0 then ao else ao.map (fun x => x.add (F * 5))) :
    SrcN 5 w (.slice ao' m (cap - F)) m (rcs ((R.drop F).take m)) := by
  have h' := h
  obtain ⟨_, h0 | ⟨g, cap', cur, e, hb, hh, hnn, hmx, hs, ht⟩⟩ := h
  · obtain ⟨e, h0⟩ := h0
    cases e
    have : m = 0 := by omega
    subst this
    exact .inl ⟨by subst ha; simp, rfl, by simp [rcs]⟩
  · cases e
    have hlen : (rcs ((R.drop F).take m)).length = m * 5 := by rw [rcs_len, List.length_take, List.length_drop]; congr 1; omega
    by_cases hc : cap - F = 0
    · have : m = 0 := by omega
      subst this
      rw [if_pos hc] at ha
      subst ha
      exact .inr ⟨_, _, rfl, by simp [rcs], fun j x hj => by simp [rcs] at hj⟩
    · rw [if_neg hc] at ha
      have e1 : (some (⟨g, 0, none⟩ : Addr)).map (fun x => x.add (F * 5)) = some ⟨g, F * 5, none⟩ := by simp [Addr.add_lit]
      rw [e1] at ha
      subst ha
      refine .inr ⟨_, _, rfl, hlen, fun j x hj => ?_⟩
      have hjl := (List.getElem?_eq_some_iff.1 hj).1
      rw [hlen] at hjl
      have hx := h'.cellAt (F * 5 + j) (by omega)
      rw [Addr.add_lit, hx]
      rw [rcs_take, rcs_drop, List.getElem?_take, if_pos hjl, List.getElem?_drop] at hj
      exact hj
/-- cell.copyOf of rows. -/
theorem rcopy_is (u : Value) (L : List Pn) (w : World) (hs : SrcN 5 w u L.length (rcs L)) (hl : L.length ≤ 1000000) :
    Calls Try.prog 39 #[u] w fun e w' => ∃ v, e = .returned v ∧ w'.ownsRow w.heap.size 39 5 v L.length (rcs L) ∧ Below w.heap.size w w' := by
  obtain ⟨i0, hi, hz0, hz1, hz2⟩ := info_parts Try.info39
  go_enter Try.func39, Try.ntmps39
  go_wp2_with (at_builtin; refine wpList_append_srcF _ (by rfl) _ _ 34 rfl 5 w.heap.size 39 i0 rzero 40 Try.underlying34 hi hz0 hz1 hz2 rfl (by decide) (.slice none 0 0) 0 [] rfl (World.ownsRow_nil _ _ _ _) u L.length (rcs L) rfl hs (rcs_one _) (by unfold maxLen; omega) (by omega) (by omega) ?_; rintro v5 w5 hq5 hb5 _ _)
  go_ret
  exact ⟨_, rfl, by simpa using hq5, hb5⟩
/-- How many rows are told. -/
def Rwm (n : Int) (D m : Nat) : Prop := (n < 0 ∧ m = 0) ∨ (0 ≤ n ∧ n ≤ 32 ∧ n ≤ (D : Int) ∧ n = (m : Nat)) ∨ (32 < n ∧ 32 ≤ (D : Int) ∧ m = 32) ∨ (0 ≤ n ∧ (D : Int) < n ∧ (D : Int) < 32 ∧ m = D)
theorem rwm_ex (n : Int) (D : Nat) : ∃ m, Rwm n D m := by
  unfold Rwm
  by_cases h : n < 0
  · exact ⟨0, .inl ⟨h, rfl⟩⟩
  · by_cases h2 : n ≤ 32 ∧ n ≤ (D : Int)
    · exact ⟨n.toNat, .inr (.inl ⟨by omega, h2.1, h2.2, by omega⟩)⟩
    · by_cases h3 : 32 ≤ (D : Int)
      · exact ⟨32, .inr (.inr (.inl ⟨by omega, h3, rfl⟩))⟩
      · exact ⟨D, .inr (.inr (.inr ⟨by omega, by omega, by omega, rfl⟩))⟩
theorem Rwm.le {n : Int} {D m : Nat} (h : Rwm n D m) : m ≤ D ∧ m ≤ 32 := by unfold Rwm at h; omega
section
variable {W0 : World} {us : List Th} {c : Nat} {p : Pq} {i l s f : Int} {wait taken : List Inp}
/-- Cell.Rows from no number of a row. -/
theorem crows_no (fr n : Int) (w : World) (hS : St W0 w (cel c p i l s f wait taken :: us)) (hf : fr < 0 ∨ (((rowsR p r0 taken).length : Nat) : Int) < fr) :
    Calls Try.prog 12 #[.pointer (some ⟨c, 0, none⟩), .int .i64 fr, .int .i64 n] w fun e w' => e = .returned (.tuple #[.slice none 0 0, .int .i64 5]) ∧ w' = w := by
  obtain ⟨v, b, vr, vt, hO⟩ := hS.opn
  have d6 := hO.ck.c6
  obtain ⟨ra, rc, rfl⟩ := own_len' (hO.re [3, 0, 1, 2] 4).rw
  generalize (rowsR p r0 taken).length = N at *
  clear hO hS
  by_cases h0 : fr < 0
  · clear hf
    go_enter Try.func12, Try.ntmps12
    go_wp2
    exact bodyPost_ret (v := .tuple #[.slice none 0 0, .int .i64 5]) (by simp [results, Try.results12, go_sem]) rfl ⟨rfl, rfl⟩
  · have h1 : (N : Int) < fr := by omega
    clear hf
    go_enter Try.func12, Try.ntmps12
    go_wp2
    exact bodyPost_ret (v := .tuple #[.slice none 0 0, .int .i64 5]) (by simp [results, Try.results12, go_sem]) rfl ⟨rfl, rfl⟩
set_option maxHeartbeats 1000000 in
/-- Cell.Rows. -/
theorem crows_is (n : Int) (F : Nat) (w : World) (hS : St W0 w (cel c p i l s f wait taken :: us)) (hl : taken.length ≤ 10000) (D m : Nat) (hD : F + D = (rowsR p r0 taken).length) (hm : Rwm n D m) :
    Calls Try.prog 12 #[.pointer (some ⟨c, 0, none⟩), .int .i64 (F : Nat), .int .i64 n] w fun e w' => ∃ u, e = .returned (.tuple #[u, .int .i64 0]) ∧ St W0 w' (rwl u (((rowsR p r0 taken).drop F).take m) :: cel c p i l s f wait taken :: us) := by
  have hS' : Hid (St W0 w (cel c p i l s f wait taken :: us)) := hS
  obtain ⟨v, b, vr, vt, hO⟩ := hS.opn
  have d6 := hO.ck.c6
  have hr := (hO.re [3, 0, 1, 2] 4).rw
  have hlen := (rows_len p taken).1
  obtain ⟨ra, rc, rfl⟩ := own_len' hr
  obtain ⟨N, hN⟩ : ∃ N, Hid ((rowsR p r0 taken).length = N) := ⟨_, rfl⟩
  have hrc : N ≤ rc ∧ rc ≤ 9223372036854775807 := by
    rw [← hN.out]
    obtain ⟨_, h0 | ⟨g, cap', cur, e, hb, hh, hnn, hmx, hs, ht⟩⟩ := hr
    · obtain ⟨e, h0⟩ := h0; injection e with e1 e2 e3; omega
    · injection e with e1 e2 e3; unfold maxLen at hmx; omega
  rw [hN.out] at hr d6 hD hlen
  have hpart : Hid (∀ ao', ao' = (if rc - F = 0 then ra else ra.map (fun x => x.add (F * 5))) → SrcN 5 w (.slice ao' m (rc - F)) m (rcs (((rowsR p r0 taken).drop F).take m))) := by
    intro ao' ha
    exact rows_part hr hN.out.symm F m (by have := hm.le; omega) ao' ha
  have hml : Hid ((((rowsR p r0 taken).drop F).take m).length = m) := by
    have h : (((rowsR p r0 taken).drop F).take m).length = m := by
      rw [List.length_take, List.length_drop, hN.out]; have := hm.le; omega
    exact h
  obtain ⟨M, hM⟩ : ∃ M, Hid (((rowsR p r0 taken).drop F).take m = M) := ⟨_, rfl⟩
  rw [hM.out] at hpart hml ⊢
  have hle := hm.le
  have hsub : (N : Int) - (F : Int) = (D : Int) := by omega
  clear hO hr hS hlen
  go_enter Try.func12, Try.ntmps12
  go_upto_region 3 with fail
  go_cut [2] (fun x wx => x = .int .i64 ((m : Nat) : Int) ∧ wx = w)
  case first =>
    rcases hm with ⟨h4, rfl⟩ | ⟨h4, h5, h6, rfl⟩ | ⟨h4, h5, rfl⟩ | ⟨h4, h5, h6, rfl⟩
    · go_wp2_with fail
      go_meet
      exact ⟨rfl, rfl⟩
    · go_wp2_with fail
      go_meet
      exact ⟨rfl, rfl⟩
    · go_wp2_with fail
      go_meet
      exact ⟨rfl, rfl⟩
    · go_wp2_with fail
      go_meet
      exact ⟨rfl, rfl⟩
  obtain ⟨rfl, he⟩ := hcut
  obtain rfl := he.symm
  clear hm
  obtain ⟨G, hG⟩ : ∃ G, Hid (F + m = G) := ⟨_, rfl⟩
  have hsum : (F : Int) + (m : Int) = (G : Int) := by have := hG.out; omega
  have hG1 : F ≤ G := by have := hG.out; omega
  have hG2 : G ≤ N := by have := hG.out; omega
  have hG3 : G - F = m := by have := hG.out; omega
  go_wp2_with fail
  · have hz : rc - F = 0 := by omega
    have hq := hpart.out ra (by rw [if_pos hz])
    rw [hz] at hq
    refine (rcopy_is (.slice ra m 0) M _ (by rw [hml.out]; exact hq) (by rw [hml.out]; omega)).mono ?_
    rintro e w1 ⟨u, rfl, hu, hb⟩
    have hfin : Hid (St W0 w1 (rwl u M :: cel c p i l s f wait taken :: us)) := hS'.out.newr hb hu (Nat.le_refl _)
    clear hS' hu hb hpart hml
    go_wp2_with fail
    exact bodyPost_ret (v := .tuple #[u, .int .i64 0]) (by simp [results, Try.results12, go_sem]) rfl ⟨u, rfl, hfin.out⟩
  · rename_i hz
    have hq := hpart.out (ra.map (fun x => x.add (F * 5))) (by rw [if_neg (by omega)])
    refine (rcopy_is (.slice (ra.map (fun x => x.add (F * 5))) m (rc - F)) M _ (by rw [hml.out]; exact hq) (by rw [hml.out]; omega)).mono ?_
    rintro e w1 ⟨u, rfl, hu, hb⟩
    have hfin : Hid (St W0 w1 (rwl u M :: cel c p i l s f wait taken :: us)) := hS'.out.newr hb hu (Nat.le_refl _)
    clear hS' hu hb hpart hml
    go_wp2_with fail
    exact bodyPost_ret (v := .tuple #[u, .int .i64 0]) (by simp [results, Try.results12, go_sem]) rfl ⟨u, rfl, hfin.out⟩
end
end Go.Proofs.Ytnamjnopicghhaa
