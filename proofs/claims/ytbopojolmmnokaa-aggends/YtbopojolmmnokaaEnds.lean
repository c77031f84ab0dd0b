/- AggEnds, walked: of any values it returns true, and nothing that was there is written. -/
import Derived.Test.YtbopojolmmnokaaCut
import Derived.Deep.QuietTactic
import Derived.BigQuiet
namespace Go.Proofs.Ytbopojolmmnokaa
open Go.RowKit M
set_option linter.unusedVariables false

namespace M
/-- Each value and its opposite. -/
def opp (l : List Int) : List Int := l.flatMap fun v => [v, wrap64 (-v)]
theorem opp_snoc (l : List Int) (x : Int) : opp (l ++ [x]) = opp l ++ [x, wrap64 (-x)] := by simp [opp]
theorem opp_len (l : List Int) : (opp l).length = 2 * l.length := by
  induction l with
  | nil => rfl
  | cons x r ih => simp only [opp, List.flatMap_cons, List.length_append, List.length_cons, List.length_nil] at *; omega
theorem opp_one (v : Int) : ∃ q : Int, v + wrap64 (-v) = q * 18446744073709551616 := by
  unfold wrap64
  exact ⟨-((-v + 9223372036854775808) / 18446744073709551616), by omega⟩
theorem opp_sum (l : List Int) : ∃ q : Int, (opp l).sum = q * 18446744073709551616 := by
  induction l with
  | nil => exact ⟨0, rfl⟩
  | cons x r ih =>
    obtain ⟨q, hq⟩ := ih
    obtain ⟨p, hp⟩ := opp_one x
    refine ⟨p + q, ?_⟩
    have e : (opp (x :: r)).sum = x + wrap64 (-x) + (opp r).sum := by simp [opp]; omega
    rw [e, hp, hq]; omega
theorem opp_val (l : List Int) : val 2 (opp l) = 0 := by
  obtain ⟨q, hq⟩ := opp_sum l
  rw [val2, hq]
  unfold wrap64; omega
/-- Has one of the first ones been this one? -/
def hit (ns : List Int) (A : Int) (j : Nat) : Bool := decide (ns = []) || decide (A ∈ ns.take j)
theorem hit_zero (ns : List Int) (A : Int) (n : Nat) (hn : ns.length = n) : hit ns A 0 = decide ((n : Int) = 0) := by
  unfold hit
  cases ns with
  | nil => simp at hn; subst hn; simp
  | cons a r => simp at hn; simp; omega
theorem hit_step (ns : List Int) (A x : Int) (j : Nat) (h : j < ns.length) (hx : ns.getD j 0 = x) : hit ns A (j + 1) = (hit ns A j || decide (x = A)) := by
  unfold hit
  have e : ns.take (j + 1) = ns.take j ++ [x] := by
    rw [List.take_succ_eq_append_getElem h, ← hx]
    simp [List.getD_eq_getElem?_getD, h]
  rw [e]
  by_cases h1 : ns = []
  · simp [h1]
  · by_cases h2 : A ∈ ns.take j
    · simp [h2]
    · by_cases h3 : x = A
      · subst h3; simp
      · have : ¬ A = x := fun h => h3 h.symm
        simp [h1, h2, h3, this]
theorem hit_end (ns : List Int) (A : Int) (j : Nat) (hj : ns.length ≤ j) (h : ns ≠ [] → A ∈ ns) : hit ns A j = true := by
  unfold hit
  rw [List.take_of_length_le hj]
  by_cases h1 : ns = []
  · simp [h1]
  · simp [h h1]
end M

set_option maxHeartbeats 4000000 in
set_option maxRecDepth 100000 in
theorem ends_core (a0 : Option Addr) (len0 cap0 : Nat) (z0 : List Int) (w : World) (row0 : IsInts w a0 len0 cap0 z0) :
    Calls Try.prog 7 #[.slice a0 len0 cap0] w fun e w' => e = .returned (.bool true) ∧ Below w.heap.size w w' := by
  obtain ⟨i0, hi, hz0, hz1, hz2⟩ := info_parts Try.info3
  have hown0 : (w.alloc (.cells #[] 3)).ownsRow w.heap.size 3 1 (.slice (some ⟨w.heap.size, 0, none⟩) 0 0) 0 [] :=
    World.ownsRow_lit w #[] 0 (Nat.le_refl _) (by unfold maxLen; omega) (by simp)
  obtain ⟨K, hKB, hKl, hmin⟩ : ∃ K : Nat, K ≤ 25 ∧ K ≤ len0 ∧ ((len0 ≤ 25 ∧ K = len0) ∨ (25 < len0 ∧ K = 25)) := by
    by_cases h : len0 ≤ 25
    · exact ⟨len0, h, Nat.le_refl _, .inl ⟨h, rfl⟩⟩
    · exact ⟨25, Nat.le_refl _, by omega, .inr ⟨by omega, rfl⟩⟩
  have hsrc : Hid (Src (w.alloc (.cells #[] 3)) (.slice a0 K cap0) K (iv (z0.take K))) := (src_row row0 K hKl).below (below_alloc w _) (Nat.le_refl _)
  have hzl : Hid ((z0.take K).length = K) := by
    have h : (z0.take K).length = K := by
      rcases row0 with ⟨_, rfl, _, rfl⟩ | ⟨x, _, h1, _, h3, _⟩
      · simp; omega
      · rw [List.length_take]; omega
    exact h
  obtain ⟨ns0, hns0⟩ : ∃ ns, Hid (z0.take K = ns) := ⟨_, rfl⟩
  rw [hns0.out] at hsrc hzl
  clear hns0
  go_enter Try.func7, Try.ntmps7
  go_upto_region 1 with fail
  go_cut [3] (fun v wx => ∃ ns : List Int, ns.length ≤ 25 ∧ wx.ownsRow w.heap.size 3 1 v ns.length (iv ns) ∧ Below w.heap.size w wx)
  case first =>
    rcases row0 with ⟨rfl, rfl, rfl, rfl⟩ | ⟨x, rfl, hlc, hcm, hzl2, hcell, hwf⟩
    · have hK0 : K = 0 := by omega
      subst hK0
      go_wp2_with (at_builtin; refine wpList_append_src _ (by rfl) _ _ 29 rfl w.heap.size 3 i0 (.int .i64 0) 8 Try.underlying29 hi hz0 hz1 hz2 rfl _ 0 [] rfl hown0 _ 0 (iv ns0) rfl hsrc.out (iv_one _) (by unfold maxLen; omega) (by omega) (by simp) ?_)
      intro v' w1 hown' hb1
      go_wp2_with fail
      go_meet
      refine ⟨ns0, by rw [hzl.out]; omega, ?_, (below_alloc w _).trans hb1⟩
      rw [hzl.out]; simpa using hown'
    · unfold maxLen at hcm
      clear hcell hwf
      rcases hmin with ⟨hle, rfl⟩ | ⟨hle, rfl⟩
      all_goals
        go_wp2_with (at_builtin; refine wpList_append_src _ (by rfl) _ _ 29 rfl w.heap.size 3 i0 (.int .i64 0) 8 Try.underlying29 hi hz0 hz1 hz2 rfl _ 0 [] rfl hown0 _ _ (iv ns0) rfl hsrc.out (iv_one _) (by unfold maxLen; omega) (by omega) (by simp) ?_)
        intro v' w1 hown' hb1
        go_wp2_with fail
        go_meet
        refine ⟨ns0, by rw [hzl.out]; exact hKB, ?_, (below_alloc w _).trans hb1⟩
        rw [hzl.out]; simpa using hown'
  case rest =>
    obtain ⟨ns, hnB, hown, t1⟩ := hcut
    clear hown0 hsrc hzl row0 hmin hKB hKl
    obtain ⟨ao, cp, rfl, hsh⟩ := own_shape hown
    have ho : Hid (Rd .i64 wc (.slice ao ns.length cp) ns) := rd_iv hown
    have apo0 : Hid (∀ g, wc.heap.size ≤ g → Apart g (.slice ao ns.length cp)) := fun g hg => own_apart hown hg
    clear hown hsh
    obtain ⟨n, hn⟩ : ∃ n, Hid (ns.length = n) := ⟨_, rfl⟩
    rw [hn.out] at ho apo0 hnB ⊢
    have hni : Hid ((ns.length : Int) = (n : Int)) := by
      have h : (ns.length : Int) = (n : Int) := by rw [hn.out]
      exact h
    go_wp2_with fail
    refine (new_any 3 _).mono ?_
    rintro e v0 ⟨rfl, n0⟩
    go_wp2_with fail
    refine (new_any 4 _).mono ?_
    rintro e v1 ⟨rfl, n1⟩
    go_wp2_with fail
    refine (new_any 2 _).mono ?_
    rintro e v2 ⟨rfl, n2⟩
    go_wp2_with fail
    refine (new_any 1 _).mono ?_
    rintro e v3 ⟨rfl, n3⟩
    have n01 := keep_call n0 n1 n0.size
    have n012 := keep_call n01 n2 n01.size
    have n0123 := keep_call n012 n3 n012.size
    have t4 := keep_call t1 n0123 t1.size
    have ho4 : Hid (Rd .i64 v3 (.slice ao n cp) ns) := ho.out.call n0123
    have apo : Hid (∀ g, v3.heap.size ≤ g → Apart g (.slice ao n cp)) := fun g hg => apo0.out g (Nat.le_trans n0123.size hg)
    clear n0 n1 n2 n3 n01 n012 n0123 t1 ho apo0
    go_upto_region 3 with fail
    have hs := t4.size
    refine world_gen (fun W => Hid (Agl W v3.heap.size 3 []) ∧ Hid (Agl W (v3.heap.size + 1) 4 []) ∧ Hid (Agl W (v3.heap.size + 1 + 1) 2 []) ∧ Hid (Agl W (v3.heap.size + 1 + 1 + 1) 1 []) ∧ Hid (Rd .i64 W (.slice ao n cp) ns) ∧ Below w.heap.size w W)
      ⟨(((agl_make v3 3 _ rfl).alloc _).alloc _).alloc _, ((agl_make (v3.alloc _) 4 _ (size2 _ _)).alloc _).alloc _, (agl_make ((v3.alloc _).alloc _) 2 _ (size3 _ _ _)).alloc _, agl_make (((v3.alloc _).alloc _).alloc _) 1 _ (size4 _ _ _ _),
        (((ho4.out.alloc _).alloc _).alloc _).alloc _, (((t4.alloc hs _).alloc (by simp; omega) _).alloc (by simp; omega) _).alloc (by simp; omega) _⟩ ?_
    clear t4 ho4
    generalize hg4 : v3.heap.size + 1 + 1 + 1 = g4 at *
    generalize hg3 : v3.heap.size + 1 + 1 = g3 at *
    generalize hg2 : v3.heap.size + 1 = g2 at *
    generalize v3.heap.size = g1 at *
    rintro W ⟨a_0, b_0, s_0, c_0, o_0, hb_0⟩
    have hN : Hid (ns.length ≤ 25) := by
      have h : ns.length ≤ 25 := by rw [hn.out]; exact hnB
      exact h
    go_wp2_with fail
    refine (add_any g1 3 [] ns _ _ a_0.out o_0.out (apo.out _ (by omega)) (by have := hN.out; simp; omega)).mono ?_
    rintro e W1 ⟨rfl, j1, q1⟩
    rw [List.nil_append] at j1
    have a_1 : Hid (Agl W1 g1 3 ns) := j1
    have b_1 : Hid (Agl W1 g2 4 []) := q1.agl b_0.out (by omega)
    have s_1 : Hid (Agl W1 g3 2 []) := q1.agl s_0.out (by omega)
    have c_1 : Hid (Agl W1 g4 1 []) := q1.agl c_0.out (by omega)
    have o_1 : Hid (Rd .i64 W1 (.slice ao n cp) ns) := o_0.out.but q1 (apo.out _ (by omega))
    have hb_1 := keep_but hb_0 q1 (by omega)
    clear a_0 b_0 s_0 c_0 o_0 hb_0 j1 q1
    go_wp2_with fail
    refine (add_any g2 4 [] ns _ _ b_1.out o_1.out (apo.out _ (by omega)) (by have := hN.out; simp; omega)).mono ?_
    rintro e W2 ⟨rfl, j1, q1⟩
    rw [List.nil_append] at j1
    have a_2 : Hid (Agl W2 g1 3 ns) := q1.agl a_1.out (by omega)
    have b_2 : Hid (Agl W2 g2 4 ns) := j1
    have s_2 : Hid (Agl W2 g3 2 []) := q1.agl s_1.out (by omega)
    have c_2 : Hid (Agl W2 g4 1 []) := q1.agl c_1.out (by omega)
    have o_2 : Hid (Rd .i64 W2 (.slice ao n cp) ns) := o_1.out.but q1 (apo.out _ (by omega))
    have hb_2 := keep_but hb_1 q1 (by omega)
    clear a_1 b_1 s_1 c_1 o_1 hb_1 j1 q1
    go_wp2_with fail
    refine (add_any g4 1 [] ns _ _ c_2.out o_2.out (apo.out _ (by omega)) (by have := hN.out; simp; omega)).mono ?_
    rintro e W3 ⟨rfl, j1, q1⟩
    rw [List.nil_append] at j1
    have a_3 : Hid (Agl W3 g1 3 ns) := q1.agl a_2.out (by omega)
    have b_3 : Hid (Agl W3 g2 4 ns) := q1.agl b_2.out (by omega)
    have s_3 : Hid (Agl W3 g3 2 []) := q1.agl s_2.out (by omega)
    have c_3 : Hid (Agl W3 g4 1 ns) := j1
    have o_3 : Hid (Rd .i64 W3 (.slice ao n cp) ns) := o_2.out.but q1 (apo.out _ (by omega))
    have hb_3 := keep_but hb_2 q1 (by omega)
    clear a_2 b_2 s_2 c_2 o_2 hb_2 j1 q1
    obtain ⟨A, hA⟩ : ∃ A, Hid (val 3 ns = A) := ⟨_, rfl⟩
    obtain ⟨B, hB⟩ : ∃ B, Hid (val 4 ns = B) := ⟨_, rfl⟩
    go_wp2_with fail
    go_loopw [8, 9, 37] (fun lo hi i wr => ∃ (j : Nat) (p q : Bool), j ≤ n ∧ i = .int .i64 j ∧ lo = .bool p ∧ hi = .bool q ∧ Hid (p = hit ns A j) ∧ Hid (q = hit ns B j) ∧ Hid (Agl wr g1 3 ns) ∧ Hid (Agl wr g2 4 ns) ∧ Hid (Agl wr g3 2 (opp (ns.take j))) ∧ Hid (Agl wr g4 1 ns) ∧ Hid (Rd .i64 wr (.slice ao n cp) ns) ∧ Below w.heap.size w wr) (fun _ _ i _ => n - (intOf i).toNat)
    case atStart => exact ⟨0, _, _, Nat.zero_le _, rfl, rfl, rfl, (hit_zero ns A n hn.out).symm, (hit_zero ns B n hn.out).symm, a_3, b_3, s_3, c_3, o_3, hb_3⟩
    case round =>
      obtain ⟨j, p, q, hj, rfl, rfl, rfl, hp, hq, a_4, b_4, s_4, c_4, o_4, hb_4⟩ := hrel
      clear a_3 b_3 s_3 c_3 o_3 hb_3
      by_cases hlt : j < n
      · obtain ⟨_, ao', cp', he, _, _, hcc⟩ := o_4.out
        injection he with e1 e2 e3
        subst e1
        obtain ⟨bb, off, rfl, hcell⟩ := hcc (by have := hn.out; omega)
        have g := hcell j (by have := hn.out; omega)
        obtain ⟨x, hx⟩ : ∃ x, Hid (ns.getD j 0 = x) := ⟨_, rfl⟩
        rw [hx.out] at g
        clear hcc hcell e2 e3
        have hstep : Hid (ns.take (j + 1) = ns.take j ++ [x]) := by
          have h : ns.take (j + 1) = ns.take j ++ [x] := by rw [take_snoc' ns 0 j (by have := hn.out; omega), hx.out]
          exact h
        have hmem : Hid (A ≤ x ∧ x ≤ B) := by
          have hm : x ∈ ns := by
            have hjl : j < ns.length := by have := hn.out; omega
            have e : ns.getD j 0 = ns[j] := by simp [List.getD_eq_getElem?_getD, hjl]
            rw [← hx.out, e]
            exact List.getElem_mem hjl
          have h : A ≤ x ∧ x ≤ B := by rw [← hA.out, ← hB.out]; exact ⟨least_le ns x hm, le_most ns x hm⟩
          exact h
        have hp2 : Hid (hit ns A (j + 1) = (p || decide (x = A))) := by
          have h : hit ns A (j + 1) = (p || decide (x = A)) := by rw [hit_step ns A x j (by have := hn.out; omega) hx.out, hp.out]
          exact h
        have hq2 : Hid (hit ns B (j + 1) = (q || decide (x = B))) := by
          have h : hit ns B (j + 1) = (q || decide (x = B)) := by rw [hit_step ns B x j (by have := hn.out; omega) hx.out, hq.out]
          exact h
        have hol : Hid ((opp (ns.take j)).length ≤ 100) := by
          have h : (opp (ns.take j)).length ≤ 100 := by rw [opp_len, List.length_take]; have := hN.out; omega
          exact h
        clear hx hp hq
        go_wp2_with fail
        refine (add_any g3 2 (opp (ns.take j)) [x, wrap64 (-x)] _ _ (s_4.out.alloc _) (rd_lit (k := .i64) (e := 3) wr [x, wrap64 (-x)] (by simp)) (apart_some (Nat.ne_of_gt s_4.out.lt)) (by have := hol.out; simp; omega)).mono ?_
        rintro e w5 ⟨rfl, j1, q1⟩
        rw [← opp_snoc, ← hstep.out] at j1
        have s_5 : Hid (Agl w5 g3 2 (opp (ns.take (j + 1)))) := j1
        have a_5 : Hid (Agl w5 g1 3 ns) := q1.agl (a_4.out.alloc _) (by omega)
        have b_5 : Hid (Agl w5 g2 4 ns) := q1.agl (b_4.out.alloc _) (by omega)
        have c_5 : Hid (Agl w5 g4 1 ns) := q1.agl (c_4.out.alloc _) (by omega)
        have o_5 : Hid (Rd .i64 w5 (.slice (some ⟨bb, off, none⟩) n cp) ns) := (o_4.out.alloc _).but q1 (apo.out _ (by omega))
        have hb_5 := keep_but (hb_4.alloc hb_4.size _) q1 (by omega)
        clear a_4 b_4 s_4 c_4 o_4 hb_4 j1 q1 hol hstep
        have aV : w5.cell? ⟨g1, 2, none⟩ = some (.int .i64 A) := by have h := Agk.c2 a_5.out; rw [hA.out] at h; exact h
        have bV : w5.cell? ⟨g2, 2, none⟩ = some (.int .i64 B) := by have h := Agk.c2 b_5.out; rw [hB.out] at h; exact h
        go_upto_region 11 with fail
        go_cut [8, 9] (fun lo hi wx => ∃ nq, lo = .bool (p || decide (x = A)) ∧ hi = .bool (q || decide (x = B)) ∧ wx = w5.drewN nq)
        case first =>
          have hP : p = true ∨ (p = false ∧ x = A) ∨ (p = false ∧ x ≠ A) := by
            cases p
            · by_cases h : x = A
              · exact .inr (.inl ⟨rfl, h⟩)
              · exact .inr (.inr ⟨rfl, h⟩)
            · exact .inl rfl
          have hQ : q = true ∨ (q = false ∧ x = B) ∨ (q = false ∧ x ≠ B) := by
            cases q
            · by_cases h : x = B
              · exact .inr (.inl ⟨rfl, h⟩)
              · exact .inr (.inr ⟨rfl, h⟩)
            · exact .inl rfl
          clear hp2 hq2 hmem g
          rcases hP with rfl | ⟨rfl, h1⟩ | ⟨rfl, h1⟩
          case' inr.inl => have h1' : (x == A) = true := by simp; exact h1
          case' inr.inr => have h1' : (x == A) = false := by simp; exact h1
          all_goals rcases hQ with rfl | ⟨rfl, h2⟩ | ⟨rfl, h2⟩
          case' inl.inr.inl => have h2' : (x == B) = true := by simp; exact h2
          case' inr.inl.inr.inl => have h2' : (x == B) = true := by simp; exact h2
          case' inr.inr.inr.inl => have h2' : (x == B) = true := by simp; exact h2
          case' inl.inr.inr => have h2' : (x == B) = false := by simp; exact h2
          case' inr.inl.inr.inr => have h2' : (x == B) = false := by simp; exact h2
          case' inr.inr.inr.inr => have h2' : (x == B) = false := by simp; exact h2
          all_goals
            go_wp2_with fail
            go_quiet (fail)
            go_wp2_with fail
            go_meet
            exact ⟨_, congrArg Value.bool (by first | (simp [*]; done) | (simp [*]; rw [Bool.eq_iff_iff]; simp)), congrArg Value.bool (by first | (simp [*]; done) | (simp [*]; rw [Bool.eq_iff_iff]; simp)), rfl⟩
        case rest =>
          obtain ⟨nq, rfl, rfl, he⟩ := hcut
          have hbk : Below w5.heap.size w5 wc := by rw [he]; exact below_drewN (Below.refl _ _) _
          clear he aV bV
          have a_6 : Hid (Agl wc g1 3 ns) := a_5.out.call hbk
          have b_6 : Hid (Agl wc g2 4 ns) := b_5.out.call hbk
          have s_6 : Hid (Agl wc g3 2 (opp (ns.take (j + 1)))) := s_5.out.call hbk
          have c_6 : Hid (Agl wc g4 1 ns) := c_5.out.call hbk
          have o_6 : Hid (Rd .i64 wc (.slice (some ⟨bb, off, none⟩) n cp) ns) := o_5.out.call hbk
          have hb_6 := keep_call hb_5 hbk hb_5.size
          clear a_5 b_5 s_5 c_5 o_5 hb_5 hbk
          have aV : wc.cell? ⟨g1, 2, none⟩ = some (.int .i64 A) := by have h := Agk.c2 a_6.out; rw [hA.out] at h; exact h
          have bV : wc.cell? ⟨g2, 2, none⟩ = some (.int .i64 B) := by have h := Agk.c2 b_6.out; rw [hB.out] at h; exact h
          have h1 : ¬ x < A := by have := hmem.out; omega
          have h2 : ¬ B < x := by have := hmem.out; omega
          rw [← hp2.out, ← hq2.out]
          go_wp2_with fail
          go_roundw
          case rel => exact ⟨j + 1, _, _, by omega, by go_num, rfl, rfl, rfl, rfl, a_6, b_6, s_6, c_6, o_6, hb_6⟩
          case measure => simp [intOf]; omega
      · have hjn : j = n := by omega
        have hp1 : p = true := by
          rw [hp.out]
          exact hit_end ns A j (by have := hn.out; omega) fun h => by rw [← hA.out]; exact least_mem ns h
        have hq1 : q = true := by
          rw [hq.out]
          exact hit_end ns B j (by have := hn.out; omega) fun h => by rw [← hB.out]; exact most_mem ns h
        subst hp1 hq1
        have hall : ns.take j = ns := List.take_of_length_le (by have := hn.out; omega)
        rw [hall] at s_4
        clear hall hp hq
        obtain ⟨s0, -, s2⟩ := s_4.out.cells (n := 2 * (n : Int)) (V := 0) (by rw [opp_len, hn.out]; omega) (opp_val ns)
        obtain ⟨c0, -, c2⟩ := c_4.out.cells (n := (n : Int)) (V := (n : Int)) hni.out (by rw [val1, hni.out, wrap_in _ (by omega)])
        have aV : wr.cell? ⟨g1, 2, none⟩ = some (.int .i64 A) := by have h := Agk.c2 a_4.out; rw [hA.out] at h; exact h
        have bV : wr.cell? ⟨g2, 2, none⟩ = some (.int .i64 B) := by have h := Agk.c2 b_4.out; rw [hB.out] at h; exact h
        have hz : n = 0 → A = 0 ∧ B = 0 := by
          intro h0
          have e := hn.out
          rw [h0] at e
          obtain rfl := List.eq_nil_of_length_eq_zero e
          rw [← hA.out, ← hB.out, val_nil, val_nil]
          exact ⟨rfl, rfl⟩
        clear a_4 b_4 s_4 c_4 o_4
        by_cases h0 : n = 0
        · obtain ⟨rfl, rfl⟩ := hz h0
          clear hz
          subst h0
          go_wp2_with fail
          refine (runs_any _).mono ?_
          rintro e w7 ⟨rfl, b7⟩
          go_wp2_with fail
          go_ret
          exact ⟨rfl, keep_call hb_4 b7 hb_4.size⟩
        · clear hz
          have hpos : (0 : Int) < n := by omega
          go_wp2_with fail
          refine (runs_any _).mono ?_
          rintro e w7 ⟨rfl, b7⟩
          go_wp2_with fail
          go_ret
          exact ⟨rfl, keep_call hb_4 b7 hb_4.size⟩
theorem aggEnds_walk (a0 : Option Addr) (len0 cap0 : Nat) (z0 : List Int) (w : World) (row0 : IsInts w a0 len0 cap0 z0) :
    Calls Try.prog 7 #[.slice a0 len0 cap0] w fun e w' => e = .returned (.bool true) ∧ Below w.heap.size w w' := ends_core a0 len0 cap0 z0 w row0
end Go.Proofs.Ytbopojolmmnokaa
