/- WindowTells, walked: of any numbers it returns true, and nothing that was there is written. -/
import Derived.Test.YtfhfbiodpjpfjaaRuns
import Derived.Test.YtfhfbiodpjpfjaaRef
import Derived.Test.YtfhfbiodpjpfjaaFrame
import Derived.Deep.Cut
import Derived.Deep.CutBlock
import Derived.Deep.DeepCutAuto
namespace Go.Proofs.Ytfhfbiodpjpfjaa
open Go.RowKit M
set_option linter.unusedVariables false

theorem last_bd (n : Int) (l : List Int) (h0 : 0 ≤ n) (h1 : n ≤ 1048576) (h : ∀ m ∈ l, 0 ≤ m ∧ m ≤ 1099511627776) : 0 ≤ last n l ∧ last n l ≤ 1099512676352 := by
  by_cases hl : l = []
  · subst hl; rw [last_nil]; omega
  · rw [last_of n l hl]
    have := h _ (mx_mem l hl)
    omega
theorem src_one (w : World) (x : Int) : Src (w.alloc (.cells #[.int .i64 x] 3)) (.slice (some ⟨w.heap.size, 0, none⟩) 1 1) 1 (iv [x]) := by
  have h := World.ownsRow_lit (base := w.heap.size) (e := 3) (size := 1) w #[.int .i64 x] 1 (Nat.le_refl _) (by unfold maxLen; omega) (by simp)
  exact src_own h
set_option maxHeartbeats 1000000 in
set_option maxRecDepth 100000 in
theorem tells_core (t n s : Int) (a0 : Option Addr) (len0 cap0 : Nat) (z0 : List Int) (w : World) (row0 : IsInts w a0 len0 cap0 z0) :
    Calls Try.prog 4 #[.int .i64 t, .int .i64 n, .int .i64 s, .slice a0 len0 cap0] w fun e w' => e = .returned (.bool true) ∧ Below w.heap.size w w' := by
  obtain ⟨i0, hi, hz0, hz1, hz2⟩ := info_parts Try.info3
  obtain ⟨hlen0, hcap0, hlc0, hr0'⟩ := ints_at row0
  have hr0 : Hid (∀ k, k < len0 → ∃ b off n, a0 = some ⟨b, off, none⟩ ∧ b < w.heap.size ∧ w.cell? ⟨b, off + k, none⟩ = some (.int .i64 n) ∧ (Lit.int .i64 n).wf = true) := hr0'
  clear row0 hr0'
  go_enter Try.func4, Try.ntmps4
  obtain ⟨p, hp⟩ : ∃ p, Hid (rightB n s = p) := ⟨_, rfl⟩
  go_wp2_with fail
  refine (rright_is n s p _ hp.out).mono ?_
  rintro e w' ⟨rfl, he⟩; obtain rfl := he.symm; clear he
  go_upto_if 16 with fail
  go_cut [9] (fun v wx => v = .int .i64 (panes n s) ∧ wx = w)
  case first =>
    cases p with
    | true =>
      have hb := right_of hp.out
      have hq : Hid ((n + s - 1) / s = panes n s) := (panes_of hp.out).symm
      go_wp2_with fail
      go_meet
      exact ⟨val_int hq.out, rfl⟩
    | false =>
      have hq : Hid (0 = panes n s) := (panes_no hp.out).symm
      go_wp2_with fail
      go_meet
      exact ⟨val_int hq.out, rfl⟩
  case rest =>
    obtain ⟨rfl, he⟩ := hcut
    obtain rfl := he.symm
    clear he
    obtain ⟨P, hP⟩ : ∃ P, Hid (panes n s = P) := ⟨_, rfl⟩
    rw [hP.out]
    go_wp2_with fail
    refine (within_any n 1 1048576 _ (by decide) (by decide) (by decide)).mono ?_
    rintro e w' ⟨⟨N, hN0, hN1, rfl⟩, he⟩; obtain rfl := he.symm; clear he
    go_upto_block 0 with fail
    go_cut [10, 12] (fun lv ov wx => ∃ (ms : List Int) (ao : Option Addr) (cp : Nat), ms.length ≤ 10 ∧ ov = .slice ao ms.length cp ∧ lv = .int .i64 (last N ms) ∧ Hid (∀ m ∈ ms, 0 ≤ m ∧ m ≤ 1099511627776) ∧ Hid (wx.ownsRow w.heap.size 3 1 (.slice ao ms.length cp) ms.length (iv ms)) ∧ Below w.heap.size w wx)
    case first =>
      go_wp2_with fail
      go_loopw [10, 12, 13] (fun lv ov iv0 wr => ∃ (ms : List Int) (ao : Option Addr) (cp : Nat), ms.length ≤ len0 ∧ ms.length ≤ 10 ∧ ov = .slice ao ms.length cp ∧ lv = .int .i64 (last N ms) ∧ iv0 = .int .i64 ms.length ∧ Hid (∀ m ∈ ms, 0 ≤ m ∧ m ≤ 1099511627776) ∧ Hid (wr.ownsRow w.heap.size 3 1 (.slice ao ms.length cp) ms.length (iv ms)) ∧ Below w.heap.size w wr) (fun _ _ i _ => len0 - (intOf i).toNat)
      case atStart => exact ⟨[], none, 0, Nat.zero_le _, Nat.zero_le _, rfl, rfl, rfl, by unfold Hid; simp, ⟨rfl, .inl ⟨rfl, rfl⟩⟩, Below.refl _ _⟩
      case round =>
        obtain ⟨ms, ao, cp, hk, hk10, rfl, rfl, rfl, hge, hown, hbw⟩ := hrel
        have hLb := last_bd N ms (by omega) hN1 hge.out
        obtain ⟨k, hkk⟩ : ∃ k, Hid (ms.length = k) := ⟨_, rfl⟩
        obtain ⟨L, hL⟩ : ∃ L, Hid (last N ms = L) := ⟨_, rfl⟩
        rw [hkk.out] at hk hk10 hown ⊢
        rw [hL.out] at hLb ⊢
        have hways : (k < len0 ∧ k < 10) ∨ (¬ k < len0 ∨ k < len0 ∧ ¬ k < 10) := by omega
        rcases hways with ⟨hlt, hlt2⟩ | hstop
        · obtain ⟨b, off, z, rfl, hb, c0, -⟩ := hr0.out k hlt
          rw [← hbw.cell (p := ⟨b, off + k, none⟩) hb] at c0
          clear hr0
          go_wp2_with fail
          refine (within_any z 0 1099511627776 _ (by decide) (by decide) (by decide)).mono ?_
          rintro e w' ⟨⟨x, hx0, hx1, rfl⟩, he⟩; obtain rfl := he.symm; clear he
          have hl2 : Hid ((ms ++ [x]).length = k + 1) := by
            have h : (ms ++ [x]).length = k + 1 := by rw [List.length_append, hkk.out]; rfl
            exact h
          have hge2 : Hid (∀ m ∈ ms ++ [x], 0 ≤ m ∧ m ≤ 1099511627776) := by
            intro m hm
            rcases List.mem_append.1 hm with hm | hm
            · exact hge.out m hm
            · rw [List.mem_singleton.1 hm]; exact ⟨hx0, hx1⟩
          have hv : Hid (last N (ms ++ [x]) = max L (x + N)) := by
            have h : last N (ms ++ [x]) = max L (x + N) := by rw [last_snoc N ms x (by omega) hx0, hL.out]
            exact h
          have hsz := hbw.size
          go_wp2_with (at_builtin; refine wpList_append_src _ (by rfl) _ _ 23 rfl w.heap.size 3 i0 (.int .i64 0) 8 Try.underlying23 hi hz0 hz1 hz2 rfl _ k (iv ms) rfl (hown.out.alloc _) _ 1 (iv [x]) rfl (src_one _ _) (iv_one _) (by unfold maxLen; omega) (by omega) (by simp; omega) ?_)
          intro v' W3 hown' hb'
          have hb4 : Below w.heap.size w W3 := (hbw.alloc hbw.size _).trans hb'
          have hown4 : Hid (W3.ownsRow w.heap.size 3 1 v' (k + 1) (iv (ms ++ [x]))) := by
            have h : W3.ownsRow w.heap.size 3 1 v' (k + 1) (iv (ms ++ [x])) := by rw [iv_append]; exact hown'
            exact h
          clear hown' hb' hown hbw c0
          obtain ⟨g, cp', rfl, hg1, hg2, -, -⟩ := own_some hown4.out (by omega)
          unfold maxLen at hg2
          have c1 := hown4.out.cellAt k (by omega)
          have e1 : (iv (ms ++ [x]))[k]? = some (.int .i64 x) := by simp [iv, ← hkk.out]
          rw [e1] at c1
          clear e1
          go_wp2_with fail
          go_roundw
          case rel => exact ⟨ms ++ [x], _, cp', by rw [hl2.out]; omega, by rw [hl2.out]; omega, by rw [hl2.out], val_int (by rw [hv.out]; split <;> omega), by rw [hl2.out]; go_num, hge2, by rw [hl2.out]; exact hown4.out, hb4⟩
          case measure => simp [intOf]; omega
        · rcases hstop with h | ⟨h, h2⟩
          all_goals
            go_wp2_with fail
            go_meet
            exact ⟨ms, ao, cp, by rw [hkk.out]; exact hk10, by rw [hkk.out], val_int hL.out.symm, hge, by rw [hkk.out]; exact hown.out, hbw⟩
    case rest =>
      obtain ⟨ms, ao, cp, hm10, rfl, rfl, hge, hown, hbw⟩ := hcut
      have r0 : Hid (Rd .i64 wc (.slice ao ms.length cp) ms) := rd_iv hown.out
      obtain ⟨L, hL⟩ : ∃ L, Hid (last N ms = L) := ⟨_, rfl⟩
      obtain ⟨k, hkk⟩ : ∃ k, Hid (ms.length = k) := ⟨_, rfl⟩
      rw [hkk.out] at r0 hm10 ⊢
      rw [hL.out]
      clear hown hr0
      go_wp2_with fail
      refine (right_is n s p _ hp.out).mono ?_
      rintro e w' ⟨rfl, he⟩; obtain rfl := he.symm; clear he
      go_wp2_with fail
      refine (rright_is n s p _ hp.out).mono ?_
      rintro e w' ⟨rfl, he⟩; obtain rfl := he.symm; clear he
      go_wp2_with fail
      refine (starts_any t n s _).mono ?_
      rintro e w1 ⟨u1, rfl, q1, b1⟩
      have t1 := hbw.trans (b1.mono hbw.size)
      have r1 : Hid (Rd .i64 w1 (.slice ao k cp) ms) := r0.out.below b1 (Nat.le_refl _)
      have q1' : Hid (Rd .i64 w1 u1 (starts t n s)) := q1
      clear b1 r0 hbw q1
      go_wp2_with fail
      refine (rstarts_any t n s _).mono ?_
      rintro e w2 ⟨u2, rfl, q2, b2⟩
      have t2 := t1.trans (b2.mono t1.size)
      have r2 : Hid (Rd .i64 w2 (.slice ao k cp) ms) := r1.out.below b2 (Nat.le_refl _)
      have q3 : Hid (Rd .i64 w2 u1 (starts t n s)) := q1'.out.below b2 (Nat.le_refl _)
      have q4 : Hid (Rd .i64 w2 u2 (starts t n s)) := q2
      clear b2 t1 r1 q2 q1'
      go_wp2_with fail
      refine (same_i _ _ _ _ _ true q3.out q4.out (decide_eq_true rfl)).mono ?_
      rintro e w3 ⟨rfl, b3⟩
      have t3 := t2.trans (b3.mono t2.size)
      have r3 : Hid (Rd .i64 w3 (.slice ao k cp) ms) := r2.out.below b3 (Nat.le_refl _)
      clear b3 t2 r2 q3 q4
      go_wp2_with fail
      refine (panes_is n s P _ hP.out).mono ?_
      rintro e w' ⟨rfl, he⟩; obtain rfl := he.symm; clear he
      go_wp2_with fail
      refine (last_is N _ ms L _ r3.out (by omega) (fun z hz => by have := hge.out z hz; omega) hL.out).mono ?_
      rintro e w' ⟨rfl, he⟩; obtain rfl := he.symm; clear he
      go_wp2_with fail
      refine (runs_any _).mono ?_
      rintro e w4 ⟨rfl, b4⟩
      have t4 := t3.trans (b4.mono t3.size)
      go_wp2_with fail
      go_ret
      exact ⟨rfl, t4⟩
theorem windowTells_walk (t n s : Int) (a0 : Option Addr) (len0 cap0 : Nat) (z0 : List Int) (w : World) (_ : (Lit.int .i64 t).wf = true) (_ : (Lit.int .i64 n).wf = true) (_ : (Lit.int .i64 s).wf = true) (row0 : IsInts w a0 len0 cap0 z0) :
    Calls Try.prog 4 #[.int .i64 t, .int .i64 n, .int .i64 s, .slice a0 len0 cap0] w fun e w' => e = .returned (.bool true) ∧ Below w.heap.size w w' := tells_core t n s a0 len0 cap0 z0 w row0
end Go.Proofs.Ytfhfbiodpjpfjaa
