/- slot.Plan; SlotRuns. -/
import Derived.Test.YtokcanmhhabecaaTurns
import Derived.Deep.Cut
import Derived.Deep.DeepCutAuto
namespace Go.Proofs.Ytokcanmhhabecaa
open Go.RowKit M
set_option linter.unusedVariables false

/-- slot.Plan of a tick below nought. -/
theorem plan_no (b t : Int) (v : Value) (w : World) (h : t < 0) : Calls Try.prog 9 #[.int .i64 b, .int .i64 t, v] w fun e w' => e = .returned (.slice none 0 0) ∧ w' = w := by
  go_enter Try.func9, Try.ntmps9
  go_wp2_with fail
  refine (order_no t _ h).mono ?_
  rintro e w' ⟨rfl, he⟩; obtain rfl := he.symm; clear he
  go_wp2_with fail
  go_loop [13] (fun i => i = .int .i64 0) (fun _ => 0)
  case atStart => exact rfl
  case round =>
    obtain rfl := hrel
    go_wp2
    go_ret
    exact ⟨rfl, rfl⟩
set_option maxHeartbeats 1000000 in
set_option maxRecDepth 100000 in
/-- slot.Plan. -/
theorem plan_is (b t : Int) (v : Value) (zs : List Int) (w : World) (h : Rd .i64 w v zs) (h0 : 0 ≤ t) (h1 : t ≤ 9223372036854775807) :
    Calls Try.prog 9 #[.int .i64 b, .int .i64 t, v] w fun e w' => ∃ bb, e = .returned (.slice (some ⟨bb, 0, none⟩) 8 8) ∧ w.heap.size ≤ bb ∧ Tb w' bb (tn (t % 8)) (fun i => sv b (tn (t % 8) i) zs) ∧ Below w.heap.size w w' := by
  have hr : Hid (Rd .i64 w v zs) := h
  clear h
  obtain ⟨f, hf⟩ : ∃ f, Hid (t % 8 = f) := ⟨_, rfl⟩
  rw [hf.out]
  go_enter Try.func9, Try.ntmps9
  go_wp2_with fail
  refine (order_is t _ h0 h1).mono ?_
  rintro e w1 ⟨bb, rfl, hb, t1, b1⟩
  rw [hf.out] at t1
  go_wp2_with fail
  go_loopw [8, 13] (fun i j wr => ∃ k : Nat, k ≤ 8 ∧ j = .int .i64 (k : Int) ∧ Tb wr bb (tn f) (fun i => if i < k then sv b (tn f i) zs else 0) ∧ Below w.heap.size w wr) (fun _ j _ => 8 - (intOf j).toNat)
  case atStart => exact ⟨0, by omega, rfl, t1.congr (fun i hi => ⟨rfl, by simp⟩), b1⟩
  case round =>
    obtain ⟨k, hk, rfl, tk, bk⟩ := hrel
    clear t1 b1
    by_cases hlt : k < 8
    · have c0 := tk.at0 k hlt
      have c1 := tk.free (k * 2 + 1)
      have hrk : Hid (Rd .i64 wr v zs) := hr.out.below bk (Nat.le_refl _)
      obtain ⟨p, hp⟩ : ∃ p, Hid (sv b (tn f k) zs = p) := ⟨_, rfl⟩
      obtain ⟨T, hT⟩ : ∃ T, Hid (tn f k = T) := ⟨_, rfl⟩
      have hT0 : 0 ≤ T := by have := hT.out; have := (tn_bd f k).1; omega
      rw [hT.out] at c0 hp
      have cc1 := tk.at1 k hlt
      have hs : Hid (Tb (wr.setCell ⟨bb, k * 2 + 1, none⟩ (.int .i64 p)) bb (tn f) (fun i => if i < k + 1 then sv b (tn f i) zs else 0) ∧ Below w.heap.size w (wr.setCell ⟨bb, k * 2 + 1, none⟩ (.int .i64 p))) := by
        refine ⟨(tk.set1 p k hlt).congr (fun i hi => ⟨rfl, ?_⟩), bk.setCell hb _⟩
        by_cases e : i = k
        · subst e; simp only [if_true]; rw [if_pos (by omega), hT.out, hp.out]
        · simp only [if_neg e]
          by_cases e2 : i < k
          · rw [if_pos e2, if_pos (by omega)]
          · rw [if_neg e2, if_neg (by omega)]
      clear tk
      go_wp2_with fail
      refine (served_is b T p v zs _ hrk.out hT0 hp.out).mono ?_
      rintro e w' ⟨rfl, he⟩; obtain rfl := he.symm; clear he
      go_wp2_with fail
      go_roundw
      case rel => exact ⟨k + 1, by omega, by go_num, hs.out.1, hs.out.2⟩
      case measure => simp [intOf]; omega
    · have : k = 8 := by omega
      subst this
      go_wp2
      go_ret
      exact ⟨_, rfl, hb, tk.congr (fun i hi => ⟨rfl, by simp only [if_pos hi]⟩), bk⟩

set_option maxHeartbeats 1000000 in
set_option maxRecDepth 100000 in
/-- SlotRuns. -/
theorem runs_any (w : World) : Calls Try.prog 3 #[] w fun e w' => e = .returned (.bool true) ∧ Below w.heap.size w w' := by
  go_enter Try.func3, Try.ntmps3
  go_wp2_with fail
  refine (order_is 9 _ (by omega) (by omega)).mono ?_
  rintro e w1 ⟨b1, rfl, hb1, t1, l1⟩
  go_wp2_with fail
  refine (plan_is 3 0 _ [5, 0, 2] _ (rd_lit (e := 3) _ [5, 0, 2] (by decide)) (by omega) (by omega)).mono ?_
  rintro e w2 ⟨b2, rfl, hb2, t2, l2⟩
  have l12 : Hid (Below w.heap.size w w2) := keep_call (l1.alloc l1.size _) l2 (by have := l1.size; simp; omega)
  have hne := l1.size
  have s1 := (t1.below (below_alloc w1 _) t1.lt).call l2
  clear l1 l2
  have c0 := s1.at0 0 (by omega)
  have c7 := s1.at0 7 (by omega)
  have d00 := t2.at0 0 (by omega)
  have d01 := t2.at1 0 (by omega)
  have d11 := t2.at1 1 (by omega)
  have d21 := t2.at1 2 (by omega)
  simp [tn, sv] at c0 c7 d00 d01 d11 d21
  clear s1 t1 t2 hb1 hb2 hne
  go_wp2_with fail
  refine (ticks_is 7 3 3 _ (by omega) (by omega) (by omega) (by omega) (by decide)).mono ?_
  rintro e w' ⟨rfl, he⟩; obtain rfl := he.symm; clear he
  go_wp2_with fail
  go_ret
  exact ⟨rfl, l12.out⟩
theorem slotRuns_walk (w : World) : Calls Try.prog 3 #[] w fun e w' => e = .returned (.bool true) ∧ Below w.heap.size w w' := runs_any w
end Go.Proofs.Ytokcanmhhabecaa
