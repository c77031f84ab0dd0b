/- What the small functions of package event and of cmp compute, each for every argument. -/
import Derived.Test.YtakemkfnaebmiaaRows
import Derived.Test.YtakemkfnaebmiaaMath
import Derived.WalkKit
import Derived.WalkSpells
import Derived.WalkLawsBesides
import Derived.Laws.BitsAll
import Derived.Laws.Bits128
namespace Go.Proofs.Ytakemkfnaebmiaa
open Go.RowKit M

theorem ret_int {k : IntKind} {a b : Int} (h : a = b) : Ending.returned (.int k a) = .returned (.int k b) := by rw [h]
theorem ret_bool {a b : Bool} (h : a = b) : Ending.returned (.bool a) = .returned (.bool b) := by rw [h]
theorem val_int {k : IntKind} {a b : Int} (h : a = b) : Value.int k a = .int k b := by rw [h]

theorem below_alloc (w : World) (o : Obj) : Below w.heap.size w (w.alloc o) := (Below.refl _ _).alloc (Nat.le_refl _) o
/-- event.within. -/
theorem within_any (n m : Int) (w : World) (p : Bool) (hp : decide (0 ≤ n ∧ n ≤ m) = p) :
    Calls Try.prog 14 #[.int .i64 n, .int .i64 m] w fun e w' => e = .returned (.bool p) ∧ w' = w := by
  have hq : Hid (decide (0 ≤ n ∧ n ≤ m) = p) := hp
  clear hp
  by_cases h0 : 0 ≤ n
  · by_cases h1 : n ≤ m
    · have hd : Hid (p = true) := hq.out.symm.trans (decide_eq_true ⟨h0, h1⟩)
      go_enter Try.func14, Try.ntmps14
      go_wp2
      go_ret
      exact ⟨ret_bool hd.out.symm, rfl⟩
    · have hd : Hid (p = false) := hq.out.symm.trans (decide_eq_false fun h => h1 h.2)
      go_enter Try.func14, Try.ntmps14
      go_wp2
      go_ret
      exact ⟨ret_bool hd.out.symm, rfl⟩
  · have hd : Hid (p = false) := hq.out.symm.trans (decide_eq_false fun h => h0 h.1)
    go_enter Try.func14, Try.ntmps14
    go_wp2
    go_ret
    exact ⟨ret_bool hd.out.symm, rfl⟩
/-- cmp.isNaN[int]. -/
theorem nan_i (n : Int) (w : World) : Calls Try.prog 15 #[.int .i64 n] w fun e w' => e = .returned (.bool false) ∧ w' = w := by
  go_enter Try.func15, Try.ntmps15
  go_wp2
  go_ret
  exact ⟨rfl, rfl⟩
/-- cmp.isNaN[uint64]. -/
theorem nan_u (n : Int) (w : World) : Calls Try.prog 16 #[.int .u64 n] w fun e w' => e = .returned (.bool false) ∧ w' = w := by
  go_enter Try.func16, Try.ntmps16
  go_wp2
  go_ret
  exact ⟨rfl, rfl⟩
/-- cmp.Compare[int]. -/
theorem cmp_i (a b : Int) (w : World) : Calls Try.prog 12 #[.int .i64 a, .int .i64 b] w fun e w' => e = .returned (.int .i64 (cmpI a b)) ∧ w' = w := by
  have hc : Hid _ := cmpI_cases a b
  by_cases h1 : a < b
  · have hd : Hid (cmpI a b = -1) := by rcases hc.out with h | h | h; exact h.2; all_goals (exfalso; omega)
    go_enter Try.func12, Try.ntmps12
    go_wp2_with (go_at_call 15; refine (nan_i _ _).mono ?_; rintro e w' ⟨rfl, rfl⟩)
    go_ret
    exact ⟨ret_int hd.out.symm, rfl⟩
  · by_cases h2 : b < a
    · have hd : Hid (cmpI a b = 1) := by rcases hc.out with h | h | h; (exfalso; omega); exact h.2; (exfalso; omega)
      go_enter Try.func12, Try.ntmps12
      go_wp2_with (go_at_call 15; refine (nan_i _ _).mono ?_; rintro e w' ⟨rfl, rfl⟩)
      go_ret
      exact ⟨ret_int hd.out.symm, rfl⟩
    · have hd : Hid (cmpI a b = 0) := by rcases hc.out with h | h | h; (exfalso; omega); (exfalso; omega); exact h.2
      go_enter Try.func12, Try.ntmps12
      go_wp2_with (go_at_call 15; refine (nan_i _ _).mono ?_; rintro e w' ⟨rfl, rfl⟩)
      go_ret
      exact ⟨ret_int hd.out.symm, rfl⟩
/-- cmp.Compare[uint64]. -/
theorem cmp_u (a b : Int) (w : World) : Calls Try.prog 13 #[.int .u64 a, .int .u64 b] w fun e w' => e = .returned (.int .i64 (cmpI a b)) ∧ w' = w := by
  have hc : Hid _ := cmpI_cases a b
  by_cases h1 : a < b
  · have hd : Hid (cmpI a b = -1) := by rcases hc.out with h | h | h; exact h.2; all_goals (exfalso; omega)
    go_enter Try.func13, Try.ntmps13
    go_wp2_with (go_at_call 16; refine (nan_u _ _).mono ?_; rintro e w' ⟨rfl, rfl⟩)
    go_ret
    exact ⟨ret_int hd.out.symm, rfl⟩
  · by_cases h2 : b < a
    · have hd : Hid (cmpI a b = 1) := by rcases hc.out with h | h | h; (exfalso; omega); exact h.2; (exfalso; omega)
      go_enter Try.func13, Try.ntmps13
      go_wp2_with (go_at_call 16; refine (nan_u _ _).mono ?_; rintro e w' ⟨rfl, rfl⟩)
      go_ret
      exact ⟨ret_int hd.out.symm, rfl⟩
    · have hd : Hid (cmpI a b = 0) := by rcases hc.out with h | h | h; (exfalso; omega); (exfalso; omega); exact h.2
      go_enter Try.func13, Try.ntmps13
      go_wp2_with (go_at_call 16; refine (nan_u _ _).mono ?_; rintro e w' ⟨rfl, rfl⟩)
      go_ret
      exact ⟨ret_int hd.out.symm, rfl⟩

theorem orL_drop (zs : List Int) (k : Nat) (h : k < zs.length) (h0 : zs.getD k 0 = 0) : orL (zs.drop k) = orL (zs.drop (k + 1)) := by
  rw [List.drop_eq_getElem_cons h]
  have : zs[k] = 0 := by simpa [List.getD_eq_getElem?_getD, h] using h0
  simp [orL, this]
theorem orL_here (zs : List Int) (k : Nat) (h : k < zs.length) (h0 : zs.getD k 0 ≠ 0) : orL (zs.drop k) = zs.getD k 0 := by
  rw [List.drop_eq_getElem_cons h]
  have e : zs.getD k 0 = zs[k] := by simp [List.getD_eq_getElem?_getD, h]
  rw [e] at h0 ⊢
  simp [orL, h0]

set_option maxHeartbeats 400000 in
/-- cmp.Or[int], of any list of ints that lies in a row of cells. -/
theorem or_any (zs : List Int) (b off cap : Nat) (w : World) (hl : zs.length ≤ 1000000) (hc : ∀ j, j < zs.length → w.cell? ⟨b, off + j, none⟩ = some (.int .i64 (zs.getD j 0))) :
    Calls Try.prog 11 #[.slice (some ⟨b, off, none⟩) zs.length cap] w fun e w' => e = .returned (.int .i64 (orL zs)) ∧ w' = w := by
  obtain ⟨n, hn⟩ : ∃ n, n = zs.length := ⟨_, rfl⟩
  have hn' : Hid (n = zs.length) := hn
  have hc' : Hid (∀ j, j < zs.length → w.cell? ⟨b, off + j, none⟩ = some (.int .i64 (zs.getD j 0))) := hc
  rw [← hn] at hl ⊢
  clear hc hn
  go_enter Try.func11, Try.ntmps11
  go_wp2
  go_loop [8] (fun i => ∃ k : Nat, k ≤ n ∧ i = .int .i64 k ∧ Hid (orL zs = orL (zs.drop k))) (fun i => n - (intOf i).toNat)
  case atStart => exact ⟨0, Nat.zero_le _, rfl, rfl⟩
  case round =>
    obtain ⟨k, hk, rfl, hr⟩ := hrel
    by_cases hlt : k < n
    · have hx := hc'.out k (by have := hn'.out; omega)
      have h1 : Hid (zs.getD k 0 = 0 → orL (zs.drop k) = orL (zs.drop (k + 1))) := orL_drop zs k (by have := hn'.out; omega)
      have h2 : Hid (zs.getD k 0 ≠ 0 → orL (zs.drop k) = zs.getD k 0) := orL_here zs k (by have := hn'.out; omega)
      obtain ⟨x, hxx⟩ : ∃ x, Hid (zs.getD k 0 = x) := ⟨_, rfl⟩
      rw [hxx.out] at hx h1 h2
      by_cases h0 : x = 0
      · subst h0
        go_wp2
        go_round
        case rel => exact ⟨k + 1, by omega, by go_num, by have := h1.out rfl; rw [← this]; exact hr⟩
        case measure => simp [intOf]; omega
      · go_wp2
        go_ret
        exact ⟨ret_int (by rw [hr.out, h2.out h0]), rfl⟩
    · go_wp2
      go_ret
      refine ⟨ret_int ?_, rfl⟩
      rw [hr.out, List.drop_of_length_le (by have := hn'.out; omega)]
      rfl

/-- An event as a value. -/
abbrev ev (a : Ev) : Value := .agg #[.int .i64 a.t, .int .i64 a.k, .int .i64 a.v, .int .u64 a.l]
def rightB (a : Ev) : Bool := decide ((0 ≤ a.t ∧ a.t ≤ 1099511627776) ∧ (0 ≤ a.k ∧ a.k ≤ 255) ∧ a.l ≠ 0)

set_option maxHeartbeats 400000 in
/-- event.Right. -/
theorem right_any (a : Ev) (w : World) (p : Bool) (hp : rightB a = p) :
    Calls Try.prog 10 #[ev a] w fun e w' => e = .returned (.bool p) ∧ Below w.heap.size w w' := by
  have hq : Hid (rightB a = p) := hp
  clear hp
  obtain ⟨t, k, v, l⟩ := a
  simp only [ev]
  by_cases h0 : 0 ≤ t ∧ t ≤ 1099511627776
  · by_cases h1 : 0 ≤ k ∧ k ≤ 255
    · by_cases h2 : l = 0
      · have hd : Hid (p = false) := hq.out.symm.trans (decide_eq_false fun h => h.2.2 h2)
        subst h2
        go_enter Try.func10, Try.ntmps10
        go_wp2_with fail
        refine (within_any t _ _ true (decide_eq_true h0)).mono ?_
        rintro e w' ⟨rfl, he⟩; subst he
        go_wp2_with fail
        refine (within_any k _ _ true (decide_eq_true h1)).mono ?_
        rintro e w' ⟨rfl, he⟩; subst he
        go_wp2
        go_ret
        exact ⟨ret_bool hd.out.symm, below_alloc _ _⟩
      · have hd : Hid (p = true) := hq.out.symm.trans (decide_eq_true ⟨h0, h1, h2⟩)
        go_enter Try.func10, Try.ntmps10
        go_wp2_with fail
        refine (within_any t _ _ true (decide_eq_true h0)).mono ?_
        rintro e w' ⟨rfl, he⟩; subst he
        go_wp2_with fail
        refine (within_any k _ _ true (decide_eq_true h1)).mono ?_
        rintro e w' ⟨rfl, he⟩; subst he
        have h3 : ((l : Int) != 0) = true := by simp; exact h2
        go_wp2
        go_ret
        exact ⟨ret_bool hd.out.symm, below_alloc _ _⟩
    · have hd : Hid (p = false) := hq.out.symm.trans (decide_eq_false fun h => h1 h.2.1)
      go_enter Try.func10, Try.ntmps10
      go_wp2_with fail
      refine (within_any t _ _ true (decide_eq_true h0)).mono ?_
      rintro e w' ⟨rfl, he⟩; subst he
      go_wp2_with fail
      refine (within_any k _ _ false (decide_eq_false h1)).mono ?_
      rintro e w' ⟨rfl, he⟩; subst he
      go_wp2
      go_ret
      exact ⟨ret_bool hd.out.symm, below_alloc _ _⟩
  · have hd : Hid (p = false) := hq.out.symm.trans (decide_eq_false fun h => h0 h.1)
    go_enter Try.func10, Try.ntmps10
    go_wp2_with fail
    refine (within_any t _ _ false (decide_eq_false h0)).mono ?_
    rintro e w' ⟨rfl, he⟩; subst he
    go_wp2
    go_ret
    exact ⟨ret_bool hd.out.symm, below_alloc _ _⟩

end Go.Proofs.Ytakemkfnaebmiaa
