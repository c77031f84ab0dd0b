/- What the small functions of package oper compute, each for every argument; cordonbook.Within. -/
import Derived.WalkKit
import Derived.WalkSpells
import Derived.WalkLawsBesides
import Derived.Below
import Derived.Test.YtnamjnopicghhaaOMath
import Derived.Test.YtnamjnopicghhaaBase
namespace Go.Proofs.Ytnamjnopicghhaa.O
open Go.RowKit MO

theorem ret_int {k : IntKind} {a b : Int} (h : a = b) : Ending.returned (.int k a) = .returned (.int k b) := by rw [h]
theorem ret_bool {a b : Bool} (h : a = b) : Ending.returned (.bool a) = .returned (.bool b) := by rw [h]
theorem val_int {k : IntKind} {a b : Int} (h : a = b) : Value.int k a = .int k b := by rw [h]
theorem below_alloc (w : World) (o : Obj) : Below w.heap.size w (w.alloc o) := (Below.refl _ _).alloc (Nat.le_refl _) o

/-- An event, an operation as values; an event and a bool. -/
abbrev evv (t k v l : Int) : Value := .agg #[.int .i64 t, .int .i64 k, .int .i64 v, .int .u64 l]
abbrev ev (a : Ev) : Value := evv a.t a.k a.v a.l
abbrev opv (k n : Int) : Value := .agg #[.int .i64 k, .int .i64 n]
abbrev op (o : Oq) : Value := opv o.k o.n
abbrev evp (x : Ev × Bool) : Value := .tuple #[ev x.1, .bool x.2]

theorem passed_yes (t k v l : Int) (w : World) :
    Calls Try.prog 87 #[evv t k v l, .bool true] w fun e w' => e = .returned (.tuple #[evv t k v l, .bool true]) ∧ Below w.heap.size w w' := by
  go_enter Try.func87, Try.ntmps87
  go_wp2
  exact bodyPost_ret (v := .tuple #[evv t k v l, .bool true]) (by simp [results, Try.results87, go_sem]) rfl ⟨rfl, (below_alloc _ _).alloc (by simp) _⟩
theorem passed_no (t k v l : Int) (w : World) :
    Calls Try.prog 87 #[evv t k v l, .bool false] w fun e w' => e = .returned (.tuple #[evv 0 0 0 0, .bool false]) ∧ Below w.heap.size w w' := by
  go_enter Try.func87, Try.ntmps87
  go_wp2
  exact bodyPost_ret (v := .tuple #[evv 0 0 0 0, .bool false]) (by simp [results, Try.results87, go_sem]) rfl ⟨rfl, (below_alloc _ _).alloc (by simp) _⟩

theorem keyed_no (t k v l n : Int) (w : World) (hn : n < 1) :
    Calls Try.prog 86 #[evv t k v l, .int .i64 n] w fun e w' => e = .returned (.tuple #[evv 0 0 0 0, .bool false]) ∧ Below w.heap.size w w' := by
  go_enter Try.func86, Try.ntmps86
  go_wp2
  exact bodyPost_ret (v := .tuple #[evv 0 0 0 0, .bool false]) (by simp [results, Try.results86, go_sem]) rfl ⟨rfl, (below_alloc _ _).alloc (by simp) _⟩
theorem keyed_yes (t k v l n r : Int) (w : World) (hn : 1 ≤ n) (hn2 : n ≤ 9223372036854775807) (hr : rem0 v n = r) :
    Calls Try.prog 86 #[evv t k v l, .int .i64 n] w fun e w' => e = .returned (.tuple #[evv t r v l, .bool true]) ∧ Below w.heap.size w w' := by
  have hb1 : -n < v.tmod n := Int.lt_tmod_of_pos _ (by omega)
  have hb2 : v.tmod n < n := Int.tmod_lt_of_pos _ (by omega)
  have hr' : Hid (rem0 v n = r) := hr
  clear hr
  by_cases hneg : v.tmod n < 0
  · have hr : Hid (v.tmod n + n = r) := by
      have h := hr'.out
      rw [rem0, if_pos hneg] at h; exact h
    go_enter Try.func86, Try.ntmps86
    go_wp2
    refine bodyPost_ret (v := .tuple #[evv t (v.tmod n + n) v l, .bool true]) (by simp [results, Try.results86, go_sem]) rfl ⟨by rw [hr.out], ?_⟩
    exact (below_alloc _ _).alloc (by simp) _
  · have hr : Hid (v.tmod n = r) := by
      have h := hr'.out
      rw [rem0, if_neg hneg] at h; exact h
    go_enter Try.func86, Try.ntmps86
    go_wp2
    refine bodyPost_ret (v := .tuple #[evv t (v.tmod n) v l, .bool true]) (by simp [results, Try.results86, go_sem]) rfl ⟨by rw [hr.out], ?_⟩
    exact (below_alloc _ _).alloc (by simp) _

theorem bcell {W w1 : World} (hb : Below W.heap.size W w1) : (∀ b o, b < W.heap.size → w1.cell? ⟨b, o, none⟩ = W.cell? ⟨b, o, none⟩) ∧ (∀ b o, b < W.heap.size → w1.frozen? ⟨b, o, none⟩ = W.frozen? ⟨b, o, none⟩) :=
  ⟨fun b o h => hb.cell (p := ⟨b, o, none⟩) h, fun b o h => hb.frozen (p := ⟨b, o, none⟩) h⟩

theorem below_set4 {B b : Nat} {w w1 : World} (h : Below B w w1) (hb : B ≤ b) (x0 x1 x2 x3 : Value) : Below B w ((((w1.setCell ⟨b, 0, none⟩ x0).setCell ⟨b, 1, none⟩ x1).setCell ⟨b, 2, none⟩ x2).setCell ⟨b, 3, none⟩ x3) :=
  (((h.setCell hb _).setCell hb _).setCell hb _).setCell hb _
theorem below_alloc3 (w : World) (a b c : Obj) : Below w.heap.size w (((w.alloc a).alloc b).alloc c) := ((below_alloc w a).alloc (by simp) b).alloc (by simp; omega) c

set_option maxHeartbeats 800000 in
theorem apply_1 (n t k v l : Int) (w : World) :
    Calls Try.prog 80 #[opv 1 n, evv t k v l] w fun e w' => e = .returned (evp (⟨t, k, wrap64 (v + n), l⟩, true)) ∧ Below w.heap.size w w' := by
  go_enter Try.func80, Try.ntmps80
  go_wp2
  exact bodyPost_ret (v := evp (⟨t, k, wrap64 (v + n), l⟩, true)) (by simp [results, Try.results80, go_sem]) rfl ⟨rfl, below_alloc3 _ _ _ _⟩
set_option maxHeartbeats 800000 in
theorem apply_2 (n t k v l : Int) (w : World) :
    Calls Try.prog 80 #[opv 2 n, evv t k v l] w fun e w' => e = .returned (evp (⟨t, k, wrap64 (v * n), l⟩, true)) ∧ Below w.heap.size w w' := by
  go_enter Try.func80, Try.ntmps80
  go_wp2
  exact bodyPost_ret (v := evp (⟨t, k, wrap64 (v * n), l⟩, true)) (by simp [results, Try.results80, go_sem]) rfl ⟨rfl, below_alloc3 _ _ _ _⟩
set_option maxHeartbeats 800000 in
theorem apply_3no (n t k v l : Int) (w : World) (hg : n < 1) :
    Calls Try.prog 80 #[opv 3 n, evv t k v l] w fun e w' => e = .returned (evp (zeroE, false)) ∧ Below w.heap.size w w' := by
  go_enter Try.func80, Try.ntmps80
  go_wp2_with fail
  refine (keyed_no t k v l n _ hg).mono ?_
  rintro e w1 ⟨rfl, b1⟩
  obtain ⟨hc, hf⟩ := bcell b1
  have hz : w.heap.size + 2 < w1.heap.size := by have := b1.size; simp at this; omega
  go_wp2
  refine bodyPost_ret (v := evp (zeroE, false)) (by simp [results, Try.results80, go_sem, hc]) rfl ⟨rfl, ?_⟩
  exact below_set4 ((below_alloc3 _ _ _ _).trans (b1.mono (by simp; omega))) (by omega) _ _ _ _
set_option maxHeartbeats 800000 in
theorem apply_3 (n t k v l : Int) (w : World) (hg : 1 ≤ n) (hn : n ≤ 9223372036854775807) :
    Calls Try.prog 80 #[opv 3 n, evv t k v l] w fun e w' => e = .returned (evp (⟨t, rem0 v n, v, l⟩, true)) ∧ Below w.heap.size w w' := by
  go_enter Try.func80, Try.ntmps80
  go_wp2_with fail
  refine (keyed_yes t k v l n (rem0 v n) _ hg hn rfl).mono ?_
  rintro e w1 ⟨rfl, b1⟩
  obtain ⟨hc, hf⟩ := bcell b1
  have hz : w.heap.size + 2 < w1.heap.size := by have := b1.size; simp at this; omega
  go_wp2
  refine bodyPost_ret (v := evp (⟨t, rem0 v n, v, l⟩, true)) (by simp [results, Try.results80, go_sem, hc]) rfl ⟨rfl, ?_⟩
  exact below_set4 ((below_alloc3 _ _ _ _).trans (b1.mono (by simp; omega))) (by omega) _ _ _ _
set_option maxHeartbeats 800000 in
theorem apply_4 (n t k v l : Int) (w : World) (hg : n < v) :
    Calls Try.prog 80 #[opv 4 n, evv t k v l] w fun e w' => e = .returned (evp (⟨t, k, v, l⟩, true)) ∧ Below w.heap.size w w' := by
  go_enter Try.func80, Try.ntmps80
  go_wp2_with fail
  refine (passed_yes t k v l _).mono ?_
  rintro e w1 ⟨rfl, b1⟩
  obtain ⟨hc, hf⟩ := bcell b1
  have hz : w.heap.size + 2 < w1.heap.size := by have := b1.size; simp at this; omega
  go_wp2
  refine bodyPost_ret (v := evp (⟨t, k, v, l⟩, true)) (by simp [results, Try.results80, go_sem, hc]) rfl ⟨rfl, ?_⟩
  exact below_set4 ((below_alloc3 _ _ _ _).trans (b1.mono (by simp; omega))) (by omega) _ _ _ _
set_option maxHeartbeats 800000 in
theorem apply_4no (n t k v l : Int) (w : World) (hg : decide (n < v) = false) :
    Calls Try.prog 80 #[opv 4 n, evv t k v l] w fun e w' => e = .returned (evp (zeroE, false)) ∧ Below w.heap.size w w' := by
  go_enter Try.func80, Try.ntmps80
  go_wp2_with fail
  refine (passed_no t k v l _).mono ?_
  rintro e w1 ⟨rfl, b1⟩
  obtain ⟨hc, hf⟩ := bcell b1
  have hz : w.heap.size + 2 < w1.heap.size := by have := b1.size; simp at this; omega
  go_wp2
  refine bodyPost_ret (v := evp (zeroE, false)) (by simp [results, Try.results80, go_sem, hc]) rfl ⟨rfl, ?_⟩
  exact below_set4 ((below_alloc3 _ _ _ _).trans (b1.mono (by simp; omega))) (by omega) _ _ _ _
set_option maxHeartbeats 800000 in
theorem apply_5 (n t k v l : Int) (w : World) (hg : v < n) :
    Calls Try.prog 80 #[opv 5 n, evv t k v l] w fun e w' => e = .returned (evp (⟨t, k, v, l⟩, true)) ∧ Below w.heap.size w w' := by
  go_enter Try.func80, Try.ntmps80
  go_wp2_with fail
  refine (passed_yes t k v l _).mono ?_
  rintro e w1 ⟨rfl, b1⟩
  obtain ⟨hc, hf⟩ := bcell b1
  have hz : w.heap.size + 2 < w1.heap.size := by have := b1.size; simp at this; omega
  go_wp2
  refine bodyPost_ret (v := evp (⟨t, k, v, l⟩, true)) (by simp [results, Try.results80, go_sem, hc]) rfl ⟨rfl, ?_⟩
  exact below_set4 ((below_alloc3 _ _ _ _).trans (b1.mono (by simp; omega))) (by omega) _ _ _ _
set_option maxHeartbeats 800000 in
theorem apply_5no (n t k v l : Int) (w : World) (hg : decide (v < n) = false) :
    Calls Try.prog 80 #[opv 5 n, evv t k v l] w fun e w' => e = .returned (evp (zeroE, false)) ∧ Below w.heap.size w w' := by
  go_enter Try.func80, Try.ntmps80
  go_wp2_with fail
  refine (passed_no t k v l _).mono ?_
  rintro e w1 ⟨rfl, b1⟩
  obtain ⟨hc, hf⟩ := bcell b1
  have hz : w.heap.size + 2 < w1.heap.size := by have := b1.size; simp at this; omega
  go_wp2
  refine bodyPost_ret (v := evp (zeroE, false)) (by simp [results, Try.results80, go_sem, hc]) rfl ⟨rfl, ?_⟩
  exact below_set4 ((below_alloc3 _ _ _ _).trans (b1.mono (by simp; omega))) (by omega) _ _ _ _
set_option maxHeartbeats 800000 in
theorem apply_6 (t k v l : Int) (w : World) :
    Calls Try.prog 80 #[opv 6 k, evv t k v l] w fun e w' => e = .returned (evp (⟨t, k, v, l⟩, true)) ∧ Below w.heap.size w w' := by
  go_enter Try.func80, Try.ntmps80
  go_wp2_with fail
  refine (passed_yes t k v l _).mono ?_
  rintro e w1 ⟨rfl, b1⟩
  obtain ⟨hc, hf⟩ := bcell b1
  have hz : w.heap.size + 2 < w1.heap.size := by have := b1.size; simp at this; omega
  go_wp2
  refine bodyPost_ret (v := evp (⟨t, k, v, l⟩, true)) (by simp [results, Try.results80, go_sem, hc]) rfl ⟨rfl, ?_⟩
  exact below_set4 ((below_alloc3 _ _ _ _).trans (b1.mono (by simp; omega))) (by omega) _ _ _ _
set_option maxHeartbeats 800000 in
theorem apply_6no (n t k v l : Int) (w : World) (hg : (k == n) = false) :
    Calls Try.prog 80 #[opv 6 n, evv t k v l] w fun e w' => e = .returned (evp (zeroE, false)) ∧ Below w.heap.size w w' := by
  go_enter Try.func80, Try.ntmps80
  go_wp2_with fail
  refine (passed_no t k v l _).mono ?_
  rintro e w1 ⟨rfl, b1⟩
  obtain ⟨hc, hf⟩ := bcell b1
  have hz : w.heap.size + 2 < w1.heap.size := by have := b1.size; simp at this; omega
  go_wp2
  refine bodyPost_ret (v := evp (zeroE, false)) (by simp [results, Try.results80, go_sem, hc]) rfl ⟨rfl, ?_⟩
  exact below_set4 ((below_alloc3 _ _ _ _).trans (b1.mono (by simp; omega))) (by omega) _ _ _ _
set_option maxHeartbeats 800000 in
theorem apply_0 (c n t k v l : Int) (w : World) (h1 : (c == 1) = false) (h2 : (c == 2) = false) (h3 : (c == 3) = false) (h4 : (c == 4) = false) (h5 : (c == 5) = false) (h6 : (c == 6) = false) :
    Calls Try.prog 80 #[opv c n, evv t k v l] w fun e w' => e = .returned (evp (zeroE, false)) ∧ Below w.heap.size w w' := by
  go_enter Try.func80, Try.ntmps80
  go_wp2
  exact bodyPost_ret (v := evp (zeroE, false)) (by simp [results, Try.results80, go_sem]) rfl ⟨rfl, below_alloc3 _ _ _ _⟩

/-- oper.Apply. -/
theorem apply_is (c n t k v l : Int) (x : Ev × Bool) (w : World) (hn : n ≤ 9223372036854775807) (h : app ⟨c, n⟩ ⟨t, k, v, l⟩ = x) :
    Calls Try.prog 80 #[opv c n, evv t k v l] w fun e w' => e = .returned (evp x) ∧ Below w.heap.size w w' := by
  subst h
  by_cases h1 : c = 1
  · subst h1; exact apply_1 n t k v l w
  by_cases h2 : c = 2
  · subst h2; exact apply_2 n t k v l w
  by_cases h3 : c = 3
  · subst h3
    by_cases hg : n < 1
    · have e : app ⟨3, n⟩ ⟨t, k, v, l⟩ = (zeroE, false) := by simp [app, hg]
      rw [e]; exact apply_3no n t k v l w hg
    · have e : app ⟨3, n⟩ ⟨t, k, v, l⟩ = (⟨t, rem0 v n, v, l⟩, true) := by simp [app, hg]
      rw [e]; exact apply_3 n t k v l w (by omega) hn
  by_cases h4 : c = 4
  · subst h4
    by_cases hg : n < v
    · have e : app ⟨4, n⟩ ⟨t, k, v, l⟩ = (⟨t, k, v, l⟩, true) := by simp [app, hg]
      rw [e]; exact apply_4 n t k v l w hg
    · have e : app ⟨4, n⟩ ⟨t, k, v, l⟩ = (zeroE, false) := by simp [app, hg]
      rw [e]; exact apply_4no n t k v l w (decide_eq_false hg)
  by_cases h5 : c = 5
  · subst h5
    by_cases hg : v < n
    · have e : app ⟨5, n⟩ ⟨t, k, v, l⟩ = (⟨t, k, v, l⟩, true) := by simp [app, hg]
      rw [e]; exact apply_5 n t k v l w hg
    · have e : app ⟨5, n⟩ ⟨t, k, v, l⟩ = (zeroE, false) := by simp [app, hg]
      rw [e]; exact apply_5no n t k v l w (decide_eq_false hg)
  by_cases h6 : c = 6
  · subst h6
    by_cases hg : k = n
    · subst hg
      have e : app ⟨6, k⟩ ⟨t, k, v, l⟩ = (⟨t, k, v, l⟩, true) := by simp [app]
      rw [e]; exact apply_6 t k v l w
    · have e : app ⟨6, n⟩ ⟨t, k, v, l⟩ = (zeroE, false) := by simp [app, hg]
      rw [e]; exact apply_6no n t k v l w (by simpa using hg)
  have e : app ⟨c, n⟩ ⟨t, k, v, l⟩ = (zeroE, false) := by simp [app, h1, h2, h3, h4, h5, h6]
  rw [e]; exact apply_0 c n t k v l w (by simpa using h1) (by simpa using h2) (by simpa using h3) (by simpa using h4) (by simpa using h5) (by simpa using h6)

/-- cordonbook.Within. -/
theorem within_any (n lo hi : Int) (w : World) (hlo : -1099511627776 ≤ lo) (h : lo ≤ hi) (h1 : hi ≤ 1099511627776) :
    Calls Try.prog 17 #[.int .i64 n, .int .i64 lo, .int .i64 hi] w fun e w' => (∃ k : Int, lo ≤ k ∧ k ≤ hi ∧ e = .returned (.int .i64 k)) ∧ w' = w := by
  have hb1 : -(hi - lo + 1) < n.tmod (hi - lo + 1) := Int.lt_tmod_of_pos _ (by omega)
  have hb2 : n.tmod (hi - lo + 1) < hi - lo + 1 := Int.tmod_lt_of_pos _ (by omega)
  by_cases hn : n.tmod (hi - lo + 1) < 0
  · go_enter Try.func17, Try.ntmps17
    go_wp2
    go_ret
    exact ⟨⟨lo + (n.tmod (hi - lo + 1) + hi - lo + 1), by omega, by omega, rfl⟩, rfl⟩
  · have hn' : 0 ≤ n.tmod (hi - lo + 1) := by omega
    go_enter Try.func17, Try.ntmps17
    go_wp2
    go_ret
    exact ⟨⟨lo + n.tmod (hi - lo + 1), by omega, by omega, rfl⟩, rfl⟩
end Go.Proofs.Ytnamjnopicghhaa.O
