/- What the document's own answers (RightOp, Apply) and oper.right compute, each for every argument. -/
import Derived.Test.YtnamjnopicghhaaOLeaf
namespace Go.Proofs.Ytnamjnopicghhaa.O
open Go.RowKit MO

set_option maxHeartbeats 800000 in
theorem ref_1 (n t k v l : Int) (w : World) :
    Calls Try.prog 72 #[opv 1 n, evv t k v l] w fun e w' => e = .returned (evp (⟨t, k, wrap64 (v + n), l⟩, true)) ∧ Below w.heap.size w w' := by
  go_enter Try.func72, Try.ntmps72
  go_wp2
  exact bodyPost_ret (v := evp (⟨t, k, wrap64 (v + n), l⟩, true)) (by simp [results, Try.results72, go_sem]) rfl ⟨rfl, below_alloc3 _ _ _ _⟩
set_option maxHeartbeats 800000 in
theorem ref_2 (n t k v l : Int) (w : World) :
    Calls Try.prog 72 #[opv 2 n, evv t k v l] w fun e w' => e = .returned (evp (⟨t, k, wrap64 (v * n), l⟩, true)) ∧ Below w.heap.size w w' := by
  go_enter Try.func72, Try.ntmps72
  go_wp2
  exact bodyPost_ret (v := evp (⟨t, k, wrap64 (v * n), l⟩, true)) (by simp [results, Try.results72, go_sem]) rfl ⟨rfl, below_alloc3 _ _ _ _⟩
set_option maxHeartbeats 800000 in
theorem ref_3no (n t k v l : Int) (w : World) (hg : n < 1) :
    Calls Try.prog 72 #[opv 3 n, evv t k v l] w fun e w' => e = .returned (evp (zeroE, false)) ∧ Below w.heap.size w w' := by
  go_enter Try.func72, Try.ntmps72
  go_wp2
  exact bodyPost_ret (v := evp (zeroE, false)) (by simp [results, Try.results72, go_sem]) rfl ⟨rfl, below_alloc3 _ _ _ _⟩
set_option maxHeartbeats 800000 in
theorem ref_3neg (n t k v l : Int) (w : World) (hg : 1 ≤ n) (hn : n ≤ 9223372036854775807) (hneg : v.tmod n < 0) :
    Calls Try.prog 72 #[opv 3 n, evv t k v l] w fun e w' => e = .returned (evp (⟨t, v.tmod n + n, v, l⟩, true)) ∧ Below w.heap.size w w' := by
  have hb1 : -n < v.tmod n := Int.lt_tmod_of_pos _ (by omega)
  have hb2 : v.tmod n < n := Int.tmod_lt_of_pos _ (by omega)
  go_enter Try.func72, Try.ntmps72
  go_wp2
  exact bodyPost_ret (v := evp (⟨t, v.tmod n + n, v, l⟩, true)) (by simp [results, Try.results72, go_sem]) rfl ⟨rfl, below_alloc3 _ _ _ _⟩
set_option maxHeartbeats 800000 in
theorem ref_3pos (n t k v l : Int) (w : World) (hg : 1 ≤ n) (hn : n ≤ 9223372036854775807) (hpos : 0 ≤ v.tmod n) :
    Calls Try.prog 72 #[opv 3 n, evv t k v l] w fun e w' => e = .returned (evp (⟨t, v.tmod n, v, l⟩, true)) ∧ Below w.heap.size w w' := by
  have hb1 : -n < v.tmod n := Int.lt_tmod_of_pos _ (by omega)
  have hb2 : v.tmod n < n := Int.tmod_lt_of_pos _ (by omega)
  go_enter Try.func72, Try.ntmps72
  go_wp2
  exact bodyPost_ret (v := evp (⟨t, v.tmod n, v, l⟩, true)) (by simp [results, Try.results72, go_sem]) rfl ⟨rfl, below_alloc3 _ _ _ _⟩
set_option maxHeartbeats 800000 in
theorem ref_4 (n t k v l : Int) (w : World) (hg : n < v) :
    Calls Try.prog 72 #[opv 4 n, evv t k v l] w fun e w' => e = .returned (evp (⟨t, k, v, l⟩, true)) ∧ Below w.heap.size w w' := by
  go_enter Try.func72, Try.ntmps72
  go_wp2
  exact bodyPost_ret (v := evp (⟨t, k, v, l⟩, true)) (by simp [results, Try.results72, go_sem]) rfl ⟨rfl, below_alloc3 _ _ _ _⟩
set_option maxHeartbeats 800000 in
theorem ref_4no (n t k v l : Int) (w : World) (hg : v ≤ n) :
    Calls Try.prog 72 #[opv 4 n, evv t k v l] w fun e w' => e = .returned (evp (zeroE, false)) ∧ Below w.heap.size w w' := by
  go_enter Try.func72, Try.ntmps72
  go_wp2
  exact bodyPost_ret (v := evp (zeroE, false)) (by simp [results, Try.results72, go_sem]) rfl ⟨rfl, below_alloc3 _ _ _ _⟩
set_option maxHeartbeats 800000 in
theorem ref_5 (n t k v l : Int) (w : World) (hg : v < n) :
    Calls Try.prog 72 #[opv 5 n, evv t k v l] w fun e w' => e = .returned (evp (⟨t, k, v, l⟩, true)) ∧ Below w.heap.size w w' := by
  go_enter Try.func72, Try.ntmps72
  go_wp2
  exact bodyPost_ret (v := evp (⟨t, k, v, l⟩, true)) (by simp [results, Try.results72, go_sem]) rfl ⟨rfl, below_alloc3 _ _ _ _⟩
set_option maxHeartbeats 800000 in
theorem ref_5no (n t k v l : Int) (w : World) (hg : n ≤ v) :
    Calls Try.prog 72 #[opv 5 n, evv t k v l] w fun e w' => e = .returned (evp (zeroE, false)) ∧ Below w.heap.size w w' := by
  go_enter Try.func72, Try.ntmps72
  go_wp2
  exact bodyPost_ret (v := evp (zeroE, false)) (by simp [results, Try.results72, go_sem]) rfl ⟨rfl, below_alloc3 _ _ _ _⟩
set_option maxHeartbeats 800000 in
theorem ref_6 (t k v l : Int) (w : World) :
    Calls Try.prog 72 #[opv 6 k, evv t k v l] w fun e w' => e = .returned (evp (⟨t, k, v, l⟩, true)) ∧ Below w.heap.size w w' := by
  go_enter Try.func72, Try.ntmps72
  go_wp2
  exact bodyPost_ret (v := evp (⟨t, k, v, l⟩, true)) (by simp [results, Try.results72, go_sem]) rfl ⟨rfl, below_alloc3 _ _ _ _⟩
set_option maxHeartbeats 800000 in
theorem ref_6no (n t k v l : Int) (w : World) (hg : (k != n) = true) :
    Calls Try.prog 72 #[opv 6 n, evv t k v l] w fun e w' => e = .returned (evp (zeroE, false)) ∧ Below w.heap.size w w' := by
  go_enter Try.func72, Try.ntmps72
  go_wp2
  exact bodyPost_ret (v := evp (zeroE, false)) (by simp [results, Try.results72, go_sem]) rfl ⟨rfl, below_alloc3 _ _ _ _⟩
set_option maxHeartbeats 800000 in
theorem ref_0 (c n t k v l : Int) (w : World) (h1 : (c == 1) = false) (h2 : (c == 2) = false) (h3 : (c == 3) = false) (h4 : (c == 4) = false) (h5 : (c == 5) = false) (h6 : (c == 6) = false) :
    Calls Try.prog 72 #[opv c n, evv t k v l] w fun e w' => e = .returned (evp (zeroE, false)) ∧ Below w.heap.size w w' := by
  go_enter Try.func72, Try.ntmps72
  go_wp2
  exact bodyPost_ret (v := evp (zeroE, false)) (by simp [results, Try.results72, go_sem]) rfl ⟨rfl, below_alloc3 _ _ _ _⟩

/-- cordonref1.Apply. -/
theorem ref_is (c n t k v l : Int) (x : Ev × Bool) (w : World) (hn : n ≤ 9223372036854775807) (h : app ⟨c, n⟩ ⟨t, k, v, l⟩ = x) :
    Calls Try.prog 72 #[opv c n, evv t k v l] w fun e w' => e = .returned (evp x) ∧ Below w.heap.size w w' := by
  subst h
  by_cases h1 : c = 1
  · subst h1; exact ref_1 n t k v l w
  by_cases h2 : c = 2
  · subst h2; exact ref_2 n t k v l w
  by_cases h3 : c = 3
  · subst h3
    by_cases hg : n < 1
    · have e : app ⟨3, n⟩ ⟨t, k, v, l⟩ = (zeroE, false) := by simp [app, hg]
      rw [e]; exact ref_3no n t k v l w hg
    · by_cases hneg : v.tmod n < 0
      · have e : app ⟨3, n⟩ ⟨t, k, v, l⟩ = (⟨t, v.tmod n + n, v, l⟩, true) := by simp [app, hg, rem0, hneg]
        rw [e]; exact ref_3neg n t k v l w (by omega) hn hneg
      · have e : app ⟨3, n⟩ ⟨t, k, v, l⟩ = (⟨t, v.tmod n, v, l⟩, true) := by simp [app, hg, rem0, hneg]
        rw [e]; exact ref_3pos n t k v l w (by omega) hn (by omega)
  by_cases h4 : c = 4
  · subst h4
    by_cases hg : n < v
    · have e : app ⟨4, n⟩ ⟨t, k, v, l⟩ = (⟨t, k, v, l⟩, true) := by simp [app, hg]
      rw [e]; exact ref_4 n t k v l w hg
    · have e : app ⟨4, n⟩ ⟨t, k, v, l⟩ = (zeroE, false) := by simp [app, hg]
      rw [e]; exact ref_4no n t k v l w (by omega)
  by_cases h5 : c = 5
  · subst h5
    by_cases hg : v < n
    · have e : app ⟨5, n⟩ ⟨t, k, v, l⟩ = (⟨t, k, v, l⟩, true) := by simp [app, hg]
      rw [e]; exact ref_5 n t k v l w hg
    · have e : app ⟨5, n⟩ ⟨t, k, v, l⟩ = (zeroE, false) := by simp [app, hg]
      rw [e]; exact ref_5no n t k v l w (by omega)
  by_cases h6 : c = 6
  · subst h6
    by_cases hg : k = n
    · subst hg
      have e : app ⟨6, k⟩ ⟨t, k, v, l⟩ = (⟨t, k, v, l⟩, true) := by simp [app]
      rw [e]; exact ref_6 t k v l w
    · have e : app ⟨6, n⟩ ⟨t, k, v, l⟩ = (zeroE, false) := by simp [app, hg]
      rw [e]; exact ref_6no n t k v l w (by simpa using hg)
  have e : app ⟨c, n⟩ ⟨t, k, v, l⟩ = (zeroE, false) := by simp [app, h1, h2, h3, h4, h5, h6]
  rw [e]; exact ref_0 c n t k v l w (by simpa using h1) (by simpa using h2) (by simpa using h3) (by simpa using h4) (by simpa using h5) (by simpa using h6)

theorem right_1 (n : Int) (w : World) :
    Calls Try.prog 76 #[opv 1 n] w fun e w' => e = .returned (.bool true) ∧ Below w.heap.size w w' := by
  go_enter Try.func76, Try.ntmps76
  go_wp2
  go_ret
  exact ⟨rfl, below_alloc _ _⟩
theorem right_2 (n : Int) (w : World) :
    Calls Try.prog 76 #[opv 2 n] w fun e w' => e = .returned (.bool true) ∧ Below w.heap.size w w' := by
  go_enter Try.func76, Try.ntmps76
  go_wp2
  go_ret
  exact ⟨rfl, below_alloc _ _⟩
theorem right_4 (n : Int) (w : World) :
    Calls Try.prog 76 #[opv 4 n] w fun e w' => e = .returned (.bool true) ∧ Below w.heap.size w w' := by
  go_enter Try.func76, Try.ntmps76
  go_wp2
  go_ret
  exact ⟨rfl, below_alloc _ _⟩
theorem right_5 (n : Int) (w : World) :
    Calls Try.prog 76 #[opv 5 n] w fun e w' => e = .returned (.bool true) ∧ Below w.heap.size w w' := by
  go_enter Try.func76, Try.ntmps76
  go_wp2
  go_ret
  exact ⟨rfl, below_alloc _ _⟩
theorem right_3 (n : Int) (w : World) (h0 : 1 ≤ n) (h1 : n ≤ 256) :
    Calls Try.prog 76 #[opv 3 n] w fun e w' => e = .returned (.bool true) ∧ Below w.heap.size w w' := by
  go_enter Try.func76, Try.ntmps76
  go_wp2
  go_ret
  exact ⟨rfl, below_alloc _ _⟩
theorem right_3lo (n : Int) (w : World) (h0 : n < 1) :
    Calls Try.prog 76 #[opv 3 n] w fun e w' => e = .returned (.bool false) ∧ Below w.heap.size w w' := by
  go_enter Try.func76, Try.ntmps76
  go_wp2
  go_ret
  exact ⟨rfl, below_alloc _ _⟩
theorem right_3hi (n : Int) (w : World) (h0 : 1 ≤ n) (h1 : decide (n ≤ 256) = false) :
    Calls Try.prog 76 #[opv 3 n] w fun e w' => e = .returned (.bool false) ∧ Below w.heap.size w w' := by
  go_enter Try.func76, Try.ntmps76
  go_wp2
  go_ret
  exact ⟨rfl, below_alloc _ _⟩
theorem right_6 (n : Int) (w : World) (h0 : 0 ≤ n) (h1 : n ≤ 255) :
    Calls Try.prog 76 #[opv 6 n] w fun e w' => e = .returned (.bool true) ∧ Below w.heap.size w w' := by
  go_enter Try.func76, Try.ntmps76
  go_wp2
  go_ret
  exact ⟨rfl, below_alloc _ _⟩
theorem right_6lo (n : Int) (w : World) (h0 : n < 0) :
    Calls Try.prog 76 #[opv 6 n] w fun e w' => e = .returned (.bool false) ∧ Below w.heap.size w w' := by
  go_enter Try.func76, Try.ntmps76
  go_wp2
  go_ret
  exact ⟨rfl, below_alloc _ _⟩
theorem right_6hi (n : Int) (w : World) (h0 : 0 ≤ n) (h1 : decide (n ≤ 255) = false) :
    Calls Try.prog 76 #[opv 6 n] w fun e w' => e = .returned (.bool false) ∧ Below w.heap.size w w' := by
  go_enter Try.func76, Try.ntmps76
  go_wp2
  go_ret
  exact ⟨rfl, below_alloc _ _⟩
theorem right_0 (c n : Int) (w : World) (h1 : (c == 1) = false) (h2 : (c == 2) = false) (h3 : (c == 3) = false) (h4 : (c == 4) = false) (h5 : (c == 5) = false) (h6 : (c == 6) = false) :
    Calls Try.prog 76 #[opv c n] w fun e w' => e = .returned (.bool false) ∧ Below w.heap.size w w' := by
  go_enter Try.func76, Try.ntmps76
  go_wp2
  go_ret
  exact ⟨rfl, below_alloc _ _⟩
theorem right_is (c n : Int) (p : Bool) (w : World) (h : rightO ⟨c, n⟩ = p) :
    Calls Try.prog 76 #[opv c n] w fun e w' => e = .returned (.bool p) ∧ Below w.heap.size w w' := by
  subst h
  by_cases h1 : c = 1
  · subst h1; exact right_1 n w
  by_cases h2 : c = 2
  · subst h2; exact right_2 n w
  by_cases h3 : c = 3
  · subst h3
    by_cases h0 : 1 ≤ n
    · by_cases h1 : n ≤ 256
      · have e : rightO ⟨3, n⟩ = true := by simp [rightO, h0, h1]
        rw [e]; exact right_3 n w h0 h1
      · have e : rightO ⟨3, n⟩ = false := by simp [rightO]; omega
        rw [e]; exact right_3hi n w h0 (decide_eq_false h1)
    · have e : rightO ⟨3, n⟩ = false := by simp [rightO]; omega
      rw [e]; exact right_3lo n w (by omega)
  by_cases h4 : c = 4
  · subst h4; exact right_4 n w
  by_cases h5 : c = 5
  · subst h5; exact right_5 n w
  by_cases h6 : c = 6
  · subst h6
    by_cases h0 : 0 ≤ n
    · by_cases h1 : n ≤ 255
      · have e : rightO ⟨6, n⟩ = true := by simp [rightO, h0, h1]
        rw [e]; exact right_6 n w h0 h1
      · have e : rightO ⟨6, n⟩ = false := by simp [rightO]; omega
        rw [e]; exact right_6hi n w h0 (decide_eq_false h1)
    · have e : rightO ⟨6, n⟩ = false := by simp [rightO]; omega
      rw [e]; exact right_6lo n w (by omega)
  have e : rightO ⟨c, n⟩ = false := by simp [rightO, h3, h6]; omega
  rw [e]
  exact right_0 c n w (by simpa using h1) (by simpa using h2) (by simpa using h3) (by simpa using h4) (by simpa using h5) (by simpa using h6)


end Go.Proofs.Ytnamjnopicghhaa.O
