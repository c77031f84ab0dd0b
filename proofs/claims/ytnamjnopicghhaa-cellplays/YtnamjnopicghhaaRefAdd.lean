/- The document's own Agg.Add. -/
import Derived.Test.YtnamjnopicghhaaAgg
namespace Go.Proofs.Ytnamjnopicghhaa
open Go.RowKit M
set_option linter.unusedVariables false

set_option maxHeartbeats 1000000 in
set_option maxRecDepth 100000 in
theorem radd_any (c k v x v' : Int) (w : World) (hv0 : jv k c v (inp k x) = v') (hc0 : 0 ≤ c) (hc1 : c ≤ 1000) :
    Calls Try.prog 74 #[.agg #[.int .i64 c, .int .i64 v], .int .i64 k, .int .i64 x] w fun e w' => e = .returned (.agg #[.int .i64 (c + 1), .int .i64 v']) ∧ Below w.heap.size w w' := by
  have hv : Hid (jv k c v (inp k x) = v') := hv0
  clear hv0
  rcases kinds k with rfl | rfl | rfl | rfl | ⟨h1, h2, h3, h4⟩
  · have hv2 : Hid (wrap64 (v + 1) = v') := by
      have h : wrap64 (v + 1) = v' := by rw [← hv.out]; rw [jv_sum _ _ _ _ (.inl rfl)]; unfold inp; rw [if_pos rfl]
      exact h
    clear hv
    rw [← hv2.out]
    clear hv2
    go_enter Try.func74, Try.ntmps74
    go_wp2
    exact bodyPost_ret (v := .agg #[.int .i64 (c + 1), .int .i64 (wrap64 (v + 1))]) (by simp [results, Try.results74, go_sem]) rfl ⟨rfl, (below_alloc w _).alloc (by simp) _⟩
  · have hv2 : Hid (wrap64 (v + x) = v') := by
      have h : wrap64 (v + x) = v' := by rw [← hv.out]; rw [jv_sum _ _ _ _ (.inr rfl)]; unfold inp; rw [if_neg (by decide)]
      exact h
    clear hv
    rw [← hv2.out]
    clear hv2
    go_enter Try.func74, Try.ntmps74
    go_wp2
    exact bodyPost_ret (v := .agg #[.int .i64 (c + 1), .int .i64 (wrap64 (v + x))]) (by simp [results, Try.results74, go_sem]) rfl ⟨rfl, (below_alloc w _).alloc (by simp) _⟩
  · by_cases hz : c = 0
    · subst hz
      have hv2 : Hid (x = v') := by
        have h : x = v' := by rw [← hv.out]; rw [jv_first _ _ _ rfl _ (.inl rfl)]; unfold inp; rw [if_neg (by decide)]
        exact h
      clear hv
      rw [← hv2.out]
      clear hv2
      go_enter Try.func74, Try.ntmps74
      go_wp2
      exact bodyPost_ret (v := .agg #[.int .i64 (0 + 1), .int .i64 (x)]) (by simp [results, Try.results74, go_sem]) rfl ⟨rfl, (below_alloc w _).alloc (by simp) _⟩
    · by_cases hlt : x < v
      · have hv2 : Hid (x = v') := by
          have h : x = v' := by rw [← hv.out]; rw [show inp 3 x = x from by unfold inp; rw [if_neg (by decide)]]; unfold jv; rw [if_neg (by decide), if_pos rfl, if_pos (.inr hlt)]
          exact h
        clear hv
        rw [← hv2.out]
        clear hv2
        go_enter Try.func74, Try.ntmps74
        go_wp2
        exact bodyPost_ret (v := .agg #[.int .i64 (c + 1), .int .i64 (x)]) (by simp [results, Try.results74, go_sem]) rfl ⟨rfl, (below_alloc w _).alloc (by simp) _⟩
      · have hv2 : Hid (v = v') := by
          have h : v = v' := by rw [← hv.out]; rw [show inp 3 x = x from by unfold inp; rw [if_neg (by decide)]]; unfold jv; rw [if_neg (by decide), if_pos rfl, if_neg (by omega)]
          exact h
        clear hv
        rw [← hv2.out]
        clear hv2
        go_enter Try.func74, Try.ntmps74
        go_wp2
        exact bodyPost_ret (v := .agg #[.int .i64 (c + 1), .int .i64 (v)]) (by simp [results, Try.results74, go_sem]) rfl ⟨rfl, (below_alloc w _).alloc (by simp) _⟩
  · by_cases hz : c = 0
    · subst hz
      have hv2 : Hid (x = v') := by
        have h : x = v' := by rw [← hv.out]; rw [jv_first _ _ _ rfl _ (.inr rfl)]; unfold inp; rw [if_neg (by decide)]
        exact h
      clear hv
      rw [← hv2.out]
      clear hv2
      go_enter Try.func74, Try.ntmps74
      go_wp2
      exact bodyPost_ret (v := .agg #[.int .i64 (0 + 1), .int .i64 (x)]) (by simp [results, Try.results74, go_sem]) rfl ⟨rfl, (below_alloc w _).alloc (by simp) _⟩
    · by_cases hlt : v < x
      · have hv2 : Hid (x = v') := by
          have h : x = v' := by rw [← hv.out]; rw [show inp 4 x = x from by unfold inp; rw [if_neg (by decide)]]; unfold jv; rw [if_neg (by decide), if_neg (by decide), if_pos rfl, if_pos (.inr hlt)]
          exact h
        clear hv
        rw [← hv2.out]
        clear hv2
        go_enter Try.func74, Try.ntmps74
        go_wp2
        exact bodyPost_ret (v := .agg #[.int .i64 (c + 1), .int .i64 (x)]) (by simp [results, Try.results74, go_sem]) rfl ⟨rfl, (below_alloc w _).alloc (by simp) _⟩
      · have hv2 : Hid (v = v') := by
          have h : v = v' := by rw [← hv.out]; rw [show inp 4 x = x from by unfold inp; rw [if_neg (by decide)]]; unfold jv; rw [if_neg (by decide), if_neg (by decide), if_pos rfl, if_neg (by omega)]
          exact h
        clear hv
        rw [← hv2.out]
        clear hv2
        go_enter Try.func74, Try.ntmps74
        go_wp2
        exact bodyPost_ret (v := .agg #[.int .i64 (c + 1), .int .i64 (v)]) (by simp [results, Try.results74, go_sem]) rfl ⟨rfl, (below_alloc w _).alloc (by simp) _⟩
  · have hv2 : Hid (v = v') := by
      have h : v = v' := by rw [← hv.out]; rw [jv_no _ _ _ _ h1 h2 h3 h4]
      exact h
    clear hv
    rw [← hv2.out]
    clear hv2
    go_enter Try.func74, Try.ntmps74
    go_wp2
    exact bodyPost_ret (v := .agg #[.int .i64 (c + 1), .int .i64 (v)]) (by simp [results, Try.results74, go_sem]) rfl ⟨rfl, (below_alloc w _).alloc (by simp) _⟩
end Go.Proofs.Ytnamjnopicghhaa
