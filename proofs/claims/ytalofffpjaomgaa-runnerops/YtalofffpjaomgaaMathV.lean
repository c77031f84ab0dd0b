/- Plain mathematics: a runner beside one without operations. Nothing of the program is in this text. -/
import Derived.Test.YtalofffpjaomgaaMathR
namespace Go.Proofs.Ytalofffpjaomgaa.M
open Go.RowKit
open Go.Proofs.Ytalofffpjaomgaa.O.MO (Oq Pq app zeroE)

/-- The same mark, the same windows. -/
def SameL (a b : Rs) : Prop := a.m = b.m ∧ a.L = b.L
theorem same_mark {os : List Oq} {n s K k f : Int} {a b : Rs} {i : Inp} (h : SameL a b) (hm : i.mrk = true) :
    SameL (stepR ⟨os, n, s, K, k, f⟩ a i) (stepR ⟨[], n, s, K, k, f⟩ b i) ∧ rowR ⟨os, n, s, K, k, f⟩ a i = rowR ⟨[], n, s, K, k, f⟩ b i := by
  obtain ⟨h1, h2⟩ := h
  cases hg : goes a.m i.e.t with
  | true =>
    have hg2 : goes b.m i.e.t = true := by rw [← h1]; exact hg
    rw [(step_mark (p := ⟨os, n, s, K, k, f⟩) hm hg).1, (step_mark (p := ⟨os, n, s, K, k, f⟩) hm hg).2, (step_mark (p := ⟨[], n, s, K, k, f⟩) hm hg2).1, (step_mark (p := ⟨[], n, s, K, k, f⟩) hm hg2).2]
    exact ⟨⟨rfl, by show List.drop _ a.L = List.drop _ b.L; rw [h2]⟩, by rw [h2]⟩
  | false =>
    have hg2 : goes b.m i.e.t = false := by rw [← h1]; exact hg
    rw [(step_still (p := ⟨os, n, s, K, k, f⟩) hm hg).1, (step_still (p := ⟨os, n, s, K, k, f⟩) hm hg).2, (step_still (p := ⟨[], n, s, K, k, f⟩) hm hg2).1, (step_still (p := ⟨[], n, s, K, k, f⟩) hm hg2).2]
    exact ⟨⟨h1, h2⟩, rfl⟩
theorem same_event {os : List Oq} {n s K k f : Int} {a b : Rs} {e y : Ev} (h : SameL a b) (hx : runE os e = some y) :
    SameL (stepR ⟨os, n, s, K, k, f⟩ a ⟨false, e⟩) (stepR ⟨[], n, s, K, k, f⟩ b ⟨false, y⟩) ∧ rowR ⟨os, n, s, K, k, f⟩ a ⟨false, e⟩ = rowR ⟨[], n, s, K, k, f⟩ b ⟨false, y⟩ := by
  obtain ⟨h1, h2⟩ := h
  have hyt : y.t = e.t := (runE_some hx).2.1
  rw [row_event (p := ⟨os, n, s, K, k, f⟩) (i := ⟨false, e⟩) rfl, row_event (p := ⟨[], n, s, K, k, f⟩) (i := ⟨false, y⟩) rfl]
  refine ⟨?_, rfl⟩
  cases ht : okT e.t with
  | false =>
    have ht2 : okT y.t = false := by rw [hyt]; exact ht
    rw [step_none (p := ⟨os, n, s, K, k, f⟩) (i := ⟨false, e⟩) rfl ht, step_none (p := ⟨[], n, s, K, k, f⟩) (i := ⟨false, y⟩) rfl ht2]
    exact ⟨h1, h2⟩
  | true =>
    have ht2 : okT y.t = true := by rw [hyt]; exact ht
    by_cases hl : e.t < a.m
    · rw [step_late (p := ⟨os, n, s, K, k, f⟩) (i := ⟨false, e⟩) rfl ht hl, step_late (p := ⟨[], n, s, K, k, f⟩) (i := ⟨false, y⟩) rfl ht2 (by show y.t < b.m; rw [hyt, ← h1]; exact hl)]
      exact ⟨h1, h2⟩
    · rw [step_put (p := ⟨os, n, s, K, k, f⟩) (i := ⟨false, e⟩) rfl ht hl hx, step_put (p := ⟨[], n, s, K, k, f⟩) (i := ⟨false, y⟩) rfl ht2 (by show ¬ y.t < b.m; rw [hyt, ← h1]; exact hl) (runE_nil y)]
      exact ⟨h1, by show putE _ _ _ a.L y = putE _ _ _ b.L y; rw [h2]⟩
theorem same_none {os : List Oq} {n s K k f : Int} {a b : Rs} {e : Ev} (h : SameL a b) (hx : runE os e = none) :
    SameL (stepR ⟨os, n, s, K, k, f⟩ a ⟨false, e⟩) b ∧ rowR ⟨os, n, s, K, k, f⟩ a ⟨false, e⟩ = [] := by
  obtain ⟨h1, h2⟩ := h
  rw [row_event (p := ⟨os, n, s, K, k, f⟩) (i := ⟨false, e⟩) rfl]
  refine ⟨?_, rfl⟩
  cases ht : okT e.t with
  | false => rw [step_none (p := ⟨os, n, s, K, k, f⟩) (i := ⟨false, e⟩) rfl ht]; exact ⟨h1, h2⟩
  | true =>
    by_cases hl : e.t < a.m
    · rw [step_late (p := ⟨os, n, s, K, k, f⟩) (i := ⟨false, e⟩) rfl ht hl]; exact ⟨h1, h2⟩
    · rw [step_drop (p := ⟨os, n, s, K, k, f⟩) (i := ⟨false, e⟩) rfl ht hl hx]; exact ⟨h1, h2⟩
end Go.Proofs.Ytalofffpjaomgaa.M
