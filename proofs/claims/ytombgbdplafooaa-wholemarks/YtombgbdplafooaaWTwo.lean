/- Two lists of the call's own that grow side by side. -/
import Derived.Test.YtombgbdplafooaaWHelp
import Derived.Test.YtombgbdplafooaaRApp
import Derived.Deep.QuietTactic
import Derived.BigQuiet
namespace Go.Proofs.Ytombgbdplafooaa
open Go.RowKit M
open O (RdO Kpk Pik Small Ints)
open O.MO (Oq Pq rightP)
set_option linter.unusedVariables false
set_option linter.unusedSimpArgs false

structure Two (W : World) (B : Nat) (e : TypeId) (sz : Nat) (u v : Value) (n m : Nat) (xs ys : List Value) : Prop where
  hu : W.ownsRow B e sz u n xs
  hv : W.ownsRow B e sz v m ys
  ne : ∀ k, u.ownBlock = some k → v.ownBlock ≠ some k
section
variable {W W' : World} {B : Nat} {e : TypeId} {sz : Nat} {u v u' v' : Value} {n m n' m' : Nat} {xs ys xs' ys' : List Value}
theorem two_nil (W : World) (B : Nat) (e : TypeId) (sz : Nat) : Two W B e sz (.slice none 0 0) (.slice none 0 0) 0 0 [] [] := ⟨World.ownsRow_nil _ _ _ _, World.ownsRow_nil _ _ _ _, fun k hk => by cases hk⟩
theorem Two.below (h : Two W B e sz u v n m xs ys) (hb : Below W.heap.size W W') : Two W' B e sz u v n m xs ys := ⟨own_below h.hu hb, own_below h.hv hb, h.ne⟩
theorem Two.alloc (h : Two W B e sz u v n m xs ys) (o : Obj) : Two (W.alloc o) B e sz u v n m xs ys := h.below (below_alloc _ _)
theorem Two.left (h : Two W B e sz u v n m xs ys) (hu : W'.ownsRow B e sz u' n' xs') (hg : W.grownBy W' u.ownBlock) (hf : ∀ k, u'.ownBlock = some k → u.ownBlock = some k ∨ W.heap.size ≤ k) : Two W' B e sz u' v n' m xs' ys := by
  refine ⟨hu, own_grown h.hv hg (fun k hk hk2 => h.ne k hk2 hk), fun k hk hk2 => ?_⟩
  rcases hf k hk with h1 | h1
  · exact h.ne k h1 hk2
  · have := (h.hv.lt k hk2).2; omega
theorem Two.right (h : Two W B e sz u v n m xs ys) (hv : W'.ownsRow B e sz v' m' ys') (hg : W.grownBy W' v.ownBlock) (hf : ∀ k, v'.ownBlock = some k → v.ownBlock = some k ∨ W.heap.size ≤ k) : Two W' B e sz u v' n m' xs ys' := by
  refine ⟨own_grown h.hu hg (fun k hk hk2 => h.ne k hk hk2), hv, fun k hk hk2 => ?_⟩
  rcases hf k hk2 with h1 | h1
  · exact h.ne k hk h1
  · have := (h.hu.lt k hk).2; omega
end
section
variable {w0 W W' : World} {g0 gp : Nat} {u : Value} {p : Pq} {qi : Nat} {iv : Value} {is : List Inp}
/-- The inputs' block is there. -/
theorem WE.some (h : WE w0 W g0 gp u p qi iv is) : ∃ q', WE w0 W g0 gp u p q' iv is ∧ q' < W.heap.size := by
  by_cases hn : is.length = 0
  · obtain ⟨h1, h2, ao, cap, rfl, h3, h4, hc⟩ := h.I
    exact ⟨gp, ⟨h.P, h.O, ⟨h1, h2, ao, cap, rfl, h3, h4, fun h => absurd hn h⟩, h.B, h.hg, h.hp, by have := h.hp; omega⟩, h.hp⟩
  · obtain ⟨h1, h2, ao, cap, rfl, h3, h4, hc⟩ := h.I
    obtain ⟨off, _, hq, _⟩ := hc hn
    exact ⟨qi, h, hq⟩
end
/-- What one step of a filter adds. -/
theorem filt_step (f : Inp → Bool) (is : List Inp) (j : Nat) (h : j < is.length) : (is.take (j + 1)).filter f = (is.take j).filter f ++ (if f (iAt is j) = true then [iAt is j] else []) := by
  rw [take_in is j h, List.filter_append]
  cases hf : f (iAt is j) <;> simp [hf]
theorem rowsP_step (P : Int → Bool) (L : List Pn) (j : Nat) (h : j < L.length) : rowsP P (L.take (j + 1)) = rowsP P (L.take j) ++ (if P (pAt L j).k = true then [pAt L j] else []) := by
  rw [take_snocP L j h, rowsP_append]
  cases hf : P (pAt L j).k <;> simp [rowsP, hf]
theorem filt_len (f : Inp → Bool) (is : List Inp) (j : Nat) : ((is.take j).filter f).length ≤ j := by
  have h := List.length_filter_le f (is.take j)
  rw [List.length_take] at h; omega
theorem rowsP_len (P : Int → Bool) (L : List Pn) (j : Nat) : (rowsP P (L.take j)).length ≤ j := by
  have h := List.length_filter_le (fun p : Pn => P p.k) (L.take j)
  rw [List.length_take] at h; unfold rowsP; omega
end Go.Proofs.Ytombgbdplafooaa
