/- A set of ints as a map to bools that the call itself makes; a captured int; the closure that asks what one tenant is served. -/
import Derived.Test.YtokcanmhhabecaaSums
import Derived.Test.YtokcanmhhabecaaMathT
import Derived.Maps.Own
import Derived.Maps.OwnOps
import Derived.Maps.OwnSet
import Derived.Maps.Views
namespace Go.Proofs.Ytokcanmhhabecaa
open Go.RowKit M
open Go.Maps (Keyed)
set_option linter.unusedVariables false

/-- The set of a list of ints, as it is read. -/
def setB (l : List Int) : DataW Unit := l.foldl (fun D x => D.put (.int .i64 x) (.lit (.bool true))) (.map [])
theorem setB_snoc (l : List Int) (x : Int) : setB (l ++ [x]) = (setB l).put (.int .i64 x) (.lit (.bool true)) := by simp [setB]
theorem keyLaw : Keyed Try.prog 3 := Maps.int_keyed Try.underlying3
theorem setB_of (l : List Int) : setB l = Maps.setOf (.lit (.bool true)) (l.map (Lit.int .i64)) := by
  unfold setB Maps.setOf
  rw [List.foldl_map]
/-- The tenants that are first at the first k ticks. -/
def firsts (x : Int) (k : Nat) : List Int := (List.range k).map fun (i : Nat) => (x + (i : Int)) % 8
theorem firsts_next (x : Int) (k : Nat) : firsts x (k + 1) = firsts x k ++ [(x + (k : Int)) % 8] := by simp [firsts, List.range_succ]
theorem firsts_all (x : Int) : Maps.size (setB (firsts x 8)) = 8 := by
  have e : firsts x 8 = (List.range 8).map fun (i : Nat) => (x % 8 + (i : Int)) % 8 := by
    unfold firsts
    exact List.map_congr_left fun i _ => by omega
  rw [setB_of, Maps.size_setOf _ _ (fun y hy => by obtain ⟨z, _, rfl⟩ := List.mem_map.1 hy; trivial), e]
  have h : x % 8 = 0 ∨ x % 8 = 1 ∨ x % 8 = 2 ∨ x % 8 = 3 ∨ x % 8 = 4 ∨ x % 8 = 5 ∨ x % 8 = 6 ∨ x % 8 = 7 := by omega
  rcases h with h | h | h | h | h | h | h | h <;> rw [h] <;> rfl
theorem ownsMap_below {H : Type} {w w' : World} {P : Program} {k : TypeId} {R : Value → Option (DataW H × List MemPlace)} {b n B : Nat} {D : DataW H} (h : w.ownsMap P k R b n D) (hb : Below B w w') (hB : b < B) : w'.ownsMap P k R b n D := by
  obtain ⟨es, clock, h1, r⟩ := h
  exact ⟨es, clock, (hb.block b hB).trans h1, r⟩

/-- An int that is captured. -/
def Ob (w : World) (b : Nat) (x : Int) : Prop := w.heap[b]? = some (.cells #[.int .i64 x] 3 (0, 0))
theorem Ob.c0 {w : World} {b : Nat} {x : Int} (h : Ob w b x) : w.cell? ⟨b, 0, none⟩ = some (.int .i64 x) := by unfold Ob at h; simp [World.cell?, h]
theorem Ob.lt {w : World} {b : Nat} {x : Int} (h : Ob w b x) : b < w.heap.size := (Array.getElem?_eq_some_iff.1 h).1
theorem Ob.below {w w' : World} {b B : Nat} {x : Int} (h : Ob w b x) (hb : Below B w w') (hB : b < B) : Ob w' b x := (hb.block b hB).trans h
theorem Ob.call {w w' : World} {b : Nat} {x : Int} (h : Ob w b x) (hb : Below w.heap.size w w') : Ob w' b x := h.below hb h.lt
theorem ob_make (w : World) (x : Int) : Ob (w.alloc (.cells #[.int .i64 x] 3)) w.heap.size x := by
  show (w.heap.push _)[w.heap.size]? = _
  simp

/-- Where tenant t stands in an order that begins with f. -/
theorem at_place (f t : Int) (hf : 0 ≤ f ∧ f < 8) (ht : 0 ≤ t ∧ t < 8) : ∃ j : Nat, j < 8 ∧ tn f j = t ∧ ∀ i : Nat, i < j → tn f i ≠ t := by
  refine ⟨((t - f) % 8).toNat, by omega, by unfold tn; omega, fun i hi => by unfold tn; omega⟩

set_option maxHeartbeats 1000000 in
set_option maxRecDepth 100000 in
/-- The closure: what the first turn of tenant t has. -/
theorem pick_is (bb Bt : Nat) (g h : Nat → Int) (t p : Int) (w : World) (tb : Tb w bb g h) (ob : Ob w Bt t) (j : Nat) (hj : j < 8) (hg : g j = t) (hn : ∀ i : Nat, i < j → g i ≠ t) (hp : h j = p) :
    Calls Try.prog 14 #[.slice (some ⟨bb, 0, none⟩) 8 8, .pointer (some ⟨Bt, 0, none⟩)] w fun e w' => e = .returned (.int .i64 p) ∧ Below w.heap.size w w' := by
  have tb' : Hid (Tb w bb g h) := tb
  have ob' : Hid (Ob w Bt t) := ob
  have hg' : Hid (g j = t) := hg
  have hn' : Hid (∀ i : Nat, i < j → g i ≠ t) := hn
  have hp' : Hid (h j = p) := hp
  clear tb ob hg hn hp
  go_enter Try.func14, Try.ntmps14
  go_wp2_with fail
  go_loopw [8] (fun i wr => ∃ k : Nat, k ≤ j ∧ i = .int .i64 (k : Int) ∧ Hid (Below w.heap.size w wr)) (fun i _ => 8 - (intOf i).toNat)
  case atStart => exact ⟨0, by omega, rfl, Below.refl _ _⟩
  case round =>
    obtain ⟨k, hk, rfl, hbw⟩ := hrel
    have hlt : k < 8 := by omega
    have tt := tb'.out.call hbw.out
    have oo := (ob'.out.call hbw.out)
    have c0 := tt.at0 k hlt
    have c1 := tt.at1 k hlt
    have hsz := hbw.out.size
    have hb2 : Hid (∀ o, Below w.heap.size w (wr.alloc o)) := fun o => hbw.out.alloc hsz o
    obtain ⟨P, hP⟩ : ∃ P, Hid (h k = P) := ⟨_, rfl⟩
    obtain ⟨G, hG⟩ : ∃ G, Hid (g k = G) := ⟨_, rfl⟩
    rw [hG.out] at c0
    rw [hP.out] at c1
    have ol := oo.lt
    have oc : (∀ o, (wr.alloc o).cell? ⟨Bt, 0, none⟩ = some (.int .i64 t)) := fun o => ((oo.below (below_alloc wr o) ol)).c0
    have oc0 := oo.c0
    clear tt oo
    by_cases hkj : k < j
    · have hGt : (G == t) = false := by
        have h : g k ≠ t := hn'.out k hkj
        rw [hG.out] at h
        simpa using h
      clear hG hP
      go_wp2_with fail
      go_roundw
      case rel => exact ⟨k + 1, by omega, by go_num, hb2.out _⟩
      case measure => simp [intOf]; omega
    · obtain rfl : k = j := by omega
      have hGt : (G == t) = true := by
        have h : g k = t := hg'.out
        rw [hG.out] at h
        simpa using h
      have hPp : Hid (P = p) := by
        have h : P = p := by rw [← hP.out]; exact hp'.out
        exact h
      clear hG hP
      go_wp2_with fail
      go_ret
      exact ⟨ret_int hPp.out, hb2.out _⟩
end Go.Proofs.Ytokcanmhhabecaa
