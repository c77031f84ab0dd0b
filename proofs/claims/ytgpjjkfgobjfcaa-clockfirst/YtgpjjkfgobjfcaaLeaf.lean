/- What the methods of a Clock do to its three cells, and what they tell; cordonbook.Within. -/
import Derived.Test.YtgpjjkfgobjfcaaRows
import Derived.WalkKit
import Derived.WalkSpells
import Derived.WalkLawsBesides
import Derived.Below
namespace Go.Proofs.Ytgpjjkfgobjfcaa
open Go.RowKit

theorem ret_int {k : IntKind} {a b : Int} (h : a = b) : Ending.returned (.int k a) = .returned (.int k b) := by rw [h]
theorem ret_bool {a b : Bool} (h : a = b) : Ending.returned (.bool a) = .returned (.bool b) := by rw [h]
theorem val_int {k : IntKind} {a b : Int} (h : a = b) : Value.int k a = .int k b := by rw [h]

def ck (m l s : Int) : Array Value := #[.int .i64 m, .int .i64 l, .int .i64 s]
/-- A Clock's block: the mark, how many were late, how many were seen. -/
def Clk (w : World) (b : Nat) (m l s : Int) : Prop := w.heap[b]? = some (.cells (ck m l s) 23 (0, 0))
theorem Clk.c0 {w : World} {b : Nat} {m l s : Int} (h : Clk w b m l s) : w.cell? ⟨b, 0, none⟩ = some (.int .i64 m) := by
  unfold Clk ck at h; simp [World.cell?, h]
theorem Clk.c1 {w : World} {b : Nat} {m l s : Int} (h : Clk w b m l s) : w.cell? ⟨b, 1, none⟩ = some (.int .i64 l) := by
  unfold Clk ck at h; simp [World.cell?, h]
theorem Clk.c2 {w : World} {b : Nat} {m l s : Int} (h : Clk w b m l s) : w.cell? ⟨b, 2, none⟩ = some (.int .i64 s) := by
  unfold Clk ck at h; simp [World.cell?, h]
theorem Clk.free {w : World} {b : Nat} {m l s : Int} (h : Clk w b m l s) (i : Nat) : w.frozen? ⟨b, i, none⟩ = false := by
  unfold Clk at h; simp [World.frozen?, h]
theorem Clk.lt {w : World} {b : Nat} {m l s : Int} (h : Clk w b m l s) : b < w.heap.size := (Array.getElem?_eq_some_iff.1 h).1
theorem Clk.below {w w' : World} {b B : Nat} {m l s : Int} (h : Clk w b m l s) (hb : Below B w w') (hB : b < B) : Clk w' b m l s := (hb.block b hB).trans h
theorem clk_new (w : World) : Clk (w.alloc (.cells #[.int .i64 0, .int .i64 0, .int .i64 0] 23)) w.heap.size 0 0 0 := by
  show (w.heap.push _)[w.heap.size]? = _
  simp [ck]
theorem Clk.set0 {w : World} {b : Nat} {m l s : Int} (h : Clk w b m l s) (x : Int) : Clk (w.setCell ⟨b, 0, none⟩ (.int .i64 x)) b x l s := by
  unfold Clk at *; simp [World.setCell, Array.getElem?_modify, h, ck]
theorem Clk.set1 {w : World} {b : Nat} {m l s : Int} (h : Clk w b m l s) (x : Int) : Clk (w.setCell ⟨b, 1, none⟩ (.int .i64 x)) b m x s := by
  unfold Clk at *; simp [World.setCell, Array.getElem?_modify, h, ck]
theorem Clk.set2 {w : World} {b : Nat} {m l s : Int} (h : Clk w b m l s) (x : Int) : Clk (w.setCell ⟨b, 2, none⟩ (.int .i64 x)) b m l x := by
  unfold Clk at *; simp [World.setCell, Array.getElem?_modify, h, ck]

/-- Nothing but block b has turned. -/
structure But (b : Nat) (w w' : World) : Prop where
  below : Below b w w'
  size : w'.heap.size = w.heap.size
  other : ∀ g, g ≠ b → w'.heap[g]? = w.heap[g]?
theorem But.refl (b : Nat) (w : World) : But b w w := ⟨Below.refl _ _, rfl, fun _ _ => rfl⟩
theorem But.set {b : Nat} {a w : World} (h : But b a w) (i : Nat) (u : Value) : But b a (w.setCell ⟨b, i, none⟩ u) :=
  ⟨h.below.setCell (Nat.le_refl _) u, by simpa [World.setCell] using h.size, fun g hg => (Below.heap_setCell _ _ _ _ hg).trans (h.other g hg)⟩
theorem But.cell {b : Nat} {w w' : World} (h : But b w w') {p : Addr} (hp : p.block ≠ b) : w'.cell? p = w.cell? p := World.cell?_of_block (w := w) (h.other p.block hp)
theorem But.frozen {b : Nat} {w w' : World} (h : But b w w') {p : Addr} (hp : p.block ≠ b) : w'.frozen? p = w.frozen? p := World.frozen?_of_block (w := w) (h.other p.block hp)
theorem But.clk {b g : Nat} {w w' : World} {m l s : Int} (h : But b w w') (hc : Clk w g m l s) (hg : g ≠ b) : Clk w' g m l s := (h.other g hg).trans hc

/-- What Advance answers, and the mark behind it. -/
def Adv (m t : Int) (p : Bool) (m' : Int) : Prop := (m < t ∧ t ≤ 1099512676352) ∧ p = true ∧ m' = t ∨ ¬ (m < t ∧ t ≤ 1099512676352) ∧ p = false ∧ m' = m
/-- clock.Clock.Advance. -/
theorem advance_any (b : Nat) (m l s t : Int) (w : World) (hc : Clk w b m l s) (p : Bool) (m' : Int) (hp : Adv m t p m') :
    Calls Try.prog 7 #[.pointer (some ⟨b, 0, none⟩), .int .i64 t] w fun e w' => e = .returned (.bool p) ∧ Clk w' b m' l s ∧ But b w w' := by
  have c0 := hc.c0
  have f0 := hc.free 0
  rcases hp with ⟨⟨h1, h2⟩, rfl, rfl⟩ | ⟨h, rfl, rfl⟩
  · go_enter Try.func7, Try.ntmps7
    go_wp2
    go_ret
    exact ⟨rfl, hc.set0 _, (But.refl _ _).set _ _⟩
  · by_cases h1 : m' < t
    · have h2 : ¬ t ≤ 1099512676352 := fun x => h ⟨h1, x⟩
      clear h
      go_enter Try.func7, Try.ntmps7
      go_wp2
      go_ret
      exact ⟨rfl, hc, But.refl _ _⟩
    · clear h
      go_enter Try.func7, Try.ntmps7
      go_wp2
      go_ret
      exact ⟨rfl, hc, But.refl _ _⟩

/-- What On answers, and the counts behind it. -/
def Ons (m l s t : Int) (p : Bool) (l' s' : Int) : Prop :=
  (0 ≤ t ∧ t ≤ 1099511627776) ∧ (t < m ∧ p = false ∧ l' = l + 1 ∧ s' = s + 1 ∨ m ≤ t ∧ p = true ∧ l' = l ∧ s' = s + 1) ∨ ¬ (0 ≤ t ∧ t ≤ 1099511627776) ∧ p = false ∧ l' = l ∧ s' = s
/-- clock.Clock.On. -/
theorem on_any (b : Nat) (m l s t : Int) (w : World) (hc : Clk w b m l s) (p : Bool) (l' s' : Int) (hp : Ons m l s t p l' s') (hl : 0 ≤ l ∧ l ≤ 1000) (hs : 0 ≤ s ∧ s ≤ 1000) :
    Calls Try.prog 8 #[.pointer (some ⟨b, 0, none⟩), .int .i64 t] w fun e w' => e = .returned (.bool p) ∧ Clk w' b m l' s' ∧ But b w w' := by
  have c0 := hc.c0
  have c1 := hc.c1
  have c2 := hc.c2
  have f1 := hc.free 1
  have f2 := hc.free 2
  obtain ⟨l1, l2⟩ := hl
  obtain ⟨s1, s2⟩ := hs
  rcases hp with ⟨⟨h1, h2⟩, ⟨h3, rfl, rfl, rfl⟩ | ⟨h3, rfl, rfl, rfl⟩⟩ | ⟨h, rfl, rfl, rfl⟩
  · have hc2 := hc.set2 (s + 1)
    go_enter Try.func8, Try.ntmps8
    go_wp2
    go_ret
    exact ⟨rfl, hc2.set1 _, ((But.refl _ _).set _ _).set _ _⟩
  · have hc2 := hc.set2 (s + 1)
    go_enter Try.func8, Try.ntmps8
    go_wp2
    go_ret
    exact ⟨rfl, hc2, (But.refl _ _).set _ _⟩
  · by_cases h1 : 0 ≤ t
    · have h2 : ¬ t ≤ 1099511627776 := fun x => h ⟨h1, x⟩
      clear h
      go_enter Try.func8, Try.ntmps8
      go_wp2
      go_ret
      exact ⟨rfl, hc, But.refl _ _⟩
    · clear h
      go_enter Try.func8, Try.ntmps8
      go_wp2
      go_ret
      exact ⟨rfl, hc, But.refl _ _⟩

def cv (m l s : Int) : Value := .agg #[.int .i64 m, .int .i64 l, .int .i64 s]
theorem late_any (m l s : Int) (w : World) : Calls Try.prog 9 #[.agg #[.int .i64 m, .int .i64 l, .int .i64 s]] w fun e w' => e = .returned (.int .i64 l) ∧ Below w.heap.size w w' := by
  go_enter Try.func9, Try.ntmps9
  go_wp2
  go_ret
  exact ⟨rfl, (Below.refl _ _).alloc (Nat.le_refl _) _⟩
theorem seen_any (m l s : Int) (w : World) : Calls Try.prog 10 #[.agg #[.int .i64 m, .int .i64 l, .int .i64 s]] w fun e w' => e = .returned (.int .i64 s) ∧ Below w.heap.size w w' := by
  go_enter Try.func10, Try.ntmps10
  go_wp2
  go_ret
  exact ⟨rfl, (Below.refl _ _).alloc (Nat.le_refl _) _⟩
theorem mark_any (m l s : Int) (w : World) : Calls Try.prog 11 #[.agg #[.int .i64 m, .int .i64 l, .int .i64 s]] w fun e w' => e = .returned (.int .i64 m) ∧ Below w.heap.size w w' := by
  go_enter Try.func11, Try.ntmps11
  go_wp2
  go_ret
  exact ⟨rfl, (Below.refl _ _).alloc (Nat.le_refl _) _⟩

/-- cordonbook.Within. -/
theorem within_any (n lo hi : Int) (w : World) (hlo : -1000 ≤ lo) (h : lo ≤ hi) (h1 : hi ≤ 4611686018427387904) :
    Calls Try.prog 12 #[.int .i64 n, .int .i64 lo, .int .i64 hi] w fun e w' => (∃ k : Int, lo ≤ k ∧ k ≤ hi ∧ e = .returned (.int .i64 k)) ∧ w' = w := by
  have hb1 : -(hi - lo + 1) < n.tmod (hi - lo + 1) := Int.lt_tmod_of_pos _ (by omega)
  have hb2 : n.tmod (hi - lo + 1) < hi - lo + 1 := Int.tmod_lt_of_pos _ (by omega)
  by_cases hn : n.tmod (hi - lo + 1) < 0
  · go_enter Try.func12, Try.ntmps12
    go_wp2
    go_ret
    exact ⟨⟨lo + (n.tmod (hi - lo + 1) + hi - lo + 1), by omega, by omega, rfl⟩, rfl⟩
  · have hn' : 0 ≤ n.tmod (hi - lo + 1) := by omega
    go_enter Try.func12, Try.ntmps12
    go_wp2
    go_ret
    exact ⟨⟨lo + n.tmod (hi - lo + 1), by omega, by omega, rfl⟩, rfl⟩
end Go.Proofs.Ytgpjjkfgobjfcaa
