/- What the methods of a Quota do to its three cells, and what they tell. -/
import Derived.Test.YtldfdgbbfdedkaaRows
import Derived.Test.YtldfdgbbfdedkaaMath
import Derived.WalkKit
import Derived.WalkSpells
import Derived.WalkLawsBesides
import Derived.Below
namespace Go.Proofs.Ytldfdgbbfdedkaa
open Go.RowKit M
set_option linter.unusedVariables false

theorem ret_int {k : IntKind} {a b : Int} (h : a = b) : Ending.returned (.int k a) = .returned (.int k b) := by rw [h]
theorem ret_bool {a b : Bool} (h : a = b) : Ending.returned (.bool a) = .returned (.bool b) := by rw [h]
theorem val_int {k : IntKind} {a b : Int} (h : a = b) : Value.int k a = .int k b := by rw [h]
theorem val_bool {a b : Bool} (h : a = b) : Value.bool a = .bool b := by rw [h]
theorem world_gen {P : Program} {c : Code} {Q : Exit → Act → World → Prop} {a : Act} {W : World} (R : World → Prop) (h : R W) (k : ∀ W2, R W2 → c.wp P Q a W2) : c.wp P Q a W := k W h
/-- One more call behind what is kept. -/
theorem keep_call {B : Nat} {a w w' : World} (h : Below B a w) (b : Below w.heap.size w w') (hB : B ≤ w.heap.size) : Below B a w' := h.trans (b.mono hB)

def qk (l s f : Int) : Array Value := #[.int .i64 l, .int .i64 s, .int .i64 f]
/-- A Quota's block: what is left, what was spent, how many were refused. -/
def Qt (w : World) (b : Nat) (l s f : Int) : Prop := w.heap[b]? = some (.cells (qk l s f) 23 (0, 0))
theorem Qt.c0 {w : World} {b : Nat} {l s f : Int} (h : Qt w b l s f) : w.cell? ⟨b, 0, none⟩ = some (.int .i64 l) := by
  unfold Qt qk at h; simp [World.cell?, h]
theorem Qt.c1 {w : World} {b : Nat} {l s f : Int} (h : Qt w b l s f) : w.cell? ⟨b, 1, none⟩ = some (.int .i64 s) := by
  unfold Qt qk at h; simp [World.cell?, h]
theorem Qt.c2 {w : World} {b : Nat} {l s f : Int} (h : Qt w b l s f) : w.cell? ⟨b, 2, none⟩ = some (.int .i64 f) := by
  unfold Qt qk at h; simp [World.cell?, h]
theorem Qt.free {w : World} {b : Nat} {l s f : Int} (h : Qt w b l s f) (i : Nat) : w.frozen? ⟨b, i, none⟩ = false := by
  unfold Qt at h; simp [World.frozen?, h]
theorem Qt.lt {w : World} {b : Nat} {l s f : Int} (h : Qt w b l s f) : b < w.heap.size := (Array.getElem?_eq_some_iff.1 h).1
theorem Qt.below {w w' : World} {b B : Nat} {l s f : Int} (h : Qt w b l s f) (hb : Below B w w') (hB : b < B) : Qt w' b l s f := (hb.block b hB).trans h
theorem Qt.call {w w' : World} {b : Nat} {l s f : Int} (h : Qt w b l s f) (hb : Below w.heap.size w w') : Qt w' b l s f := h.below hb h.lt
theorem qt_new (w : World) (l s f : Int) : Qt (w.alloc (.cells #[.int .i64 l, .int .i64 s, .int .i64 f] 23)) w.heap.size l s f := by
  show (w.heap.push _)[w.heap.size]? = _
  simp [qk]
theorem Qt.set0 {w : World} {b : Nat} {l s f : Int} (h : Qt w b l s f) (x : Int) : Qt (w.setCell ⟨b, 0, none⟩ (.int .i64 x)) b x s f := by
  unfold Qt at *; simp [World.setCell, Array.getElem?_modify, h, qk]
theorem Qt.set1 {w : World} {b : Nat} {l s f : Int} (h : Qt w b l s f) (x : Int) : Qt (w.setCell ⟨b, 1, none⟩ (.int .i64 x)) b l x f := by
  unfold Qt at *; simp [World.setCell, Array.getElem?_modify, h, qk]
theorem Qt.set2 {w : World} {b : Nat} {l s f : Int} (h : Qt w b l s f) (x : Int) : Qt (w.setCell ⟨b, 2, none⟩ (.int .i64 x)) b l s x := by
  unfold Qt at *; simp [World.setCell, Array.getElem?_modify, h, qk]

/-- Of what was there nothing but block b has turned. -/
structure But (b : Nat) (w w' : World) : Prop where
  below : Below b w w'
  size : w.heap.size ≤ w'.heap.size
  other : ∀ g, g < w.heap.size → g ≠ b → w'.heap[g]? = w.heap[g]?
theorem But.refl (b : Nat) (w : World) : But b w w := ⟨Below.refl _ _, Nat.le_refl _, fun _ _ _ => rfl⟩
theorem But.set {b : Nat} {a w : World} (h : But b a w) (i : Nat) (u : Value) : But b a (w.setCell ⟨b, i, none⟩ u) :=
  ⟨h.below.setCell (Nat.le_refl _) u, by simpa [World.setCell] using h.size, fun g hl hg => (Below.heap_setCell _ _ _ _ hg).trans (h.other g hl hg)⟩
theorem But.qt {b g : Nat} {w w' : World} {l s f : Int} (h : But b w w') (hc : Qt w g l s f) (hg : g ≠ b) : Qt w' g l s f := (h.other g hc.lt hg).trans hc
theorem But.cell {b : Nat} {w w' : World} (h : But b w w') {p : Addr} (hl : p.block < w.heap.size) (hp : p.block ≠ b) : w'.cell? p = w.cell? p := World.cell?_of_block (w := w) (h.other p.block hl hp)
theorem keep_but {B b : Nat} {a w w' : World} (h : Below B a w) (hb : But b w w') (hB : B ≤ b) : Below B a w' := h.trans (hb.below.mono hB)

/-- quota.Of. -/
theorem of_any (m x : Int) (w : World) (hx : 0 ≤ m ∧ x = m ∨ m < 0 ∧ x = 0) : Calls Try.prog 5 #[.int .i64 m] w fun e w' => e = .returned (.agg #[.int .i64 x, .int .i64 0, .int .i64 0]) ∧ Below w.heap.size w w' := by
  rcases hx with ⟨h, rfl⟩ | ⟨h, rfl⟩
  · by_cases h0 : x = 0
    · subst h0
      go_enter Try.func5, Try.ntmps5
      go_wp2
      exact bodyPost_ret (v := .agg #[.int .i64 0, .int .i64 0, .int .i64 0]) (by simp [results, Try.results5, go_sem]) rfl ⟨rfl, (Below.refl _ _).alloc (Nat.le_refl _) _⟩
    · have h1 : ¬ x ≤ 0 := by omega
      go_enter Try.func5, Try.ntmps5
      go_wp2
      exact bodyPost_ret (v := .agg #[.int .i64 x, .int .i64 0, .int .i64 0]) (by simp [results, Try.results5, go_sem]) rfl ⟨rfl, (Below.refl _ _).alloc (Nat.le_refl _) _⟩
  · have h1 : m ≤ 0 := by omega
    go_enter Try.func5, Try.ntmps5
    go_wp2
    exact bodyPost_ret (v := .agg #[.int .i64 0, .int .i64 0, .int .i64 0]) (by simp [results, Try.results5, go_sem]) rfl ⟨rfl, (Below.refl _ _).alloc (Nat.le_refl _) _⟩
theorem left_any (l s f : Int) (w : World) : Calls Try.prog 7 #[.agg #[.int .i64 l, .int .i64 s, .int .i64 f]] w fun e w' => e = .returned (.int .i64 l) ∧ Below w.heap.size w w' := by
  go_enter Try.func7, Try.ntmps7
  go_wp2
  go_ret
  exact ⟨rfl, (Below.refl _ _).alloc (Nat.le_refl _) _⟩
theorem spent_any (l s f : Int) (w : World) : Calls Try.prog 8 #[.agg #[.int .i64 l, .int .i64 s, .int .i64 f]] w fun e w' => e = .returned (.int .i64 s) ∧ Below w.heap.size w w' := by
  go_enter Try.func8, Try.ntmps8
  go_wp2
  go_ret
  exact ⟨rfl, (Below.refl _ _).alloc (Nat.le_refl _) _⟩
theorem refused_any (l s f : Int) (w : World) : Calls Try.prog 9 #[.agg #[.int .i64 l, .int .i64 s, .int .i64 f]] w fun e w' => e = .returned (.int .i64 f) ∧ Below w.heap.size w w' := by
  go_enter Try.func9, Try.ntmps9
  go_wp2
  go_ret
  exact ⟨rfl, (Below.refl _ _).alloc (Nat.le_refl _) _⟩
/-- Refuse. -/
theorem refuse_any (b : Nat) (l s f : Int) (w : World) (hc : Qt w b l s f) (hf : 0 ≤ f ∧ f ≤ 1000000) :
    Calls Try.prog 10 #[.pointer (some ⟨b, 0, none⟩)] w fun e w' => e = .returned (.tuple #[]) ∧ Qt w' b l s (f + 1) ∧ But b w w' := by
  have c2 := hc.c2
  have f2 := hc.free 2
  obtain ⟨hf1, hf2⟩ := hf
  go_enter Try.func10, Try.ntmps10
  go_wp2
  go_end0
  exact ⟨rfl, hc.set2 _, (But.refl _ _).set _ _⟩
end Go.Proofs.Ytldfdgbbfdedkaa
