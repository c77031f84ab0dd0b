/- What pane.compare and slices.BinarySearchFunc answer. -/
import Derived.Test.YtnamjnopicghhaaRow
import Derived.Deep.RegionHeld3
import Derived.Deep.DrawnRows
import Derived.Deep.DeepCutAuto
import Derived.Deep.CutBlock
import Derived.Deep.QuietTactic
namespace Go.Proofs.Ytnamjnopicghhaa
open Go.RowKit M
set_option linter.unusedVariables false

def cmpP (p : Pn) (s k : Int) : Int := orL [cmpI p.s s, cmpI p.k k]
theorem cmpP_bef (p : Pn) (s k : Int) : (cmpP p s k < 0 ↔ bef s k p = true) ∧ (cmpP p s k = 0 ↔ isAt s k p = true) := by
  rw [bef_iff, isAt_iff]
  simp only [cmpP, orL]
  rcases cmpI_cases p.s s with ⟨h, e⟩ | ⟨h, e⟩ | ⟨h, e⟩
  · rw [e]; simp; omega
  · rw [e]; simp; omega
  · rw [e]
    rcases cmpI_cases p.k k with ⟨h', e⟩ | ⟨h', e⟩ | ⟨h', e⟩ <;> rw [e] <;> simp <;> omega
theorem or2_any (c0 c1 : Int) (b cap : Nat) (w : World)
    (h0 : w.cell? ⟨b, 0, none⟩ = some (.int .i64 c0)) (h1 : w.cell? ⟨b, 1, none⟩ = some (.int .i64 c1)) :
    Calls Try.prog 96 #[.slice (some ⟨b, 0, none⟩) 2 cap] w fun e w' => e = .returned (.int .i64 (orL [c0, c1])) ∧ w' = w :=
  or_any [c0, c1] b 0 cap w (by simp) fun j hj => by
    match j, hj with
    | 0, _ => simpa using h0
    | 1, _ => simpa using h1
theorem new_cell {w : World} {b j : Nat} {cs : Array Value} {T : TypeId} {v : Value} (hb : b = w.heap.size) (h : cs[j]? = some v) : (w.alloc (.cells cs T)).cell? ⟨b, j, none⟩ = some v := by
  subst hb; simp [h]
attribute [local go_sem ↓] Go.wp_at_zero Go.wp_at_succ
set_option maxHeartbeats 1000000 in
/-- pane.compare. -/
theorem compare_is (K : Int) (p : Pn) (s k r : Int) (w : World) (hr : cmpP p s k = r) :
    Calls Try.prog 90 #[pv K p, .agg #[.int .i64 s, .int .i64 k]] w fun e w' => e = .returned (.int .i64 r) ∧ Below w.heap.size w w' := by
  obtain ⟨ps, pk, pc, pvv, pl⟩ := p
  simp only [pv]
  have hE : Hid (orL [cmpI ps s, cmpI pk k] = r) := hr
  clear hr
  go_enter Try.func90, Try.ntmps90
  go_wp2_with fail
  go_region_held3 (fun w' => w'.cell? ⟨w.heap.size, 0, none⟩ = some (.int .i64 ps) ∧ w'.cell? ⟨w.heap.size, 1, none⟩ = some (.int .i64 pk)
      ∧ w'.cell? ⟨w.heap.size + 1, 0, none⟩ = some (.int .i64 s) ∧ w'.cell? ⟨w.heap.size + 1, 1, none⟩ = some (.int .i64 k)) (go_keep)
    (first
      | (go_at_call 97; refine (cmp_i _ _ _).mono ?_; rintro e w' ⟨rfl, rfl⟩)
      | (go_at_call 96; refine (or2_any (cmpI ps s) (cmpI pk k) _ _ _ (by simp; exact new_cell (by simp) rfl) (by simp; exact new_cell (by simp) rfl)).mono ?_; rintro e w' ⟨rfl, rfl⟩))
  go_wp2
  go_ret
  exact ⟨ret_int hE.out, (((below_alloc w _).alloc (by simp) _).alloc (by simp; omega) _).drew⟩

theorem take_at {P : Program} {ops : Array Oper} {Q : Exit → Act → World → Prop} {md : Region.Mode} {S : World → Prop} {i k : Nat} {oi : Oper} {v : Value} {fuel : Nat} {listed : Array Bool} {a : Act} {w : World} (hi : ops[i]? = some oi) (hd : oi.dst = some k)
    (hs : Region.noSelect ops = true) (hf : Region.free md ops listed i = true) (hr : (Region.ready md ops listed).contains i = true)
    (hQ : ∀ c a w, Q (.panic c) (a.put (some k) v) w → Q (.panic c) a w) (hy : YieldsIf P ops S oi v a) (hS : S w)
    (h : wpAnyH P md ops Q S fuel (listed.setIfInBounds i true) (a.put (some k) v) w) : wpAnyH P md ops Q S (fuel + 1) listed a w := by
  rw [← hd] at h hQ
  exact wpAnyH_take hi hs hf hr hQ hy hS h
/-- A world becomes a letter: what is known of it alone is kept. -/
theorem world_gen {c : Code} {P : Program} {Q : Exit → Act → World → Prop} {a : Act} {W : World} (R : World → Prop) (h0 : R W) (h : ∀ W2, R W2 → c.wp P Q a W2) : c.wp P Q a W := h W h0
/-- The place's box. -/
def Plc (w : World) (b : Nat) (s k : Int) : Prop := w.heap[b]? = some (.cells #[.int .i64 s, .int .i64 k] 126 (0, 0))
theorem Plc.c {w : World} {b : Nat} {s k : Int} (h : Plc w b s k) : w.cell? ⟨b, 0, none⟩ = some (.int .i64 s) ∧ w.cell? ⟨b, 1, none⟩ = some (.int .i64 k) := by
  unfold Plc at h; exact ⟨by simp [World.cell?, h], by simp [World.cell?, h]⟩
theorem Plc.lt {w : World} {b : Nat} {s k : Int} (h : Plc w b s k) : b < w.heap.size := (Array.getElem?_eq_some_iff.1 h).1
theorem Plc.below {w w' : World} {b : Nat} {s k : Int} (h : Plc w b s k) (hb : Below w.heap.size w w') : Plc w' b s k := (hb.block b h.lt).trans h
theorem plc_new (w : World) (s k : Int) : Plc (w.alloc (.cells #[.int .i64 s, .int .i64 k] 126)) w.heap.size s k := by
  show (w.heap.push _)[w.heap.size]? = _
  simp
theorem PRow.below {w w' : World} {g cap : Nat} {K : Int} {L : List Pn} (h : PRow w g cap K L) (hb : Below w.heap.size w w') : PRow w' g cap K L := h.keep (hb.block g h.lt)
theorem below_call {a w w' : World} (h : Below a.heap.size a w) (hb : Below w.heap.size w w') : Below a.heap.size a w' := h.trans (hb.mono h.size)
end Go.Proofs.Ytnamjnopicghhaa
