/- What event.Compare computes of any two events. -/
import Derived.Test.YtakemkfnaebmiaaLeaf
import Derived.Deep.RegionHeld3
import Derived.Deep.DrawnRows
namespace Go.Proofs.Ytakemkfnaebmiaa
open Go.RowKit M

theorem or4_any (c0 c1 c2 c3 : Int) (b cap : Nat) (w : World)
    (h0 : w.cell? ⟨b, 0, none⟩ = some (.int .i64 c0)) (h1 : w.cell? ⟨b, 1, none⟩ = some (.int .i64 c1)) (h2 : w.cell? ⟨b, 2, none⟩ = some (.int .i64 c2)) (h3 : w.cell? ⟨b, 3, none⟩ = some (.int .i64 c3)) :
    Calls Try.prog 11 #[.slice (some ⟨b, 0, none⟩) 4 cap] w fun e w' => e = .returned (.int .i64 (orL [c0, c1, c2, c3])) ∧ w' = w :=
  or_any [c0, c1, c2, c3] b 0 cap w (by simp) fun j hj => by
    match j, hj with
    | 0, _ => simpa using h0
    | 1, _ => simpa using h1
    | 2, _ => simpa using h2
    | 3, _ => simpa using h3

theorem new_cell {w : World} {b j : Nat} {cs : Array Value} {T : TypeId} {v : Value} (hb : b = w.heap.size) (h : cs[j]? = some v) : (w.alloc (.cells cs T)).cell? ⟨b, j, none⟩ = some v := by
  subst hb; simp [h]
attribute [local go_sem ↓] Go.wp_at_zero Go.wp_at_succ
set_option maxHeartbeats 1000000 in
/-- event.Compare. -/
theorem compare_any (a b : Ev) (w : World) :
    Calls Try.prog 7 #[ev a, ev b] w fun e w' => e = .returned (.int .i64 (cmpE a b)) ∧ Below w.heap.size w w' := by
  obtain ⟨t, k, v, l⟩ := a
  obtain ⟨t', k', v', l'⟩ := b
  simp only [ev]
  have hE : Hid (cmpE ⟨t, k, v, l⟩ ⟨t', k', v', l'⟩ = orL [cmpI t t', cmpI k k', cmpI v v', cmpI l l']) := rfl
  obtain ⟨r, hr⟩ : ∃ r, Hid (cmpE ⟨t, k, v, l⟩ ⟨t', k', v', l'⟩ = r) := ⟨_, rfl⟩
  rw [hr.out] at hE ⊢
  clear hr
  go_enter Try.func7, Try.ntmps7
  go_wp2_with fail
  go_region_held3 (fun w' => w'.cell? ⟨w.heap.size, 0, none⟩ = some (.int .i64 t) ∧ w'.cell? ⟨w.heap.size, 1, none⟩ = some (.int .i64 k) ∧ w'.cell? ⟨w.heap.size, 2, none⟩ = some (.int .i64 v) ∧ w'.cell? ⟨w.heap.size, 3, none⟩ = some (.int .u64 l)
      ∧ w'.cell? ⟨w.heap.size + 1, 0, none⟩ = some (.int .i64 t') ∧ w'.cell? ⟨w.heap.size + 1, 1, none⟩ = some (.int .i64 k') ∧ w'.cell? ⟨w.heap.size + 1, 2, none⟩ = some (.int .i64 v') ∧ w'.cell? ⟨w.heap.size + 1, 3, none⟩ = some (.int .u64 l')) (go_keep)
    (first
      | (go_at_call 12; refine (cmp_i _ _ _).mono ?_; rintro e w' ⟨rfl, rfl⟩)
      | (go_at_call 13; refine (cmp_u _ _ _).mono ?_; rintro e w' ⟨rfl, rfl⟩)
      | (go_at_call 11; refine (or4_any (cmpI t t') (cmpI k k') (cmpI v v') (cmpI l l') _ _ _ (by simp; exact new_cell (by simp) rfl) (by simp; exact new_cell (by simp) rfl) (by simp; exact new_cell (by simp) rfl) (by simp; exact new_cell (by simp) rfl)).mono ?_; rintro e w' ⟨rfl, rfl⟩))
  go_wp2
  go_ret
  exact ⟨ret_int hE.out.symm, (((below_alloc w _).alloc (by simp) _).alloc (by simp; omega) _).drew⟩
end Go.Proofs.Ytakemkfnaebmiaa
