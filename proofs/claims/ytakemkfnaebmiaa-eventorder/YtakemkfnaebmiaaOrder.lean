/- EventOrder, walked: of any three events it returns true, and nothing that was there is written. -/
import Derived.Test.YtakemkfnaebmiaaRuns
import Derived.Deep.RegionHeld3
import Derived.Deep.DrawnRows
import Derived.Deep.DeepCutAuto
namespace Go.Proofs.Ytakemkfnaebmiaa
open Go.RowKit M

theorem boxes_keep (w0 w w' : World) (t1 k1 v1 t2 k2 v2 t3 k3 v3 : Int) (l1 l2 l3 : Nat) (hb : Below w.heap.size w w')
    (h : w0.heap.size + 1 + 1 < w.heap.size ∧ w.cell? ⟨w0.heap.size, 0, none⟩ = some (.int .i64 t1) ∧ w.cell? ⟨w0.heap.size, 1, none⟩ = some (.int .i64 k1) ∧ w.cell? ⟨w0.heap.size, 2, none⟩ = some (.int .i64 v1) ∧ w.cell? ⟨w0.heap.size, 3, none⟩ = some (.int .u64 l1) ∧ w.cell? ⟨w0.heap.size + 1, 0, none⟩ = some (.int .i64 t2) ∧ w.cell? ⟨w0.heap.size + 1, 1, none⟩ = some (.int .i64 k2) ∧ w.cell? ⟨w0.heap.size + 1, 2, none⟩ = some (.int .i64 v2) ∧ w.cell? ⟨w0.heap.size + 1, 3, none⟩ = some (.int .u64 l2) ∧ w.cell? ⟨w0.heap.size + 1 + 1, 0, none⟩ = some (.int .i64 t3) ∧ w.cell? ⟨w0.heap.size + 1 + 1, 1, none⟩ = some (.int .i64 k3) ∧ w.cell? ⟨w0.heap.size + 1 + 1, 2, none⟩ = some (.int .i64 v3) ∧ w.cell? ⟨w0.heap.size + 1 + 1, 3, none⟩ = some (.int .u64 l3)) :
    w0.heap.size + 1 + 1 < w'.heap.size ∧ w'.cell? ⟨w0.heap.size, 0, none⟩ = some (.int .i64 t1) ∧ w'.cell? ⟨w0.heap.size, 1, none⟩ = some (.int .i64 k1) ∧ w'.cell? ⟨w0.heap.size, 2, none⟩ = some (.int .i64 v1) ∧ w'.cell? ⟨w0.heap.size, 3, none⟩ = some (.int .u64 l1) ∧ w'.cell? ⟨w0.heap.size + 1, 0, none⟩ = some (.int .i64 t2) ∧ w'.cell? ⟨w0.heap.size + 1, 1, none⟩ = some (.int .i64 k2) ∧ w'.cell? ⟨w0.heap.size + 1, 2, none⟩ = some (.int .i64 v2) ∧ w'.cell? ⟨w0.heap.size + 1, 3, none⟩ = some (.int .u64 l2) ∧ w'.cell? ⟨w0.heap.size + 1 + 1, 0, none⟩ = some (.int .i64 t3) ∧ w'.cell? ⟨w0.heap.size + 1 + 1, 1, none⟩ = some (.int .i64 k3) ∧ w'.cell? ⟨w0.heap.size + 1 + 1, 2, none⟩ = some (.int .i64 v3) ∧ w'.cell? ⟨w0.heap.size + 1 + 1, 3, none⟩ = some (.int .u64 l3) := by
  have hc : ∀ p : Addr, p.block < w.heap.size → w'.cell? p = w.cell? p := fun p hp => hb.cell (p := p) hp
  have hs := hb.size
  obtain ⟨h0, h1, h2, h3, h4, h5, h6, h7, h8, h9, h10, h11, h12⟩ := h
  refine ⟨by omega, ?_, ?_, ?_, ?_, ?_, ?_, ?_, ?_, ?_, ?_, ?_, ?_⟩
  all_goals (rw [hc _ (by simp only; omega)]; assumption)

theorem boxes_new (w w' : World) (t1 k1 v1 t2 k2 v2 t3 k3 v3 : Int) (l1 l2 l3 : Nat) (hw : w' = ((w.alloc (.cells #[.int .i64 t1, .int .i64 k1, .int .i64 v1, .int .u64 l1] 24)).alloc (.cells #[.int .i64 t2, .int .i64 k2, .int .i64 v2, .int .u64 l2] 24)).alloc (.cells #[.int .i64 t3, .int .i64 k3, .int .i64 v3, .int .u64 l3] 24)) :
    Below w.heap.size w w' ∧ w.heap.size + 1 + 1 < w'.heap.size ∧ w'.cell? ⟨w.heap.size, 0, none⟩ = some (.int .i64 t1) ∧ w'.cell? ⟨w.heap.size, 1, none⟩ = some (.int .i64 k1) ∧ w'.cell? ⟨w.heap.size, 2, none⟩ = some (.int .i64 v1) ∧ w'.cell? ⟨w.heap.size, 3, none⟩ = some (.int .u64 l1) ∧ w'.cell? ⟨w.heap.size + 1, 0, none⟩ = some (.int .i64 t2) ∧ w'.cell? ⟨w.heap.size + 1, 1, none⟩ = some (.int .i64 k2) ∧ w'.cell? ⟨w.heap.size + 1, 2, none⟩ = some (.int .i64 v2) ∧ w'.cell? ⟨w.heap.size + 1, 3, none⟩ = some (.int .u64 l2) ∧ w'.cell? ⟨w.heap.size + 1 + 1, 0, none⟩ = some (.int .i64 t3) ∧ w'.cell? ⟨w.heap.size + 1 + 1, 1, none⟩ = some (.int .i64 k3) ∧ w'.cell? ⟨w.heap.size + 1 + 1, 2, none⟩ = some (.int .i64 v3) ∧ w'.cell? ⟨w.heap.size + 1 + 1, 3, none⟩ = some (.int .u64 l3) := by
  subst hw
  have c1 : ∀ (x : World) (o : Obj) (p : Addr), p.block < x.heap.size → (x.alloc o).cell? p = x.cell? p := fun x o p hp => (below_alloc x o).cell hp
  refine ⟨((below_alloc w _).alloc (by simp) _).alloc (by simp; omega) _, by simp, ?_, ?_, ?_, ?_, ?_, ?_, ?_, ?_, new_cell (by simp) rfl, new_cell (by simp) rfl, new_cell (by simp) rfl, new_cell (by simp) rfl⟩
  all_goals (rw [c1 _ _ _ (by simp only [World.size_alloc]; omega)]; first | exact new_cell (by simp) rfl | (rw [c1 _ _ _ (by simp only [World.size_alloc]; omega)]; exact new_cell (by simp) rfl))
theorem keep_drew {w w' : World} {t1 k1 v1 t2 k2 v2 t3 k3 v3 : Int} {l1 l2 l3 : Nat} (h : Below w.heap.size w w' ∧ w.heap.size + 1 + 1 < w'.heap.size ∧ w'.cell? ⟨w.heap.size, 0, none⟩ = some (.int .i64 t1) ∧ w'.cell? ⟨w.heap.size, 1, none⟩ = some (.int .i64 k1) ∧ w'.cell? ⟨w.heap.size, 2, none⟩ = some (.int .i64 v1) ∧ w'.cell? ⟨w.heap.size, 3, none⟩ = some (.int .u64 l1) ∧ w'.cell? ⟨w.heap.size + 1, 0, none⟩ = some (.int .i64 t2) ∧ w'.cell? ⟨w.heap.size + 1, 1, none⟩ = some (.int .i64 k2) ∧ w'.cell? ⟨w.heap.size + 1, 2, none⟩ = some (.int .i64 v2) ∧ w'.cell? ⟨w.heap.size + 1, 3, none⟩ = some (.int .u64 l2) ∧ w'.cell? ⟨w.heap.size + 1 + 1, 0, none⟩ = some (.int .i64 t3) ∧ w'.cell? ⟨w.heap.size + 1 + 1, 1, none⟩ = some (.int .i64 k3) ∧ w'.cell? ⟨w.heap.size + 1 + 1, 2, none⟩ = some (.int .i64 v3) ∧ w'.cell? ⟨w.heap.size + 1 + 1, 3, none⟩ = some (.int .u64 l3)) :
    Below w.heap.size w w'.drew ∧ w.heap.size + 1 + 1 < w'.drew.heap.size ∧ w'.drew.cell? ⟨w.heap.size, 0, none⟩ = some (.int .i64 t1) ∧ w'.drew.cell? ⟨w.heap.size, 1, none⟩ = some (.int .i64 k1) ∧ w'.drew.cell? ⟨w.heap.size, 2, none⟩ = some (.int .i64 v1) ∧ w'.drew.cell? ⟨w.heap.size, 3, none⟩ = some (.int .u64 l1) ∧ w'.drew.cell? ⟨w.heap.size + 1, 0, none⟩ = some (.int .i64 t2) ∧ w'.drew.cell? ⟨w.heap.size + 1, 1, none⟩ = some (.int .i64 k2) ∧ w'.drew.cell? ⟨w.heap.size + 1, 2, none⟩ = some (.int .i64 v2) ∧ w'.drew.cell? ⟨w.heap.size + 1, 3, none⟩ = some (.int .u64 l2) ∧ w'.drew.cell? ⟨w.heap.size + 1 + 1, 0, none⟩ = some (.int .i64 t3) ∧ w'.drew.cell? ⟨w.heap.size + 1 + 1, 1, none⟩ = some (.int .i64 k3) ∧ w'.drew.cell? ⟨w.heap.size + 1 + 1, 2, none⟩ = some (.int .i64 v3) ∧ w'.drew.cell? ⟨w.heap.size + 1 + 1, 3, none⟩ = some (.int .u64 l3) := ⟨h.1.drew, h.2⟩
theorem keep_call {w w1 w2 : World} {t1 k1 v1 t2 k2 v2 t3 k3 v3 : Int} {l1 l2 l3 : Nat} (h : Below w.heap.size w w1 ∧ w.heap.size + 1 + 1 < w1.heap.size ∧ w1.cell? ⟨w.heap.size, 0, none⟩ = some (.int .i64 t1) ∧ w1.cell? ⟨w.heap.size, 1, none⟩ = some (.int .i64 k1) ∧ w1.cell? ⟨w.heap.size, 2, none⟩ = some (.int .i64 v1) ∧ w1.cell? ⟨w.heap.size, 3, none⟩ = some (.int .u64 l1) ∧ w1.cell? ⟨w.heap.size + 1, 0, none⟩ = some (.int .i64 t2) ∧ w1.cell? ⟨w.heap.size + 1, 1, none⟩ = some (.int .i64 k2) ∧ w1.cell? ⟨w.heap.size + 1, 2, none⟩ = some (.int .i64 v2) ∧ w1.cell? ⟨w.heap.size + 1, 3, none⟩ = some (.int .u64 l2) ∧ w1.cell? ⟨w.heap.size + 1 + 1, 0, none⟩ = some (.int .i64 t3) ∧ w1.cell? ⟨w.heap.size + 1 + 1, 1, none⟩ = some (.int .i64 k3) ∧ w1.cell? ⟨w.heap.size + 1 + 1, 2, none⟩ = some (.int .i64 v3) ∧ w1.cell? ⟨w.heap.size + 1 + 1, 3, none⟩ = some (.int .u64 l3)) (hb : Below w1.heap.size w1 w2) :
    Below w.heap.size w w2 ∧ w.heap.size + 1 + 1 < w2.heap.size ∧ w2.cell? ⟨w.heap.size, 0, none⟩ = some (.int .i64 t1) ∧ w2.cell? ⟨w.heap.size, 1, none⟩ = some (.int .i64 k1) ∧ w2.cell? ⟨w.heap.size, 2, none⟩ = some (.int .i64 v1) ∧ w2.cell? ⟨w.heap.size, 3, none⟩ = some (.int .u64 l1) ∧ w2.cell? ⟨w.heap.size + 1, 0, none⟩ = some (.int .i64 t2) ∧ w2.cell? ⟨w.heap.size + 1, 1, none⟩ = some (.int .i64 k2) ∧ w2.cell? ⟨w.heap.size + 1, 2, none⟩ = some (.int .i64 v2) ∧ w2.cell? ⟨w.heap.size + 1, 3, none⟩ = some (.int .u64 l2) ∧ w2.cell? ⟨w.heap.size + 1 + 1, 0, none⟩ = some (.int .i64 t3) ∧ w2.cell? ⟨w.heap.size + 1 + 1, 1, none⟩ = some (.int .i64 k3) ∧ w2.cell? ⟨w.heap.size + 1 + 1, 2, none⟩ = some (.int .i64 v3) ∧ w2.cell? ⟨w.heap.size + 1 + 1, 3, none⟩ = some (.int .u64 l3) := ⟨h.1.trans (hb.mono h.1.size), boxes_keep w w1 w2 _ _ _ _ _ _ _ _ _ _ _ _ hb h.2⟩
attribute [local go_sem ↓] Go.wp_at_zero Go.wp_at_succ
set_option maxHeartbeats 1000000 in
theorem order_core (a b c : Ev) (w : World) :
    Calls Try.prog 5 #[ev a, ev b, ev c] w fun e w' => e = .returned (.bool true) ∧ Below w.heap.size w w' := by
  obtain ⟨p, hp⟩ : ∃ p, Hid (cmpE a b = p) := ⟨_, rfl⟩
  obtain ⟨q, hq⟩ : ∃ q, Hid (cmpE b c = q) := ⟨_, rfl⟩
  obtain ⟨r, hr⟩ : ∃ r, Hid (cmpE a c = r) := ⟨_, rfl⟩
  obtain ⟨t1, k1, v1, l1⟩ := a
  obtain ⟨t2, k2, v2, l2⟩ := b
  obtain ⟨t3, k3, v3, l3⟩ := c
  simp only [ev]
  go_enter Try.func5, Try.ntmps5
  go_wp2_with fail
  obtain ⟨W, hW⟩ : ∃ W, W = ((w.alloc (.cells #[.int .i64 t1, .int .i64 k1, .int .i64 v1, .int .u64 l1] 24)).alloc (.cells #[.int .i64 t2, .int .i64 k2, .int .i64 v2, .int .u64 l2] 24)).alloc (.cells #[.int .i64 t3, .int .i64 k3, .int .i64 v3, .int .u64 l3] 24) := ⟨_, rfl⟩
  rw [← hW]
  have hS := boxes_new w W t1 k1 v1 t2 k2 v2 t3 k3 v3 l1 l2 l3 hW
  clear hW
  go_cut [7, 8, 9] (fun x y z wx => x = .int .i64 p ∧ y = .int .i64 q ∧ z = .int .i64 r ∧ Below w.heap.size w wx ∧ w.heap.size + 1 + 1 < wx.heap.size ∧ wx.cell? ⟨w.heap.size, 0, none⟩ = some (.int .i64 t1) ∧ wx.cell? ⟨w.heap.size, 1, none⟩ = some (.int .i64 k1) ∧ wx.cell? ⟨w.heap.size, 2, none⟩ = some (.int .i64 v1) ∧ wx.cell? ⟨w.heap.size, 3, none⟩ = some (.int .u64 l1) ∧ wx.cell? ⟨w.heap.size + 1, 0, none⟩ = some (.int .i64 t2) ∧ wx.cell? ⟨w.heap.size + 1, 1, none⟩ = some (.int .i64 k2) ∧ wx.cell? ⟨w.heap.size + 1, 2, none⟩ = some (.int .i64 v2) ∧ wx.cell? ⟨w.heap.size + 1, 3, none⟩ = some (.int .u64 l2) ∧ wx.cell? ⟨w.heap.size + 1 + 1, 0, none⟩ = some (.int .i64 t3) ∧ wx.cell? ⟨w.heap.size + 1 + 1, 1, none⟩ = some (.int .i64 k3) ∧ wx.cell? ⟨w.heap.size + 1 + 1, 2, none⟩ = some (.int .i64 v3) ∧ wx.cell? ⟨w.heap.size + 1 + 1, 3, none⟩ = some (.int .u64 l3))
  case first =>
    go_region_held3 (fun w' => Below w.heap.size w w' ∧ w.heap.size + 1 + 1 < w'.heap.size ∧ w'.cell? ⟨w.heap.size, 0, none⟩ = some (.int .i64 t1) ∧ w'.cell? ⟨w.heap.size, 1, none⟩ = some (.int .i64 k1) ∧ w'.cell? ⟨w.heap.size, 2, none⟩ = some (.int .i64 v1) ∧ w'.cell? ⟨w.heap.size, 3, none⟩ = some (.int .u64 l1) ∧ w'.cell? ⟨w.heap.size + 1, 0, none⟩ = some (.int .i64 t2) ∧ w'.cell? ⟨w.heap.size + 1, 1, none⟩ = some (.int .i64 k2) ∧ w'.cell? ⟨w.heap.size + 1, 2, none⟩ = some (.int .i64 v2) ∧ w'.cell? ⟨w.heap.size + 1, 3, none⟩ = some (.int .u64 l2) ∧ w'.cell? ⟨w.heap.size + 1 + 1, 0, none⟩ = some (.int .i64 t3) ∧ w'.cell? ⟨w.heap.size + 1 + 1, 1, none⟩ = some (.int .i64 k3) ∧ w'.cell? ⟨w.heap.size + 1 + 1, 2, none⟩ = some (.int .i64 v3) ∧ w'.cell? ⟨w.heap.size + 1 + 1, 3, none⟩ = some (.int .u64 l3)) (first | assumption | exact keep_drew hS | (refine keep_call ?_ hb; assumption))
      (first | (go_at_call 7; refine (compare_of _ _ _ _ _ _ _ _ _).mono ?_; rintro e w' ⟨rfl, hb⟩))
    go_wp2_with fail
    go_meet
    refine ⟨val_int hp.out, val_int hq.out, val_int hr.out, ?_⟩
    assumption
  case rest =>
    obtain ⟨rfl, rfl, rfl, hbw, hS⟩ := hcut
    have hsw : Hid (cmpE ⟨t2, k2, v2, l2⟩ ⟨t1, k1, v1, l1⟩ = - p) := by
      have h : cmpE ⟨t2, k2, v2, l2⟩ ⟨t1, k1, v1, l1⟩ = - p := by rw [cmpE_swap, hp.out]
      exact h
    have htr : Hid (p ≤ 0 → q ≤ 0 → r ≤ 0) := by
      intro x y
      have := cmpE_trans ⟨t1, k1, v1, l1⟩ ⟨t2, k2, v2, l2⟩ ⟨t3, k3, v3, l3⟩ (by rw [hp.out]; exact x) (by rw [hq.out]; exact y)
      rw [hr.out] at this
      exact this
    have hcs : Hid _ := cmpE_cases ⟨t1, k1, v1, l1⟩ ⟨t2, k2, v2, l2⟩
    rw [hp.out] at hcs
    simp only at hcs
    clear hp hq hr
    have hS0 : Hid _ := hS
    obtain ⟨h00, h1, h2, h3, h4, h5, h6, h7, h8, _, _, _, _⟩ := hS
    go_wp2_with fail
    refine (compare_of _ _ _ _ _ _ _ _ _).mono ?_
    rintro e w1 ⟨rfl, b1⟩
    rw [hsw.out]
    clear h00 h1 h2 h3 h4 h5 h6 h7 h8
    obtain ⟨h00, h1, h2, h3, h4, h5, h6, h7, h8, _, _, _, _⟩ := boxes_keep w wc w1 _ _ _ _ _ _ _ _ _ _ _ _ b1 hS0.out
    have t1' : Below w.heap.size w w1 := hbw.trans (b1.mono hbw.size)
    clear hS0 hbw b1
    rcases hcs.out with ⟨hz, hw⟩ | ⟨hz, hw⟩ | ⟨hz, rfl, rfl, rfl, rfl⟩
    · subst hz
      clear hcs hS
      by_cases hq0 : q ≤ 0
      · have hr0 := htr.out (by decide) hq0
        clear htr
        go_wp2_with fail
        all_goals
          refine (runs_any w1).mono ?_
          rintro e w2 ⟨rfl, b2⟩
          go_wp2
          go_ret
          exact ⟨rfl, t1'.trans (b2.mono t1'.size)⟩
      · clear htr
        go_wp2_with fail
        all_goals
          refine (runs_any w1).mono ?_
          rintro e w2 ⟨rfl, b2⟩
          go_wp2
          go_ret
          exact ⟨rfl, t1'.trans (b2.mono t1'.size)⟩
    · subst hz
      clear hcs hS htr
      go_wp2_with fail
      all_goals
        refine (runs_any w1).mono ?_
        rintro e w2 ⟨rfl, b2⟩
        go_wp2
        go_ret
        exact ⟨rfl, t1'.trans (b2.mono t1'.size)⟩
    · subst hz
      clear hcs hS
      by_cases hq0 : q ≤ 0
      · have hr0 := htr.out (by decide) hq0
        clear htr
        go_wp2_with fail
        all_goals
          refine (runs_any w1).mono ?_
          rintro e w2 ⟨rfl, b2⟩
          go_wp2
          go_ret
          exact ⟨rfl, t1'.trans (b2.mono t1'.size)⟩
      · clear htr
        go_wp2_with fail
        all_goals
          refine (runs_any w1).mono ?_
          rintro e w2 ⟨rfl, b2⟩
          go_wp2
          go_ret
          exact ⟨rfl, t1'.trans (b2.mono t1'.size)⟩
theorem eventOrder_walk (a b c : Ev) (w : World) (_ : a.l < 18446744073709551616) (_ : b.l < 18446744073709551616) (_ : c.l < 18446744073709551616) :
    Calls Try.prog 5 #[ev a, ev b, ev c] w fun e w' => e = .returned (.bool true) ∧ Below w.heap.size w w' := order_core a b c w
end Go.Proofs.Ytakemkfnaebmiaa
