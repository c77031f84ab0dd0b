/- A row of eight turns in a block of the call's own; slot.served, slot.Order, slot.Plan. -/
import Derived.Test.YtokcanmhhabecaaBase
import Derived.Deep.CutBlock
namespace Go.Proofs.Ytokcanmhhabecaa
open Go.RowKit M
set_option linter.unusedVariables false

/-- The cells of eight turns: tenants g, budgets h. -/
def tvf (g h : Nat → Int) : List Value :=
  [.int .i64 (g 0), .int .i64 (h 0), .int .i64 (g 1), .int .i64 (h 1), .int .i64 (g 2), .int .i64 (h 2), .int .i64 (g 3), .int .i64 (h 3), .int .i64 (g 4), .int .i64 (h 4), .int .i64 (g 5), .int .i64 (h 5), .int .i64 (g 6), .int .i64 (h 6), .int .i64 (g 7), .int .i64 (h 7)]
theorem tvf_congr {g h g' h' : Nat → Int} (e : ∀ i, i < 8 → g i = g' i ∧ h i = h' i) : tvf g h = tvf g' h' := by
  unfold tvf
  rw [(e 0 (by omega)).1, (e 0 (by omega)).2, (e 1 (by omega)).1, (e 1 (by omega)).2, (e 2 (by omega)).1, (e 2 (by omega)).2, (e 3 (by omega)).1, (e 3 (by omega)).2, (e 4 (by omega)).1, (e 4 (by omega)).2, (e 5 (by omega)).1, (e 5 (by omega)).2, (e 6 (by omega)).1, (e 6 (by omega)).2, (e 7 (by omega)).1, (e 7 (by omega)).2]
/-- The block of a row of eight turns. -/
def Tb (w : World) (b : Nat) (g h : Nat → Int) : Prop := w.heap[b]? = some (.cells (tvf g h).toArray 26 (0, 0))
theorem Tb.lt {w : World} {b : Nat} {g h : Nat → Int} (t : Tb w b g h) : b < w.heap.size := (Array.getElem?_eq_some_iff.1 t).1
theorem Tb.at0 {w : World} {b : Nat} {g h : Nat → Int} (t : Tb w b g h) : ∀ k, k < 8 → w.cell? ⟨b, k * 2, none⟩ = some (.int .i64 (g k)) := by
  unfold Tb tvf at t
  refine upto8 ?_ ?_ ?_ ?_ ?_ ?_ ?_ ?_ <;> simp [World.cell?, t]
theorem Tb.at1 {w : World} {b : Nat} {g h : Nat → Int} (t : Tb w b g h) : ∀ k, k < 8 → w.cell? ⟨b, k * 2 + 1, none⟩ = some (.int .i64 (h k)) := by
  unfold Tb tvf at t
  refine upto8 ?_ ?_ ?_ ?_ ?_ ?_ ?_ ?_ <;> simp [World.cell?, t]
theorem Tb.free {w : World} {b : Nat} {g h : Nat → Int} (t : Tb w b g h) (i : Nat) : w.frozen? ⟨b, i, none⟩ = false := by
  unfold Tb at t; simp [World.frozen?, t]
theorem Tb.set0 {w : World} {b : Nat} {g h : Nat → Int} (t : Tb w b g h) (x : Int) : ∀ k, k < 8 → Tb (w.setCell ⟨b, k * 2, none⟩ (.int .i64 x)) b (fun i => if i = k then x else g i) h := by
  unfold Tb tvf at *
  refine upto8 ?_ ?_ ?_ ?_ ?_ ?_ ?_ ?_ <;> simp [World.setCell, Array.getElem?_modify, t]
theorem Tb.set1 {w : World} {b : Nat} {g h : Nat → Int} (t : Tb w b g h) (x : Int) : ∀ k, k < 8 → Tb (w.setCell ⟨b, k * 2 + 1, none⟩ (.int .i64 x)) b g (fun i => if i = k then x else h i) := by
  unfold Tb tvf at *
  refine upto8 ?_ ?_ ?_ ?_ ?_ ?_ ?_ ?_ <;> simp [World.setCell, Array.getElem?_modify, t]
theorem Tb.congr {w : World} {b : Nat} {g h g' h' : Nat → Int} (t : Tb w b g h) (e : ∀ i, i < 8 → g i = g' i ∧ h i = h' i) : Tb w b g' h' := by
  unfold Tb at *; rw [t, tvf_congr e]
theorem Tb.below {w w' : World} {b B : Nat} {g h : Nat → Int} (t : Tb w b g h) (hb : Below B w w') (hB : b < B) : Tb w' b g h := (hb.block b hB).trans t
theorem Tb.call {w w' : World} {b : Nat} {g h : Nat → Int} (t : Tb w b g h) (hb : Below w.heap.size w w') : Tb w' b g h := t.below hb t.lt
theorem made_nought (n : Nat) : (madeCells #[Value.int .i64 0, Value.int .i64 0] n).toList = List.replicate n (Value.int .i64 0) := by
  apply List.ext_getElem?
  intro j
  by_cases hj : j < n
  · have h2 : j % 2 = 0 ∨ j % 2 = 1 := by omega
    rcases h2 with h2 | h2 <;> simp [madeCells, hj, h2]
  · simp [madeCells, hj]
theorem made_tb {w : World} {B cap : Nat} {z : Array Value} {b : Nat} (hz : z = #[Value.int .i64 0, .int .i64 0]) (h : w.ownsRow B 26 2 (.slice (some ⟨b, 0, none⟩) 8 8) 8 (madeCells z (8 * 2)).toList) : Tb w b (fun _ => 0) (fun _ => 0) := by
  subst hz
  obtain ⟨_, h0 | ⟨g, cap', cur, hvv, _, hh, _, _, hs, ht⟩⟩ := h
  · cases h0.1
  · cases hvv
    unfold Tb
    rw [hh]
    congr 2
    have e1 : cur.toList = (madeCells #[Value.int .i64 0, .int .i64 0] (8 * 2)).toList := by
      rw [← ht, List.take_of_length_le (by simp; omega)]
    have e2 : (madeCells #[Value.int .i64 0, .int .i64 0] (8 * 2)).toList = tvf (fun _ => 0) (fun _ => 0) := by rw [made_nought]; rfl
    rw [e2] at e1
    rw [← e1]
theorem Try.info26 : (Try.prog.info? 26).map (fun i => (i.zero, i.size, i.bytes)) = some (some (.agg #[.int .i64 0, .int .i64 0]), 2, 16) := by kernel_rfl

/-- slot.served. -/
theorem served_is (b t p : Int) (v : Value) (zs : List Int) (w : World) (h : Rd .i64 w v zs) (h0 : 0 ≤ t) (hp : sv b t zs = p) :
    Calls Try.prog 15 #[.int .i64 b, .int .i64 t, v] w fun e w' => e = .returned (.int .i64 p) ∧ w' = w := by
  have hp' : Hid (sv b t zs = p) := hp
  clear hp
  obtain ⟨hl, ao, cap, rfl, hc, hcm, hcell⟩ := h
  obtain ⟨n, rfl⟩ := Int.eq_ofNat_of_zero_le h0
  by_cases hlt : n < zs.length
  · obtain ⟨bb, off, rfl, hce⟩ := hcell (by omega)
    have g := hce n hlt
    obtain ⟨x, hx⟩ : ∃ x, Hid (zs.getD n 0 = x) := ⟨_, rfl⟩
    rw [hx.out] at g
    have hq : Hid (p = max 0 (min b x)) := by
      have h : p = max 0 (min b x) := by rw [← hp'.out, ← hx.out]; unfold sv; rw [if_pos (by omega)]; rfl
      exact h
    obtain ⟨L, hL⟩ : ∃ L, Hid (zs.length = L) := ⟨_, rfl⟩
    rw [hL.out] at hlt hl hc ⊢
    clear hce hcell hp' hx
    go_enter Try.func15, Try.ntmps15
    go_wp2
    all_goals
      go_ret
      exact ⟨ret_int (by have := hq.out; first | omega | (split at * <;> omega)), rfl⟩
  · have hq : Hid (p = 0) := by
      have h : p = 0 := by rw [← hp'.out]; unfold sv; rw [if_neg (by omega)]
      exact h
    obtain ⟨L, hL⟩ : ∃ L, Hid (zs.length = L) := ⟨_, rfl⟩
    rw [hL.out] at hlt hl hc ⊢
    clear hcell hp'
    go_enter Try.func15, Try.ntmps15
    go_wp2
    go_ret
    exact ⟨ret_int (by rw [hq.out]), rfl⟩
/-- slot.Order of a tick below nought. -/
theorem order_no (t : Int) (w : World) (h : t < 0) : Calls Try.prog 8 #[.int .i64 t] w fun e w' => e = .returned (.slice none 0 0) ∧ w' = w := by
  go_enter Try.func8, Try.ntmps8
  go_wp2
  go_ret
  exact ⟨rfl, rfl⟩
set_option maxHeartbeats 1000000 in
set_option maxRecDepth 100000 in
/-- slot.Order. -/
theorem order_is (t : Int) (w : World) (h0 : 0 ≤ t) (h1 : t ≤ 9223372036854775807) :
    Calls Try.prog 8 #[.int .i64 t] w fun e w' => ∃ b, e = .returned (.slice (some ⟨b, 0, none⟩) 8 8) ∧ w.heap.size ≤ b ∧ Tb w' b (tn (t % 8)) (fun _ => 0) ∧ Below w.heap.size w w' := by
  obtain ⟨i0, hi, hz0, hz1, hz2⟩ := info_parts Try.info26
  go_enter Try.func8, Try.ntmps8
  go_upto_region 5 with (at_make; refine wpList_make_full _ rfl _ _ 22 rfl w.heap.size 26 i0 (.agg #[.int .i64 0, .int .i64 0]) 2 Try.underlying22 hi hz0 hz1 _ _ _ _ 8 rfl rfl (by omega) (by omega) (by rw [hz2]; omega) (by unfold maxLen; omega) (Nat.le_refl _) ?_; intro w1 hown hgrow)
  have t1 : Tb w1 w.heap.size (fun _ => 0) (fun _ => 0) := made_tb (cap := 8) (by rfl) hown
  have b1 : Below w.heap.size w w1 := (Below.refl _ _).grown hgrow (Nat.le_refl _) (fun k hk => by cases hk)
  clear hown hgrow hi hz0 hz1 hz2
  obtain ⟨f, hf⟩ : ∃ f, Hid (t % 8 = f) := ⟨_, rfl⟩
  have f0 : 0 ≤ f := by have := hf.out; omega
  have f1 : f < 8 := by have := hf.out; omega
  go_wp2_with fail
  go_loopw [5, 13] (fun i j wr => ∃ k : Nat, k ≤ 8 ∧ j = .int .i64 (k : Int) ∧ Tb wr w.heap.size (fun i => if i < k then tn (t % 8) i else 0) (fun _ => 0) ∧ Below w.heap.size w wr) (fun _ j _ => 8 - (intOf j).toNat)
  case atStart => exact ⟨0, by omega, rfl, t1.congr (fun i hi => ⟨by simp, rfl⟩), b1⟩
  case round =>
    obtain ⟨k, hk, rfl, tk, bk⟩ := hrel
    clear t1 b1
    by_cases hlt : k < 8
    · have c0 := tk.at0 k hlt
      have c1 := tk.free (k * 2)
      have hs : Hid (Tb (wr.setCell ⟨w.heap.size, k * 2, none⟩ (.int .i64 ((t + (k : Int)) % 8))) w.heap.size (fun i => if i < k + 1 then tn (t % 8) i else 0) (fun _ => 0) ∧ Below w.heap.size w (wr.setCell ⟨w.heap.size, k * 2, none⟩ (.int .i64 ((t + (k : Int)) % 8)))) := by
        refine ⟨(tk.set0 _ k hlt).congr (fun i hi => ⟨?_, rfl⟩), bk.setCell (Nat.le_refl _) _⟩
        by_cases e : i = k
        · subst e; simp only [if_true]; rw [if_pos (by omega)]; unfold tn; omega
        · simp only [if_neg e]
          by_cases e2 : i < k
          · rw [if_pos e2, if_pos (by omega)]
          · rw [if_neg e2, if_neg (by omega)]
      clear tk
      go_wp2
      go_roundw
      case rel => exact ⟨k + 1, by omega, by go_num, hs.out.1, hs.out.2⟩
      case measure => simp [intOf]; omega
    · have : k = 8 := by omega
      subst this
      go_wp2
      go_ret
      exact ⟨_, rfl, Nat.le_refl _, tk.congr (fun i hi => ⟨by rw [if_pos hi], rfl⟩), bk⟩
end Go.Proofs.Ytokcanmhhabecaa
