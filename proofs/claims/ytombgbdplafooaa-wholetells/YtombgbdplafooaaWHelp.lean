/- What the walks over package whole carry from call to call. -/
import Derived.Test.YtombgbdplafooaaRHelp
import Derived.Test.YtombgbdplafooaaWRuns
import Derived.Test.YtombgbdplafooaaPrefix
import Derived.Laws.BitsAllLaws
import Derived.Deep.QuietTactic
import Derived.BigQuiet
namespace Go.Proofs.Ytombgbdplafooaa
open Go.RowKit M
open O (RdO Kpk Pik Small Ints)
open O.MO (Oq Pq rightP)
set_option linter.unusedVariables false
set_option linter.unusedSimpArgs false

/-- The first inputs of a list. -/
theorem RdI.take {w : World} {ao : Option Addr} {n cap m qb : Nat} {is : List Inp} (h : RdI w (.slice ao n cap) qb is) (hm : m ≤ is.length) : RdI w (.slice ao m cap) qb (is.take m) := by
  obtain ⟨h1, h2, ao', cap', e, h3, h4, hc⟩ := h
  injection e with e1 e2 e3
  subst e1 e2 e3
  have hl : (is.take m).length = m := by rw [List.length_take]; omega
  refine ⟨by omega, fun i hi => h2 i (List.mem_of_mem_take hi), ao, cap, by rw [hl], by omega, h4, fun hn => ?_⟩
  obtain ⟨off, rfl, hb, hcell⟩ := hc (by omega)
  refine ⟨off, rfl, hb, fun j hj => ?_⟩
  have e : iAt (is.take m) j = iAt is j := by
    unfold iAt
    rw [List.getD_eq_getElem?_getD, List.getD_eq_getElem?_getD, List.getElem?_take, if_pos (by omega)]
  rw [e]
  exact hcell j (by omega)
theorem RdI.caps {w : World} {ao : Option Addr} {n cap qb : Nat} {is : List Inp} (h : RdI w (.slice ao n cap) qb is) : n = is.length ∧ n ≤ cap ∧ cap ≤ 9223372036854775807 := by
  obtain ⟨h1, h2, ao', cap', e, h3, h4, hc⟩ := h
  injection e with e1 e2 e3
  subst e1 e2 e3
  exact ⟨rfl, h3, h4⟩
theorem RdR.caps {w : World} {ao : Option Addr} {n cap : Nat} {L : List Pn} (h : RdR w (.slice ao n cap) L) : n = L.length ∧ n ≤ cap ∧ cap ≤ 9223372036854775807 := by
  obtain ⟨h1, ao', cap', e, h3, h4, hc⟩ := h
  injection e with e1 e2 e3
  subst e1 e2 e3
  exact ⟨rfl, h3, h4⟩
/-- The pipe in its block, its operations, the inputs, and that nothing else has turned. -/
structure WE (w0 W : World) (g0 gp : Nat) (u : Value) (p : Pq) (qi : Nat) (iv : Value) (is : List Inp) : Prop where
  P : Pik W gp u p.n p.s p.a p.k p.f
  O : OpsIn W u p.os
  I : RdI W iv qi is
  B : Below g0 w0 W
  hg : g0 ≤ gp
  hp : gp < W.heap.size
  hq : qi ≤ W.heap.size
section
variable {w0 W W' : World} {g0 gp : Nat} {u : Value} {p : Pq} {qi : Nat} {iv : Value} {is : List Inp}
theorem WE.call (h : WE w0 W g0 gp u p qi iv is) (hb : Below W.heap.size W W') : WE w0 W' g0 gp u p qi iv is := by
  have hz := hb.size
  exact ⟨h.P.call hb, h.O.below hb, h.I.below hb, h.B.trans (hb.mono (by have := h.hg; have := h.hp; omega)), h.hg, by have := h.hp; omega, by have := h.hq; omega⟩
theorem WE.alloc (h : WE w0 W g0 gp u p qi iv is) (o : Obj) : WE w0 (W.alloc o) g0 gp u p qi iv is := h.call (below_alloc _ _)
theorem WE.size (h : WE w0 W g0 gp u p qi iv is) : g0 < W.heap.size := by have := h.hg; have := h.hp; omega
/-- A block of the call's own, behind all of them, turns. -/
theorem WE.keep (h : WE w0 W g0 gp u p qi iv is) {b : Nat} (hb : Below b W W') (hz : W.heap.size ≤ W'.heap.size) (h1 : gp < b) (h2 : ∀ k, u.ownBlock = some k → k < b) (h3 : qi < b) (hbw : b ≤ W.heap.size) : WE w0 W' g0 gp u p qi iv is := by
  refine ⟨(hb.block gp h1).trans h.P, h.O.keep (fun k hk _ => hb.block k (h2 k hk)), h.I.keep hz (fun _ => hb.block qi h3), h.B.trans (hb.mono (by have := h.hg; omega)), h.hg, by have := h.hp; omega, by have := h.hq; omega⟩
end
theorem own_emptyI (w : World) (B g : Nat) (hB : B ≤ w.heap.size) (hg : w.heap.size = g) : (w.alloc (.cells #[] 71)).ownsRow B 71 5 (.slice (some ⟨g, 0, none⟩) 0 0) 0 (ins []) := by
  subst hg
  exact O.own_base (World.ownsRow_lit w #[] 0 (Nat.le_refl _) (by unfold maxLen; omega) (by simp)) hB
theorem own_emptyR (w : World) (B g : Nat) (hB : B ≤ w.heap.size) (hg : w.heap.size = g) : (w.alloc (.cells #[] 45)).ownsRow B 45 5 (.slice (some ⟨g, 0, none⟩) 0 0) 0 (rcs []) := by
  subst hg
  exact O.own_base (World.ownsRow_lit w #[] 0 (Nat.le_refl _) (by unfold maxLen; omega) (by simp)) hB
theorem small_n {p : Pq} (h : Small p) : p.n ≤ 48 := by obtain ⟨h1, h2, h3, h4, h5, h6, _⟩ := h; omega
theorem good_t {is : List Inp} (h : ∀ i ∈ is, Good i) : ∀ i ∈ is, i.e.t ≤ 160 := fun i hi => by
  rcases h i hi with h | h
  · exact h.2.2.1
  · have := h.2.2.1; omega
theorem good_l {is : List Inp} (h : ∀ i ∈ is, Good i) : ∀ i ∈ is, i.e.l < 18446744073709551616 := fun i hi => (h i hi).lt
theorem end_l {is : List Inp} (h : ∀ i ∈ is, i.e.l < 18446744073709551616) : ∀ i ∈ is ++ [endI], i.e.l < 18446744073709551616 := fun i hi => by
  rcases List.mem_append.1 hi with hi | hi
  · exact h i hi
  · rw [List.mem_singleton.1 hi]; decide
theorem pre_self (a : List Pn) : (true = true) ↔ a <+: a := ⟨fun _ => List.prefix_refl a, fun _ => rfl⟩
theorem pre_nil (a : List Pn) : (true = true) ↔ ([] : List Pn) <+: a := ⟨fun _ => List.nil_prefix, fun _ => rfl⟩
theorem pre_yes {a b : List Pn} (h : a <+: b) : (true = true) ↔ a <+: b := ⟨fun _ => h, fun _ => rfl⟩
theorem pre_no {a b : List Pn} (h : ¬ a <+: b) : (false = true) ↔ a <+: b := ⟨(fun h1 => by cases h1), fun h2 => absurd h2 h⟩
theorem Rok.lt {w : World} {b : Nat} {p : Pn} (h : Rok w b p) : b < w.heap.size := (Array.getElem?_eq_some_iff.1 h).1
theorem Rok.keep {w w' : World} {b : Nat} {p : Pn} (h : Rok w b p) (hb : w'.heap[b]? = w.heap[b]?) : Rok w' b p := hb.trans h
/- Labels within labels, as bits. -/
theorem sub_and {a b : Nat} (h : Sub a b) (ha : a < 18446744073709551616) (hb : b < 18446744073709551616) : a &&& (18446744073709551615 - b) = 0 := by
  have e : 18446744073709551615 - b = 2 ^ 64 - (b + 1) := by omega
  rw [e]
  apply Nat.eq_of_testBit_eq
  intro i
  rw [Nat.testBit_and, Nat.zero_testBit, Nat.testBit_two_pow_sub_succ (show b < 2 ^ 64 by simpa using hb)]
  have h1 := congrArg (Nat.testBit · i) (show a ||| b = b from h)
  simp only [Nat.testBit_or] at h1
  cases h2 : a.testBit i with
  | false => rfl
  | true =>
    rw [h2, Bool.true_or] at h1
    rw [← h1]; simp
theorem sub_bits {a b : Nat} (h : Sub a b) (ha : a < 18446744073709551616) (hb : b < 18446744073709551616) : bits .andNot .u64 (a : Int) (b : Int) = 0 := by
  rw [u64_andNot_nat a b ha hb, sub_and h ha hb]; rfl
theorem sub_lt {a b : Nat} (h : Sub a b) (hb : b < 18446744073709551616) : a < 18446744073709551616 := by
  have h1 : a ≤ a ||| b := Nat.left_le_or
  rw [show a ||| b = b from h] at h1
  omega
/-- Rows that are read, as what is appended. -/
theorem RdR.src {w : World} {v : Value} {L : List Pn} (h : RdR w v L) : L = [] ∨ SrcN 5 w v L.length (rcs L) := by
  obtain ⟨h1, ao, cap, rfl, h2, h3, hc⟩ := h
  by_cases hn : L.length = 0
  · exact .inl (List.eq_nil_of_length_eq_zero hn)
  · obtain ⟨b, off, rfl, hb, hcell⟩ := hc hn
    refine .inr (.inr ⟨⟨b, off, none⟩, cap, rfl, by rw [rcs_len], fun j x hj => ?_⟩)
    have hjl : j < L.length * 5 := by
      have := (List.getElem?_eq_some_iff.1 hj).1
      rw [rcs_len] at this; exact this
    have hq : j / 5 < L.length := by omega
    have hr : j % 5 < 5 := Nat.mod_lt _ (by decide)
    have e : j = j / 5 * 5 + j % 5 := by omega
    have hx := rcs_at L (j / 5) (j % 5) hr hq
    rw [← e, hj] at hx
    obtain ⟨k0, k1, k2, k3, k4⟩ := hcell (j / 5) hq
    have ha : (⟨b, off, none⟩ : Addr).add j = ⟨b, off + (j / 5) * 5 + j % 5, none⟩ := by
      have e2 : off + j / 5 * 5 + j % 5 = off + j := by omega
      rw [e2]; simp [Addr.add]
    rw [ha]
    have h5 : j % 5 = 0 ∨ j % 5 = 1 ∨ j % 5 = 2 ∨ j % 5 = 3 ∨ j % 5 = 4 := by omega
    rcases h5 with h5 | h5 | h5 | h5 | h5 <;> rw [h5] at hx ⊢ <;> simp only [rcell] at hx <;> simp at hx <;> subst hx <;> assumption
/-- One row's count turned. -/
def cntUp (L : List Pn) (i : Nat) : List Pn := L.set i ⟨(pAt L i).s, (pAt L i).k, wrap64 ((pAt L i).c + 1), (pAt L i).v, (pAt L i).l⟩
theorem cntUp_len (L : List Pn) (i : Nat) : (cntUp L i).length = L.length := by simp [cntUp]
theorem cntUp_at (L : List Pn) (i j : Nat) (hj : j < L.length) : pAt (cntUp L i) j = if j = i then ⟨(pAt L i).s, (pAt L i).k, wrap64 ((pAt L i).c + 1), (pAt L i).v, (pAt L i).l⟩ else pAt L j := by
  unfold cntUp pAt
  rw [List.getD_eq_getElem?_getD, List.getElem?_set]
  by_cases h : i = j
  · subst h
    rw [if_pos rfl, if_pos hj, if_pos rfl]; rfl
  · rw [if_neg h, if_neg (fun e => h e.symm), List.getD_eq_getElem?_getD]
theorem cntUp_ne (L : List Pn) (i : Nat) (hi : i < L.length) : pAt (cntUp L i) i ≠ pAt L i := by
  rw [cntUp_at L i i hi, if_pos rfl]
  intro h
  have h2 := congrArg Pn.c h
  simp only [wrap64] at h2
  omega
theorem prefix_at {a b : List Pn} (h : a <+: b) {i : Nat} (hi : i < a.length) : pAt a i = pAt b i := by
  obtain ⟨c, rfl⟩ := h
  unfold pAt
  rw [List.getD_eq_getElem?_getD, List.getD_eq_getElem?_getD, List.getElem?_append_left hi]
theorem pAt_take (L : List Pn) (n i : Nat) (hi : i < n) : pAt (L.take n) i = pAt L i := by
  unfold pAt
  rw [List.getD_eq_getElem?_getD, List.getD_eq_getElem?_getD, List.getElem?_take, if_pos hi]
theorem cntUp_no {L : List Pn} {i n : Nat} (hi : i < L.length) (hn : i < n) : ¬ (cntUp L i).take n <+: L := by
  intro h
  have h2 := prefix_at h (i := i) (by rw [List.length_take, cntUp_len]; omega)
  rw [pAt_take _ _ _ hn] at h2
  exact cntUp_ne L i hi h2
theorem cntUp_no' {L : List Pn} {i : Nat} (hi : i < L.length) : ¬ cntUp L i <+: L := by
  have h := cntUp_no (n := L.length) hi hi
  rwa [List.take_of_length_le (by rw [cntUp_len]; exact Nat.le_refl _)] at h
theorem cntUp_yes (L : List Pn) (i : Nat) : (cntUp L i).take i <+: L := by
  have h : (cntUp L i).take i = L.take i := by unfold cntUp; rw [List.take_set_of_le (Nat.le_refl _)]
  rw [h]; exact List.take_prefix _ _
theorem short_no {L : List Pn} {n : Nat} (hn : n < L.length) : ¬ L <+: L.take n := by
  intro h
  have := h.length_le
  rw [List.length_take] at this
  omega
/-- Rows of the call's own, in their block, and one row's count turned there. -/
theorem own_rows_some {w : World} {B n : Nat} {v : Value} {L : List Pn} (h : w.ownsRow B 45 5 v n (rcs L)) (hn : 0 < L.length) : ∃ g cap, v = .slice (some ⟨g, 0, none⟩) L.length cap ∧ B ≤ g ∧ g < w.heap.size ∧ L.length ≤ cap ∧ cap ≤ 9223372036854775807 ∧ (∀ j, w.frozen? ⟨g, j, none⟩ = false) ∧ ∀ j, j < L.length → RwAt w g (j * 5) (pAt L j) := by
  have hl := rows_own h
  subst hl
  have h' := h
  obtain ⟨_, h | ⟨g, cap, cur, rfl, hb, hh, hn2, hm, hs, ht⟩⟩ := h
  · omega
  · unfold maxLen at hm
    refine ⟨g, cap, rfl, hb, (Array.getElem?_eq_some_iff.1 hh).1, hn2, by omega, fun j => by simp [World.frozen?, hh], fun j hj => ?_⟩
    have hc : ∀ r, r < 5 → w.cell? ⟨g, j * 5 + r, none⟩ = (rcell (pAt L j))[r]? := fun r hr => by
      rw [h'.cellAt (j * 5 + r) (by omega), rcs_at L j r hr hj]
    exact ⟨hc 0 (by decide), hc 1 (by decide), hc 2 (by decide), hc 3 (by decide), hc 4 (by decide)⟩
theorem rdr_up {w : World} {g cap i : Nat} {L : List Pn} (hl : L.length ≤ cap) (hc : cap ≤ 9223372036854775807) (hg : g < w.heap.size) (hat : ∀ j, j < L.length → RwAt w g (j * 5) (pAt L j)) (hi : i < L.length) :
    RdR (w.setCell ⟨g, i * 5 + 3, none⟩ (.int .i64 (wrap64 ((pAt L i).c + 1)))) (.slice (some ⟨g, 0, none⟩) L.length cap) (cntUp L i) := by
  refine ⟨by rw [cntUp_len]; omega, some ⟨g, 0, none⟩, cap, by rw [cntUp_len], by rw [cntUp_len]; exact hl, hc, fun _ => ⟨g, 0, rfl, by simpa [World.setCell] using hg, fun j hj => ?_⟩⟩
  rw [cntUp_len] at hj
  rw [cntUp_at L i j hj, Nat.zero_add]
  obtain ⟨k0, k1, k2, k3, k4⟩ := hat j hj
  by_cases h : j = i
  · subst h
    rw [if_pos rfl]
    refine ⟨(World.cell?_setCell_other _ _ _ _ (by simp)).trans k0, (World.cell?_setCell_other _ _ _ _ (by simp)).trans k1, (World.cell?_setCell_other _ _ _ _ (by simp)).trans k2, ?_, (World.cell?_setCell_other _ _ _ _ (by simp)).trans k4⟩
    exact World.cell?_setCell_same _ _ _ k3
  · rw [if_neg h]
    exact ⟨(World.cell?_setCell_other _ _ _ _ (by first | (simp; done) | (simp; omega))).trans k0, (World.cell?_setCell_other _ _ _ _ (by first | (simp; done) | (simp; omega))).trans k1, (World.cell?_setCell_other _ _ _ _ (by first | (simp; done) | (simp; omega))).trans k2, (World.cell?_setCell_other _ _ _ _ (by first | (simp; done) | (simp; omega))).trans k3, (World.cell?_setCell_other _ _ _ _ (by first | (simp; done) | (simp; omega))).trans k4⟩
end Go.Proofs.Ytombgbdplafooaa
