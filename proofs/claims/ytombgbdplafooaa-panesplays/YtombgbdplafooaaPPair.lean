/- The program's panes and the document's own, side by side. -/
import Derived.Test.YtombgbdplafooaaRefPut
import Derived.Test.YtombgbdplafooaaPFrame
import Derived.Test.YtombgbdplafooaaPMath
import Derived.Test.YtombgbdplafooaaPRuns
import Derived.Deep.RegionHeld3
import Derived.Deep.DrawnRows
namespace Go.Proofs.Ytombgbdplafooaa
open Go.RowKit M
set_option linter.unusedVariables false
set_option linter.unusedSimpArgs false

/-- The row of a Panes, or the Panes itself where it has none yet. -/
def POT (w : World) (o : Nat) : Prop := ∃ cs T, w.heap[o]? = some (.cells cs T (0, 0)) ∧ (T = 116 ∨ T = 95)
theorem POT.keep {w w' : World} {o : Nat} (h : POT w o) (hb : w'.heap[o]? = w.heap[o]?) : POT w' o := by
  obtain ⟨cs, T, h1, h2⟩ := h
  exact ⟨cs, T, hb.trans h1, h2⟩
theorem POT.lt {w : World} {o : Nat} (h : POT w o) : o < w.heap.size := by
  obtain ⟨cs, T, h1, h2⟩ := h
  exact (Array.getElem?_eq_some_iff.1 h1).1
theorem POT.ne {w : World} {o k : Nat} {cs : Array Value} {T : TypeId} (h : POT w o) (hk : w.heap[k]? = some (.cells cs T (0, 0))) (h1 : T ≠ 116) (h2 : T ≠ 95) : k ≠ o := by
  obtain ⟨cs', T', h3, h4⟩ := h
  intro e
  subst e
  rw [hk] at h3
  simp at h3
  obtain ⟨_, rfl⟩ := h3
  rcases h4 with h | h
  · exact h1 h
  · exact h2 h
theorem Pan.pot {w : World} {q o : Nat} {n sl K : Int} {L : List Pn} (h : Pan w q o n sl K L) : ∃ o1, (o1 = o ∨ o1 = q) ∧ Pan w q o1 n sl K L ∧ POT w o1 := by
  have hl := h.lt
  obtain ⟨v, hh, hs, hk, ho⟩ := h
  rcases hs with ⟨rfl, rfl⟩ | ⟨cap, rfl, cur, hp, r⟩
  · exact ⟨q, .inr rfl, ⟨_, hh, .inl ⟨rfl, rfl⟩, hk, hl⟩, ⟨_, _, hh, .inr rfl⟩⟩
  · exact ⟨o, .inl rfl, ⟨_, hh, .inr ⟨cap, rfl, cur, hp, r⟩, hk, ho⟩, ⟨_, _, hp, .inl rfl⟩⟩
theorem Pan.at {w : World} {b o : Nat} {n sl K : Int} {L : List Pn} (h : Pan w b o n sl K L) : ∃ cs, w.heap[b]? = some (.cells cs 95 (0, 0)) := by
  obtain ⟨v, hh, _⟩ := h
  exact ⟨_, hh⟩
theorem own_blkP {w w' : World} {B : Nat} {e : TypeId} {size : Nat} {v : Value} {n : Nat} {xs : List Value} (h : w.ownsRow B e size v n xs) (hk : ∀ k, v.ownBlock = some k → k < w.heap.size → w'.heap[k]? = w.heap[k]?) : w'.ownsRow B e size v n xs := by
  obtain ⟨h1, h | ⟨g, cap, cur, rfl, h2, hh, r⟩⟩ := h
  · exact ⟨h1, .inl h⟩
  · exact ⟨h1, .inr ⟨g, cap, cur, rfl, h2, (hk g rfl (Array.getElem?_eq_some_iff.1 hh).1).trans hh, r⟩⟩
theorem own_at {w : World} {B : Nat} {e : TypeId} {size : Nat} {v : Value} {n : Nat} {xs : List Value} (h : w.ownsRow B e size v n xs) : ∀ k, v.ownBlock = some k → (∃ cs, w.heap[k]? = some (.cells cs e (0, 0))) ∧ B ≤ k ∧ k < w.heap.size := by
  obtain ⟨_, ⟨rfl, _⟩ | ⟨g, cap, cur, rfl, h2, hh, _⟩⟩ := h
  · intro k hk; cases hk
  · intro k hk
    simp only [Value.ownBlock, Option.some.injEq] at hk
    subst hk
    exact ⟨⟨cur, hh⟩, h2, (Array.getElem?_eq_some_iff.1 hh).1⟩
theorem cells_type {w : World} {a b : Nat} {cs ds : Array Value} {T U : TypeId} (h1 : w.heap[a]? = some (.cells cs T (0, 0))) (h2 : w.heap[b]? = some (.cells ds U (0, 0))) (h : T ≠ U) : a ≠ b := by
  intro e; subst e; rw [h1] at h2; simp at h2; exact h h2.2

/-- The program's panes La in blocks b and o, the document's own Ld in block gq. -/
structure PP (w X : World) (g0 b o gq : Nat) (n sl K : Int) (La Ld : List Pn) (x : Value) : Prop where
  P : Pan X b o n sl K La
  ot : POT X o
  Q : Qb X gq n sl K x
  xo : X.ownsRow g0 105 5 x Ld.length (qcs Ld)
  B : Below g0 w X
  z : g0 ≤ b ∧ g0 ≤ o ∧ g0 ≤ gq
section
variable {w X X' : World} {g0 b o gq : Nat} {n sl K : Int} {La Ld : List Pn} {x : Value}
theorem PP.size (h : PP w X g0 b o gq n sl K La Ld x) : g0 ≤ X.heap.size ∧ b < X.heap.size ∧ o < X.heap.size ∧ gq < X.heap.size := by
  have h1 := h.P.lt
  have h2 := h.ot.lt
  have h3 := h.Q.lt
  have h4 := h.z
  omega
theorem PP.apart (h : PP w X g0 b o gq n sl K La Ld x) : gq ≠ b ∧ gq ≠ o ∧ ∀ k, x.ownBlock = some k → k ≠ b ∧ k ≠ o ∧ k ≠ gq ∧ k < X.heap.size := by
  obtain ⟨cs, hb⟩ := h.P.at
  have hq : X.heap[gq]? = _ := h.Q
  refine ⟨cells_type hq hb (by decide), h.ot.ne hq (by decide) (by decide), fun k hk => ?_⟩
  obtain ⟨⟨ds, hd⟩, _, hl⟩ := own_at h.xo k hk
  exact ⟨cells_type hd hb (by decide), h.ot.ne hd (by decide) (by decide), cells_type hd hq (by decide), hl⟩
theorem PP.call (h : PP w X g0 b o gq n sl K La Ld x) (hb : Below X.heap.size X X') : PP w X' g0 b o gq n sl K La Ld x := by
  have hs := h.size
  exact ⟨h.P.below hb, h.ot.keep (hb.block o h.ot.lt), h.Q.keep (hb.block gq h.Q.lt), own_blkP h.xo (fun k _ hk => hb.block k hk), h.B.trans (hb.mono hs.1), h.z⟩
/-- The program's panes turn. -/
theorem PP.put (h : PP w X g0 b o gq n sl K La Ld x) {o' : Nat} {La' : List Pn} (hP : Pan X' b o' n sl K La') (hc : Ch b o X X') (ho : o' = o ∨ X.heap.size ≤ o') : ∃ o1, PP w X' g0 b o1 gq n sl K La' Ld x ∧ (o1 = o ∨ o1 = b ∨ X.heap.size ≤ o1) := by
  obtain ⟨s0, s1, s2, s3⟩ := h.size
  obtain ⟨a1, a2, a3⟩ := h.apart
  obtain ⟨z1, z2, z3⟩ := h.z
  obtain ⟨o1, ho1, hP1, hot⟩ := hP.pot
  refine ⟨o1, ⟨hP1, hot, h.Q.keep (hc.other gq s3 a1 a2), own_blkP h.xo (fun k hk hl => hc.other k hl (a3 k hk).1 (a3 k hk).2.1), h.B.trans (hc.below z1 z2 s0), ⟨z1, ?_, z3⟩⟩, ?_⟩
  · rcases ho1 with rfl | rfl
    · rcases ho with rfl | ho <;> omega
    · exact z1
  · rcases ho1 with rfl | rfl
    · rcases ho with rfl | ho
      · exact .inl rfl
      · exact .inr (.inr ho)
    · exact .inr (.inl rfl)
/-- The document's own panes are laid anew in their block. -/
theorem PP.own (h : PP w X g0 b o gq n sl K La Ld x) {Ld' : List Pn} {x' : Value} (hx : X.ownsRow g0 105 5 x' Ld'.length (qcs Ld')) (hQ : Qb X' gq n sl K x') (hz : ∀ j, j ≠ gq → X'.heap[j]? = X.heap[j]?) (hs : X'.heap.size = X.heap.size) (hb : ∀ B, B ≤ gq → Below B X X') : PP w X' g0 b o gq n sl K La Ld' x' := by
  obtain ⟨s0, s1, s2, s3⟩ := h.size
  obtain ⟨a1, a2, a3⟩ := h.apart
  obtain ⟨z1, z2, z3⟩ := h.z
  have hq : X.heap[gq]? = _ := h.Q
  have hb0 := hb 0 (Nat.zero_le _)
  refine ⟨h.P.keep (b' := gq) (o' := gq) ⟨hb0.os, hb0.tape, hb0.output, Nat.le_of_eq hs.symm, fun y _ hy _ => hz y hy⟩ (fun e => a1 e.symm) (fun e => a1 e.symm) (fun e => a2 e.symm) (fun e => a2 e.symm), h.ot.keep (hz o (fun e => a2 e.symm)), hQ, own_blkP hx (fun k hk _ => hz k ?_), h.B.trans (hb g0 z3), h.z⟩
  obtain ⟨⟨ds, hd⟩, _, hl⟩ := own_at hx k hk
  exact cells_type hd hq (by decide)
/-- A copy takes their place, whatever becomes of them. -/
theorem PP.twin (h : PP w X g0 b o gq n sl K La Ld x) {X1 X3 : World} {b1 o1 : Nat} (hP : Pan X1 b1 o1 n sl K La) (hb : Below X.heap.size X X1) (h1 : X.heap.size ≤ b1) (h2 : X.heap.size ≤ o1) (hc : Ch b o X1 X3) : ∃ o3, PP w X3 g0 b1 o3 gq n sl K La Ld x := by
  obtain ⟨s0, s1, s2, s3⟩ := h.size
  obtain ⟨a1, a2, a3⟩ := h.apart
  obtain ⟨z1, z2, z3⟩ := h.z
  obtain ⟨o3, ho3, hP3, hot⟩ := hP.pot
  have ho3' : X.heap.size ≤ o3 := by rcases ho3 with rfl | rfl <;> assumption
  have hc1 := h.call hb
  have hz := hb.size
  refine ⟨o3, hP3.keep hc (by omega) (by omega) (by omega) (by omega), hot.keep (hc.other o3 hot.lt (by omega) (by omega)), hc1.Q.keep (hc.other gq (by omega) a1 a2), own_blkP hc1.xo (fun k hk hl => hc.other k hl (a3 k hk).1 (a3 k hk).2.1), hc1.B.trans (hc.below z1 z2 (by omega)), ⟨by omega, by omega, z3⟩⟩
end
/-- The first ones of events. -/
theorem RdE.take {w : World} {a : Option Addr} {m c q : Nat} {es : List Ev} (h : RdE w (.slice a m c) q es) (k : Nat) (hk : k ≤ es.length) : RdE w (.slice a k c) q (es.take k) := by
  obtain ⟨h1, h2, ao, cap, he, h3, h4, hc⟩ := h
  injection he with e1 e2 e3
  subst e1 e3
  have hl : (es.take k).length = k := by rw [List.length_take]; omega
  refine ⟨by omega, fun e he => h2 e (List.mem_of_mem_take he), _, _, by rw [hl], by omega, h4, fun hn => ?_⟩
  obtain ⟨off, rfl, hl2, hcell⟩ := hc (by omega)
  refine ⟨off, rfl, hl2, fun j hj => ?_⟩
  rw [hl] at hj
  have e1 : eAt (es.take k) j = eAt es j := by simp only [eAt, List.getD_eq_getElem?_getD, List.getElem?_take_of_lt hj]
  rw [e1]
  exact hcell j (by omega)
/-- An ask's block. -/
def Akk (w : World) (b : Nat) (x y : Int) (v : Value) : Prop := w.heap[b]? = some (.cells #[.int .i64 x, .int .i64 y, v] 31 (0, 0))
theorem Akk.c {w : World} {b : Nat} {x y : Int} {v : Value} (h : Akk w b x y v) : w.cell? ⟨b, 0, none⟩ = some (.int .i64 x) ∧ w.cell? ⟨b, 1, none⟩ = some (.int .i64 y) ∧ w.cell? ⟨b, 2, none⟩ = some v := by
  unfold Akk at h; exact ⟨by simp [World.cell?, h], by simp [World.cell?, h], by simp [World.cell?, h]⟩
theorem Akk.lt {w : World} {b : Nat} {x y : Int} {v : Value} (h : Akk w b x y v) : b < w.heap.size := (Array.getElem?_eq_some_iff.1 h).1
theorem Akk.call {w w' : World} {b : Nat} {x y : Int} {v : Value} (h : Akk w b x y v) (hb : Below w.heap.size w w') : Akk w' b x y v := (hb.block b h.lt).trans h
theorem akk_new (w : World) (x y : Int) (v : Value) : Akk (w.alloc (.cells #[.int .i64 x, .int .i64 y, v] 31)) w.heap.size x y v := by
  show (w.heap.push _)[w.heap.size]? = _
  simp
end Go.Proofs.Ytombgbdplafooaa
