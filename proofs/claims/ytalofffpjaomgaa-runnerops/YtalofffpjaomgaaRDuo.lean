/- Two runners in memory, apart; two lists of rows of the call's own beside them. -/
import Derived.Test.YtalofffpjaomgaaRApp
import Derived.Test.YtalofffpjaomgaaRLate
namespace Go.Proofs.Ytalofffpjaomgaa
open Go.RowKit M
open O.MO (Oq Pq rightP)
set_option linter.unusedVariables false

theorem new_ne {o' oa qa z x : Nat} (ho : o' = oa ∨ o' = qa ∨ z ≤ o') (h1 : oa ≠ x) (h2 : qa ≠ x) (h3 : x < z) : o' ≠ x := by
  rcases ho with rfl | rfl | h
  · exact h1
  · exact h2
  · omega
/-- Two runners, apart. -/
structure Duo (w : World) (ba qa oa ga bb qb ob gb : Nat) (pa pb : Pq) (ra rb : Rs) : Prop where
  a : Rnr w ba qa oa ga pa ra
  b : Rnr w bb qb ob gb pb rb
  n1 : ba ≠ bb ∧ ba ≠ qb ∧ ba ≠ ob ∧ ba ≠ gb
  n2 : qa ≠ bb ∧ qa ≠ qb ∧ qa ≠ ob ∧ qa ≠ gb
  n3 : oa ≠ bb ∧ oa ≠ qb ∧ oa ≠ ob ∧ oa ≠ gb
  n4 : ga ≠ bb ∧ ga ≠ qb ∧ ga ≠ ob
section
variable {w w' : World} {ba qa oa ga bb qb ob gb : Nat} {pa pb : Pq} {ra rb : Rs}
theorem Duo.below (h : Duo w ba qa oa ga bb qb ob gb pa pb ra rb) (hb : Below w.heap.size w w') : Duo w' ba qa oa ga bb qb ob gb pa pb ra rb :=
  ⟨h.a.below hb, h.b.below hb, h.n1, h.n2, h.n3, h.n4⟩
theorem Duo.takeA (h : Duo w ba qa oa ga bb qb ob gb pa pb ra rb) {o' : Nat} {r' : Rs} (hA : Rnr w' ba qa o' ga pa r') (hc : Ch3 ba qa oa w w') (ho : o' = oa ∨ o' = qa ∨ w.heap.size ≤ o') : Duo w' ba qa o' ga bb qb ob gb pa pb r' rb := by
  obtain ⟨a1, a2, a3, a4⟩ := h.b.lt
  obtain ⟨x1, x2, x3, x4⟩ := h.n1
  obtain ⟨y1, y2, y3, y4⟩ := h.n2
  obtain ⟨z1, z2, z3, z4⟩ := h.n3
  exact ⟨hA, h.b.keep hc ⟨x1.symm, y1.symm, z1.symm⟩ ⟨x2.symm, y2.symm, z2.symm⟩ ⟨x3.symm, y3.symm, z3.symm⟩ ⟨x4.symm, y4.symm, z4.symm⟩, h.n1, h.n2, ⟨new_ne ho z1 y1 a1, new_ne ho z2 y2 a2, new_ne ho z3 y3 a3, new_ne ho z4 y4 a4⟩, h.n4⟩
theorem Duo.takeB (h : Duo w ba qa oa ga bb qb ob gb pa pb ra rb) {o' : Nat} {r' : Rs} (hB : Rnr w' bb qb o' gb pb r') (hc : Ch3 bb qb ob w w') (ho : o' = ob ∨ o' = qb ∨ w.heap.size ≤ o') : Duo w' ba qa oa ga bb qb o' gb pa pb ra r' := by
  obtain ⟨a1, a2, a3, a4⟩ := h.a.lt
  obtain ⟨x1, x2, x3, x4⟩ := h.n1
  obtain ⟨y1, y2, y3, y4⟩ := h.n2
  obtain ⟨z1, z2, z3, z4⟩ := h.n3
  obtain ⟨u1, u2, u3⟩ := h.n4
  exact ⟨h.a.keep hc ⟨x1, x2, x3⟩ ⟨y1, y2, y3⟩ ⟨z1, z2, z3⟩ ⟨u1, u2, u3⟩, hB, ⟨x1, x2, (new_ne ho x3.symm x2.symm a1).symm, x4⟩, ⟨y1, y2, (new_ne ho y3.symm y2.symm a2).symm, y4⟩, ⟨z1, z2, (new_ne ho z3.symm z2.symm a3).symm, z4⟩, ⟨u1, u2, (new_ne ho u3.symm u2.symm a4).symm⟩⟩
end
theorem own_alloc_below' {w w' : World} {B : Nat} {e : TypeId} {size : Nat} {v : Value} {n : Nat} {xs : List Value} (h : w.ownsRow B e size v n xs) (hb : Below w.heap.size w w') : w'.ownsRow B e size v n xs := own_below h hb
/-- Two runners, two lists of rows, inputs that are read. -/
structure KQ (W0 w : World) (B ba qa oa ga bb qb ob gb qi : Nat) (pa pb : Pq) (ra rb : Rs) (u v : Value) (L M : List Pn) (iu : Value) (is : List Inp) : Prop where
  duo : Duo w ba qa oa ga bb qb ob gb pa pb ra rb
  hu : w.ownsRow B 45 5 u L.length (rcs L)
  hv : w.ownsRow B 45 5 v M.length (rcs M)
  ne : ∀ k, u.ownBlock = some k → v.ownBlock ≠ some k
  rd : RdI w iu qi is
  hq : qi ≠ ba ∧ qi ≠ qa ∧ qi ≠ oa ∧ qi ≠ bb ∧ qi ≠ qb ∧ qi ≠ ob
  hB : ba < B ∧ qa < B ∧ ga < B ∧ bb < B ∧ qb < B ∧ gb < B ∧ qi < B
  h0 : W0.heap.size ≤ ba ∧ W0.heap.size ≤ qa ∧ W0.heap.size ≤ oa ∧ W0.heap.size ≤ bb ∧ W0.heap.size ≤ qb ∧ W0.heap.size ≤ ob
  bel : Below W0.heap.size W0 w
section
variable {W0 w w' : World} {B ba qa oa ga bb qb ob gb qi : Nat} {pa pb : Pq} {ra rb : Rs} {u v : Value} {L M : List Pn} {iu : Value} {is : List Inp}
theorem KQ.below (h : KQ W0 w B ba qa oa ga bb qb ob gb qi pa pb ra rb u v L M iu is) (hb : Below w.heap.size w w') : KQ W0 w' B ba qa oa ga bb qb ob gb qi pa pb ra rb u v L M iu is :=
  ⟨h.duo.below hb, own_below h.hu hb, own_below h.hv hb, h.ne, h.rd.below hb, h.hq, h.hB, h.h0, below_call h.bel hb⟩
theorem KQ.takeA (h : KQ W0 w B ba qa oa ga bb qb ob gb qi pa pb ra rb u v L M iu is) (hqz : qi < w.heap.size) {o' : Nat} {r' : Rs} (hR : Rnr w' ba qa o' ga pa r') (hc : Ch3 ba qa oa w w') (ho : o' = oa ∨ o' = qa ∨ w.heap.size ≤ o') : KQ W0 w' B ba qa o' ga bb qb ob gb qi pa pb r' rb u v L M iu is := by
  obtain ⟨k1, k2, k3, k4, k5, k6⟩ := h.hq
  obtain ⟨B1, B2, B3, B4, B5, B6, B7⟩ := h.hB
  obtain ⟨z1, z2, z3, z4, z5, z6⟩ := h.h0
  have hz := h.bel.size
  have ho0 : W0.heap.size ≤ o' := by rcases ho with rfl | rfl | h; assumption; assumption; omega
  exact ⟨h.duo.takeA hR hc ho, own_ch3 h.hu hc (own_rows_apart h.hu h.duo.a B1 B2), own_ch3 h.hv hc (own_rows_apart h.hv h.duo.a B1 B2), h.ne, h.rd.ch hc k1 k2 k3, ⟨k1, k2, (new_ne ho k3.symm k2.symm hqz).symm, k4, k5, k6⟩, h.hB, ⟨z1, z2, ho0, z4, z5, z6⟩, h.bel.trans (hc.below z1 z2 z3 hz)⟩
theorem KQ.takeB (h : KQ W0 w B ba qa oa ga bb qb ob gb qi pa pb ra rb u v L M iu is) (hqz : qi < w.heap.size) {o' : Nat} {r' : Rs} (hR : Rnr w' bb qb o' gb pb r') (hc : Ch3 bb qb ob w w') (ho : o' = ob ∨ o' = qb ∨ w.heap.size ≤ o') : KQ W0 w' B ba qa oa ga bb qb o' gb qi pa pb ra r' u v L M iu is := by
  obtain ⟨k1, k2, k3, k4, k5, k6⟩ := h.hq
  obtain ⟨B1, B2, B3, B4, B5, B6, B7⟩ := h.hB
  obtain ⟨z1, z2, z3, z4, z5, z6⟩ := h.h0
  have hz := h.bel.size
  have ho0 : W0.heap.size ≤ o' := by rcases ho with rfl | rfl | h; assumption; assumption; omega
  exact ⟨h.duo.takeB hR hc ho, own_ch3 h.hu hc (own_rows_apart h.hu h.duo.b B4 B5), own_ch3 h.hv hc (own_rows_apart h.hv h.duo.b B4 B5), h.ne, h.rd.ch hc k4 k5 k6, ⟨k1, k2, k3, k4, k5, (new_ne ho k6.symm k5.symm hqz).symm⟩, h.hB, ⟨z1, z2, z3, z4, z5, ho0⟩, h.bel.trans (hc.below z4 z5 z6 hz)⟩
theorem KQ.grow (h : KQ W0 w B ba qa oa ga bb qb ob gb qi pa pb ra rb u v L M iu is) {x : Value} {N : List Pn} (hx : w.ownsRow B 45 5 x N.length (rcs N)) (hg : w.grownBy w' x.ownBlock) (hb : Below B w w') (hBz : W0.heap.size ≤ B) : Duo w' ba qa oa ga bb qb ob gb pa pb ra rb ∧ RdI w' iu qi is ∧ Below W0.heap.size W0 w' := by
  obtain ⟨B1, B2, B3, B4, B5, B6, B7⟩ := h.hB
  have ap := own_rows_apart hx h.duo.a B1 B2
  have bp := own_rows_apart hx h.duo.b B4 B5
  have hlt := hx.lt
  refine ⟨⟨h.duo.a.grown hg hb.size (fun k hk => ?_), h.duo.b.grown hg hb.size (fun k hk => ?_), h.duo.n1, h.duo.n2, h.duo.n3, h.duo.n4⟩, h.rd.keep hb.size (fun _ => hb.block _ (by omega)), h.bel.trans (hb.mono hBz)⟩
  · obtain ⟨e1, e2, e3⟩ := ap k hk
    exact ⟨e1, e2, e3, by have := (hlt k hk).1; omega⟩
  · obtain ⟨e1, e2, e3⟩ := bp k hk
    exact ⟨e1, e2, e3, by have := (hlt k hk).1; omega⟩
theorem KQ.appU (h : KQ W0 w B ba qa oa ga bb qb ob gb qi pa pb ra rb u v L M iu is) (hBz : W0.heap.size ≤ B) {u' : Value} {L' : List Pn} (hu : w'.ownsRow B 45 5 u' L'.length (rcs L')) (hg : w.grownBy w' u.ownBlock) (hb : Below B w w') (hf : ∀ k, u'.ownBlock = some k → u.ownBlock = some k ∨ w.heap.size ≤ k) : KQ W0 w' B ba qa oa ga bb qb ob gb qi pa pb ra rb u' v L' M iu is := by
  obtain ⟨h1, h2, h3⟩ := h.grow h.hu hg hb hBz
  refine ⟨h1, hu, own_grown h.hv hg (fun k hk e => h.ne k e hk), fun k hk e => ?_, h2, h.hq, h.hB, h.h0, h3⟩
  rcases hf k hk with hk2 | hk2
  · exact h.ne k hk2 e
  · have := (h.hv.lt k e).2
    omega
theorem KQ.appV (h : KQ W0 w B ba qa oa ga bb qb ob gb qi pa pb ra rb u v L M iu is) (hBz : W0.heap.size ≤ B) {v' : Value} {M' : List Pn} (hv : w'.ownsRow B 45 5 v' M'.length (rcs M')) (hg : w.grownBy w' v.ownBlock) (hb : Below B w w') (hf : ∀ k, v'.ownBlock = some k → v.ownBlock = some k ∨ w.heap.size ≤ k) : KQ W0 w' B ba qa oa ga bb qb ob gb qi pa pb ra rb u v' L M' iu is := by
  obtain ⟨h1, h2, h3⟩ := h.grow h.hv hg hb hBz
  refine ⟨h1, own_grown h.hu hg (fun k hk e => h.ne k hk e), hv, fun k hk e => ?_, h2, h.hq, h.hB, h.h0, h3⟩
  rcases hf k e with hk2 | hk2
  · exact h.ne k hk hk2
  · have := (h.hu.lt k hk).2
    omega
end
end Go.Proofs.Ytalofffpjaomgaa
