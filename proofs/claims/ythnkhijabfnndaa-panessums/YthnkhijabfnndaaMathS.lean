/- Plain mathematics: the panes of the four kinds beside each other. Nothing of the program is in this text. -/
import Derived.Test.YthnkhijabfnndaaMathO
namespace Go.Proofs.Ythnkhijabfnndaa.M
open Go.RowKit

theorem kinds_map (n sl K : Int) (es : List Ev) (h : es.length ≤ 1000) : putL n sl K [] es = (putL n sl 1 [] es).map fun p => mk K p.s p.k (upl n sl es) := by
  have h1 := inv_putL n sl 1 es h
  have h2 := inv_putL n sl K es h
  refine srt_ext _ _ h2.srt ?_ fun p => ?_
  · unfold Srt
    rw [List.pairwise_map]
    exact h1.srt
  · rw [inv_mem h2, List.mem_map]
    constructor
    · rintro ⟨e, hne⟩
      refine ⟨mk 1 p.s p.k (upl n sl es), (inv_mem h1 _).2 ⟨rfl, hne⟩, e.symm⟩
    · rintro ⟨q, hq, rfl⟩
      exact ⟨rfl, (h1.is q hq).2⟩
theorem sum_ge (a : Int) : ∀ l : List Int, (∀ x ∈ l, a ≤ x) → (l.length : Int) * a ≤ l.sum
  | [], _ => by simp
  | x :: r, h => by
    have h1 := sum_ge a r (fun y hy => h y (by simp [hy]))
    have h2 := h x (by simp)
    rw [List.length_cons, List.sum_cons]
    have : ((r.length + 1 : Nat) : Int) * a = (r.length : Int) * a + a := by rw [show ((r.length + 1 : Nat) : Int) = (r.length : Int) + 1 by omega, Int.add_mul, Int.one_mul]
    omega
theorem sum_le (a : Int) : ∀ l : List Int, (∀ x ∈ l, x ≤ a) → l.sum ≤ (l.length : Int) * a
  | [], _ => by simp
  | x :: r, h => by
    have h1 := sum_le a r (fun y hy => h y (by simp [hy]))
    have h2 := h x (by simp)
    rw [List.length_cons, List.sum_cons]
    have : ((r.length + 1 : Nat) : Int) * a = (r.length : Int) * a + a := by rw [show ((r.length + 1 : Nat) : Int) = (r.length : Int) + 1 by omega, Int.add_mul, Int.one_mul]
    omega
/-- What one place holds, of each kind. -/
structure Quad (p1 p2 p3 p4 : Pn) : Prop where
  s4 : p4.s = p1.s
  k3 : p3.k = p1.k
  c2 : p2.c = p1.c
  v1 : p1.v = p1.c
  c1 : 1 ≤ p1.c ∧ p1.c ≤ 120
  v34 : p3.v ≤ p4.v
  lo : p1.c * p3.v ≤ p2.v
  hi : p2.v ≤ p1.c * p4.v
  b3 : -1000 ≤ p3.v ∧ p3.v ≤ 1000
  b4 : -1000 ≤ p4.v ∧ p4.v ≤ 1000
theorem quad_of (n sl : Int) (es : List Ev) (h : es.length ≤ 15) (hv : ∀ e ∈ es, -1000 ≤ e.v ∧ e.v ≤ 1000) (s k : Int) (hne : sel s k (upl n sl es) ≠ []) :
    Quad (mk 1 s k (upl n sl es)) (mk 2 s k (upl n sl es)) (mk 3 s k (upl n sl es)) (mk 4 s k (upl n sl es)) := by
  obtain ⟨vs, hvs⟩ : ∃ vs, (sel s k (upl n sl es)).map (·.v) = vs := ⟨_, rfl⟩
  have hlen : (sel s k (upl n sl es)).length = vs.length := by rw [← hvs, List.length_map]
  have hl : vs.length ≤ 120 := by
    rw [← hlen]
    have h1 : (sel s k (upl n sl es)).length ≤ (upl n sl es).length := List.length_filter_le _ _
    have h2 := upl_len n sl es
    omega
  have hpos : 1 ≤ vs.length := by rw [← hlen]; exact List.length_pos_iff.2 hne
  have hvne : vs ≠ [] := by intro e; rw [e] at hpos; simp at hpos
  have hb : ∀ x ∈ vs, -1000 ≤ x ∧ x ≤ 1000 := by
    intro x hx
    rw [← hvs, List.mem_map] at hx
    obtain ⟨u, hu, rfl⟩ := hx
    simp only [sel, List.mem_filter] at hu
    have hu1 := hu.1
    unfold upl at hu1
    rw [List.mem_flatMap] at hu1
    obtain ⟨e, he, hue⟩ := hu1
    unfold ups at hue
    rw [List.mem_map] at hue
    obtain ⟨y, _, rfl⟩ := hue
    exact hv e he
  have m3 := hb _ (least_mem vs hvne)
  have m4 := hb _ (great_mem vs hvne)
  have hs1 := sum_ge (val 3 vs) vs (fun x hx => least_le vs x hx)
  have hs2 := sum_le (val 4 vs) vs (fun x hx => le_great vs x hx)
  have hc1 : -120000 ≤ (vs.length : Int) * val 3 vs := by
    have := Int.mul_le_mul_of_nonneg_left m3.1 (show (0 : Int) ≤ vs.length by omega)
    omega
  have hc2 : (vs.length : Int) * val 4 vs ≤ 120000 := by
    have := Int.mul_le_mul_of_nonneg_left m4.2 (show (0 : Int) ≤ vs.length by omega)
    omega
  have e2 : val 2 vs = vs.sum := by rw [val2, wrap_in _ (by omega)]
  have e1 : val 1 vs = vs.length := by rw [val1, wrap_in _ (by omega)]
  have h34 : val 3 vs ≤ val 4 vs := Int.le_trans (least_le vs _ (great_mem vs hvne)) (Int.le_refl _)
  unfold mk
  rw [hvs, hlen]
  exact ⟨rfl, rfl, rfl, e1, by show 1 ≤ (vs.length : Int) ∧ (vs.length : Int) ≤ 120; omega, h34, by show (vs.length : Int) * val 3 vs ≤ val 2 vs; rw [e2]; exact hs1, by show val 2 vs ≤ (vs.length : Int) * val 4 vs; rw [e2]; exact hs2, m3, m4⟩
theorem quads (n sl : Int) (es : List Ev) (h : es.length ≤ 15) (hv : ∀ e ∈ es, -1000 ≤ e.v ∧ e.v ≤ 1000) :
    (putL n sl 2 [] es).length = (putL n sl 1 [] es).length ∧ (putL n sl 3 [] es).length = (putL n sl 1 [] es).length ∧ (putL n sl 4 [] es).length = (putL n sl 1 [] es).length ∧
    ∀ i, i < (putL n sl 1 [] es).length → Quad (pAt (putL n sl 1 [] es) i) (pAt (putL n sl 2 [] es) i) (pAt (putL n sl 3 [] es) i) (pAt (putL n sl 4 [] es) i) := by
  have k2 := kinds_map n sl 2 es (by omega)
  have k3 := kinds_map n sl 3 es (by omega)
  have k4 := kinds_map n sl 4 es (by omega)
  have h1 := inv_putL n sl 1 es (by omega)
  refine ⟨by rw [k2, List.length_map], by rw [k3, List.length_map], by rw [k4, List.length_map], fun i hi => ?_⟩
  have hp := h1.is _ (pAt_mem _ i hi)
  have q := quad_of n sl es h hv _ _ hp.2
  have at_map : ∀ K : Int, pAt ((putL n sl 1 [] es).map fun p => mk K p.s p.k (upl n sl es)) i = mk K (pAt (putL n sl 1 [] es) i).s (pAt (putL n sl 1 [] es) i).k (upl n sl es) := fun K => by
    simp [pAt, List.getD_eq_getElem?_getD, hi]
  rw [k2, k3, k4, at_map, at_map, at_map]
  rw [← hp.1] at q
  exact q
end Go.Proofs.Ythnkhijabfnndaa.M
