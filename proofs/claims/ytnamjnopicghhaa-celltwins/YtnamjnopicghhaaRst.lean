/- A runner as a thing: New, Take, Twin. -/
import Derived.Test.YtnamjnopicghhaaBk
import Derived.Test.YtnamjnopicghhaaMathX
import Derived.Test.YtnamjnopicghhaaRApp
namespace Go.Proofs.Ytnamjnopicghhaa
open Go.RowKit M
open O.MO (Oq Pq rightP)
set_option linter.unusedVariables false
set_option linter.unusedSimpArgs false
attribute [local go_sem ↓] Go.wp_at_zero Go.wp_at_succ

/-- A list of operations of the call's own. -/
def opT (v : Value) (os : List Oq) : Th where
  P w F := OpsIn w v os ∧ ∀ k, F k ↔ v.ownBlock = some k
  lt h k hk := h.1.lt k ((h.2 k).1 hk)
  keep h hz hk := ⟨h.1.keep (fun k x _ => hk k ((h.2 k).2 x)), h.2⟩
theorem St.op {W0 w : World} {us : List Th} {v : Value} {os : List Oq} (h : St W0 w (opT v os :: us)) : OpsIn w v os := by
  obtain ⟨F, h1, _⟩ := h.get
  exact h1.1
section
variable {W0 : World} {us : List Th}
/-- runner.New of a right pipe. -/
theorem rnew_st (v : Value) (p : Pq) (w : World) (hS : St W0 w us) (hv : OpsIn w v p.os) (hr : rightP p = true) (hl : p.os.length ≤ 1000) :
    Calls Try.prog 31 #[O.pv v p.n p.s p.a p.k p.f] w fun e w' => ∃ b, e = .returned (.pointer (some ⟨b, 0, none⟩)) ∧ St W0 w' (rnt b p r0 :: us) := by
  refine (new_is v p w hv hr hl).mono ?_
  rintro e w' ⟨b, q, o, g, rfl, hR, h1, h2, h3, h4, hb⟩
  refine ⟨b, rfl, hS.new (F := fun k => k = b ∨ k = q ∨ k = o ∨ k = g) hb ⟨q, o, g, hR, fun k => Iff.rfl⟩ (fun k hk => ?_)⟩
  rcases hk with rfl | rfl | rfl | rfl <;> assumption
/-- Runner.Twin. -/
theorem rtwin_st (b : Nat) (p : Pq) (r : Rs) (w : World) (hS : St W0 w (rnt b p r :: us)) (hl : r.L.length ≤ 1000000) (hos : p.os.length ≤ 1000) :
    Calls Try.prog 45 #[.pointer (some ⟨b, 0, none⟩)] w fun e w' => ∃ b', e = .returned (.pointer (some ⟨b', 0, none⟩)) ∧ St W0 w' (rnt b' p r :: rnt b p r :: us) ∧ Below w.heap.size w w' := by
  obtain ⟨F, ⟨q, o, g, hR, hF⟩, _⟩ := hS.get
  refine (twin_is b q o g p r w hR hl hos).mono ?_
  rintro e w' ⟨b', q', o', g', rfl, hR2, h1, h2, h3, h4, hb⟩
  refine ⟨b', rfl, hS.new (F := fun k => k = b' ∨ k = q' ∨ k = o' ∨ k = g') hb ⟨q', o', g', hR2, fun k => Iff.rfl⟩ (fun k hk => ?_), hb⟩
  rcases hk with rfl | rfl | rfl | rfl <;> assumption
/-- Runner.Take. -/
theorem rtake_st (b : Nat) (p : Pq) (r : Rs) (v : Value) (is : List Inp) (w : World) (hS : St W0 w (rnt b p r :: inl v is :: us))
    (hl : r.L.length + 8 * is.length ≤ 800000) (hlt : 0 ≤ r.l ∧ r.l + is.length ≤ 1000000) (hsn : 0 ≤ r.s ∧ r.s + is.length ≤ 1000000) :
    Calls Try.prog 38 #[.pointer (some ⟨b, 0, none⟩), v] w fun e w' => ∃ u, e = .returned u ∧ St W0 w' (rwl u (rowsR p r is) :: rnt b p (stR p r is) :: inl v is :: us) := by
  obtain ⟨F, hs, hlo, hact⟩ := St.acts (ts := [rnt b p r, inl v is]) hS
  cases hs with
  | cons h1 h2 h3 =>
    cases h2 with
    | cons h4 h5 h6 =>
      cases h5
      obtain ⟨q, o, g, hR, hF⟩ := h1
      obtain ⟨hq, hlab, hG⟩ := h4
      obtain ⟨qb, hI, hk1, hk2⟩ := hq.rdi hlab w.heap.size
      obtain ⟨l1, l2, l3, l4⟩ := hR.lt
      have hvb : ∀ x, (x = b ∨ x = q ∨ x = o ∨ x = g) → v.ownBlock ≠ some x := fun x hx e => h3 x ((hF x).2 hx) (.inl ((hG x).2 e))
      have hne : ∀ x, (x = b ∨ x = q ∨ x = o ∨ x = g) → qb ≠ x := by
        intro x hx e
        have hxl : x < w.heap.size := by omega
        cases hv : v.ownBlock with
        | none => have := hk2 hv; omega
        | some k =>
          have := hk1 k hv
          exact hvb x hx (by rw [hv]; congr 1; omega)
      refine (rtake_is b q o g p r v qb is w hR hI (hne b (by simp)) (hne q (by simp)) (hne o (by simp)) hl hlt hsn).mono ?_
      rintro e w' ⟨u, o', rfl, hu, hR2, ho, hch⟩
      have hvl : ∀ k, v.ownBlock = some k → k < w.heap.size := hq.lt
      have hub : ∀ k, u.ownBlock = some k → w.heap.size ≤ k := fun k hk => (hu.lt k hk).1
      have hap := own_rows_apart hu hR2 l1 l2
      have hvk : ∀ k, v.ownBlock = some k → w'.heap[k]? = w.heap[k]? := fun k hk => hch.other k (hvl k hk) (fun e => hvb k (by simp [e]) hk) (fun e => hvb k (by simp [e]) hk) (fun e => hvb k (by simp [e]) hk)
      refine ⟨u, rfl, hact w' [rwl u (rowsR p r is), rnt b p (stR p r is), inl v is] _ (.cons (F := fun k => u.ownBlock = some k) ⟨own_mono hu (Nat.zero_le _), fun k => Iff.rfl⟩ (.cons (F := fun k => k = b ∨ k = q ∨ k = o' ∨ k = g) ⟨q, o', g, hR2, fun k => Iff.rfl⟩ (.cons (F := fun k => v.ownBlock = some k) ⟨hq.keep hvk, hlab, fun k => Iff.rfl⟩ .nil (fun _ _ h => h)) ?_) ?_) ?_ ?_⟩
      · intro k hk hk3
        rcases hk3 with hk3 | hk3
        · have := hvl k hk3
          exact hvb k (by omega) hk3
        · exact hk3
      · intro k hk hk3
        have := hub k hk
        obtain ⟨e1, e2, e3⟩ := hap k hk
        rcases hk3 with (h | h | h | h) | h | h
        · exact e1 h
        · exact e2 h
        · exact e3 h
        · omega
        · have := hvl k h; omega
        · exact h
      · intro k hk
        rcases hk with hk | hk | hk | hk
        · exact .inr (hub k hk)
        · by_cases hko : k = o'
          · subst hko
            rcases ho with rfl | rfl | ho
            · exact .inl (.inl ((hF _).2 (by simp)))
            · exact .inl (.inl ((hF _).2 (by simp)))
            · exact .inr ho
          · exact .inl (.inl ((hF k).2 (by omega)))
        · exact .inl (.inr (.inl ((hG k).2 hk)))
        · exact hk.elim
      · exact ⟨hch.os, hch.tape, hch.output, hch.size, fun k hk hn => hch.other k hk (fun e => hn (.inl ((hF k).2 (by simp [e])))) (fun e => hn (.inl ((hF k).2 (by simp [e])))) (fun e => hn (.inl ((hF k).2 (by simp [e]))))⟩
/-- Rows behind a list of rows. -/
theorem St.growr {R R1 : List Pn} {v v1 : Value} {w w1 : World} (h : St W0 w (rwl v R :: us)) (hq : w1.ownsRow 0 39 5 v1 R1.length (rcs R1)) (hg : w.grownBy w1 v.ownBlock) (hf : ∀ k, v1.ownBlock = some k → v.ownBlock = some k ∨ w.heap.size ≤ k) : St W0 w1 (rwl v1 R1 :: us) := by
  obtain ⟨F, h1, _, h2⟩ := h.act
  refine h2 w1 (rwl v1 R1) (fun k => v1.ownBlock = some k) ⟨hq, fun k => Iff.rfl⟩ (fun k hk => ?_) ((Chf.grown hg).mono (fun k hk => (h1.2 k).2 hk))
  rcases hf k hk with h | h
  · exact .inl ((h1.2 k).2 h)
  · exact .inr h
theorem St.rw {R : List Pn} {v : Value} {w : World} (h : St W0 w (rwl v R :: us)) : w.ownsRow 0 39 5 v R.length (rcs R) := by
  obtain ⟨F, h1, _⟩ := h.get
  exact h1.1
end
/-- A Cell: what its quota has left, what was spent, how often it refused, what waits, what it has taken. -/
def cel (c : Nat) (p : Pq) (i l s f : Int) (wait taken : List Inp) : Th where
  P w F := ∃ v b vr vt, Sep w [cb c l s f v b i vr vt, inl v wait, rnt b p (stR p r0 taken), rwl vr (rowsR p r0 taken), inl vt taken] F
  lt h k hk := by
    obtain ⟨v, b, vr, vt, h⟩ := h
    exact h.lt k hk
  keep h hz hk := by
    obtain ⟨v, b, vr, vt, h⟩ := h
    exact ⟨v, b, vr, vt, h.keep hz hk⟩
section
variable {W0 w : World} {us : List Th} {c : Nat} {p : Pq} {i l s f : Int} {wait taken : List Inp}
theorem St.opn (h : St W0 w (cel c p i l s f wait taken :: us)) : ∃ v b vr vt, St W0 w (cb c l s f v b i vr vt :: inl v wait :: rnt b p (stR p r0 taken) :: rwl vr (rowsR p r0 taken) :: inl vt taken :: us) := by
  obtain ⟨F, hs, _, hact⟩ := St.acts (ts := [cel c p i l s f wait taken]) h
  cases hs with
  | cons h1 h2 h3 =>
    cases h2
    obtain ⟨v, b, vr, vt, h4⟩ := h1
    exact ⟨v, b, vr, vt, hact w _ _ h4 (fun k hk => .inl (.inl hk)) (Chf.refl _ _)⟩
theorem St.cls {v : Value} {b : Nat} {vr vt : Value} (h : St W0 w (cb c l s f v b i vr vt :: inl v wait :: rnt b p (stR p r0 taken) :: rwl vr (rowsR p r0 taken) :: inl vt taken :: us)) : St W0 w (cel c p i l s f wait taken :: us) := by
  obtain ⟨F, hs, _, hact⟩ := St.acts (ts := [cb c l s f v b i vr vt, inl v wait, rnt b p (stR p r0 taken), rwl vr (rowsR p r0 taken), inl vt taken]) h
  exact hact w [cel c p i l s f wait taken] _ (.cons ⟨v, b, vr, vt, hs⟩ .nil (fun k _ h => h)) (fun k hk => by
    rcases hk with hk | hk
    · exact .inl hk
    · exact hk.elim) (Chf.refl _ _)
end
end Go.Proofs.Ytnamjnopicghhaa
