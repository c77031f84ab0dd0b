/- Plain mathematics: how much all rows, and all that is open, count. Nothing of the program is in this text. -/
import Derived.Test.YtnamjnopicghhaaMathR
import Derived.Test.YtnamjnopicghhaaMathO
namespace Go.Proofs.Ytnamjnopicghhaa.M
open Go.RowKit
open Go.Proofs.Ytnamjnopicghhaa.O.MO (Oq Pq app zeroE)

def Cn (L : List Pn) (N : Int) : Prop := ∀ p ∈ L, 0 ≤ p.c ∧ p.c ≤ N
theorem cn_nil (N : Int) : Cn [] N := fun q hq => by cases hq
theorem wrap_ok {a : Int} (h0 : 0 ≤ a) (h1 : a ≤ 1000000) : wrap64 (a + 1) = a + 1 := by unfold wrap64; omega
theorem cn_upd {K s k x N : Int} {l : Nat} {L : List Pn} (h : Cn L N) (h0 : 0 ≤ N) (hN : N ≤ 1000000) : Cn (upd K s k x l L) (N + 1) ∧ sumC (upd K s k x l L) = sumC L + 1 := by
  refine ⟨fun p hp => ?_, sumC_upd K s k x l L (fun p hp => by have := h p hp; exact wrap_ok this.1 (by omega))⟩
  rcases mem_upd K s k x l L p hp with rfl | hp | ⟨q, hq, rfl⟩
  · have e : (tk K x l (fresh s k)).c = 0 + 1 := wrap_ok (a := 0) (by decide) (by decide)
    rw [e]; omega
  · have := h p hp; omega
  · have hc := h q hq
    have e : (tk K x l q).c = q.c + 1 := wrap_ok hc.1 (by omega)
    rw [e]; omega
theorem cn_putS {K k x : Int} {l : Nat} : ∀ (ss : List Int) (L : List Pn) (N : Int), Cn L N → 0 ≤ N → N + ss.length ≤ 1000000 → Cn (putS K k x l L ss) (N + ss.length) ∧ sumC (putS K k x l L ss) = sumC L + ss.length
  | [], L, N, h, _, _ => ⟨by simpa [putS] using h, by simp [putS]⟩
  | s :: r, L, N, h, h0, hN => by
    have h1 := cn_upd (K := K) (s := s) (k := k) (x := x) (l := l) h h0 (by simp at hN; omega)
    have h2 := cn_putS (K := K) (k := k) (x := x) (l := l) r (upd K s k x l L) (N + 1) h1.1 (by omega) (by simp at hN; omega)
    have e : putS K k x l L (s :: r) = putS K k x l (upd K s k x l L) r := rfl
    rw [e]
    refine ⟨fun p hp => ?_, by rw [h2.2, h1.2]; simp; omega⟩
    have := h2.1 p hp
    simp
    omega
theorem cn_putE {n sl K N : Int} {L : List Pn} {e : Ev} (h : Cn L N) (h0 : 0 ≤ N) (hN : N + 8 ≤ 1000000) : Cn (putE n sl K L e) (N + 8) ∧ sumC (putE n sl K L e) = sumC L + (starts e.t n sl).length := by
  have hl := starts_len e.t n sl
  have h1 := cn_putS (K := K) (k := e.k) (x := e.v) (l := e.l) (starts e.t n sl) L N h h0 (by omega)
  unfold putE
  refine ⟨fun p hp => ?_, h1.2⟩
  have := h1.1 p hp
  omega
theorem starts_cnt {t n s : Int} (hr : rightB n s = true) (ht : okT t = true) : 1 ≤ (starts t n s).length ∧ ((starts t n s).length : Int) ≤ most n s := by
  have h := of_decide_eq_true ht
  have hr' := right_of hr
  rw [starts_of hr h.1 h.2, sts, seg_len]
  exact ⟨cnt_pos hr'.1 hr'.2.1 h.1, cnt_most hr'.1 hr'.2.1 h.1⟩
theorem cn_step {p : Pq} {r : Rs} {i : Inp} {N : Int} (hr : rightB p.n p.s = true) (h : Cn r.L N) (h0 : 0 ≤ N) (hN : N + 8 ≤ 1000000) :
    Cn (stepR p r i).L (N + 8) ∧ Cn (rowR p r i) (N + 8) ∧ ∃ d : Int, sumC (rowR p r i) + sumC (stepR p r i).L = sumC r.L + d ∧ 0 ≤ d ∧ d ≤ most p.n p.s * (((stepR p r i).s - (stepR p r i).l) - (r.s - r.l)) ∧ (p.os = [] → ((stepR p r i).s - (stepR p r i).l) - (r.s - r.l) ≤ d) := by
  have hm := most_pos (n := p.n) (s := p.s) (right_of hr).1 (right_of hr).2.1
  have up : ∀ {L : List Pn}, Cn L N → Cn L (N + 8) := fun hL q hq => by have := hL q hq; omega
  cases hmk : i.mrk with
  | true =>
    cases hg : goes r.m i.e.t with
    | true =>
      obtain ⟨e1, e2⟩ := step_mark (p := p) hmk hg
      rw [e1, e2]
      refine ⟨up (fun q hq => h q (List.mem_of_mem_drop hq)), up (fun q hq => h q (List.mem_of_mem_take hq)), 0, ?_, by omega, ?_, ?_⟩
      · show sumC _ + sumC (List.drop _ _) = _
        rw [← sumC_append, List.take_append_drop]; omega
      · show (0 : Int) ≤ _ * (r.s - r.l - (r.s - r.l)); rw [Int.sub_self, Int.mul_zero]; omega
      · intro _; show r.s - r.l - (r.s - r.l) ≤ 0; omega
    | false =>
      obtain ⟨e1, e2⟩ := step_still (p := p) hmk hg
      rw [e1, e2]
      refine ⟨up h, cn_nil _, 0, ?_, by omega, ?_, ?_⟩
      · simp [sumC]
      · rw [Int.sub_self, Int.mul_zero]; omega
      · intro _; omega
  | false =>
    rw [row_event hmk]
    have hz : ∀ x : Int, sumC [] + x = x := fun x => by simp [sumC]
    cases ht : okT i.e.t with
    | false =>
      rw [step_none hmk ht]
      refine ⟨up h, cn_nil _, 0, by rw [hz]; omega, by omega, ?_, ?_⟩
      · rw [Int.sub_self, Int.mul_zero]; omega
      · intro _; omega
    | true =>
      by_cases hl : i.e.t < r.m
      · rw [step_late hmk ht hl]
        refine ⟨up h, cn_nil _, 0, by rw [hz]; show sumC r.L = _; omega, by omega, ?_, ?_⟩
        · show (0 : Int) ≤ _ * (r.s + 1 - (r.l + 1) - (r.s - r.l))
          rw [show r.s + 1 - (r.l + 1) - (r.s - r.l) = 0 by omega, Int.mul_zero]; omega
        · intro _; show r.s + 1 - (r.l + 1) - (r.s - r.l) ≤ 0; omega
      · cases hx : runE p.os i.e with
        | none =>
          rw [step_drop hmk ht hl hx]
          refine ⟨up h, cn_nil _, 0, by rw [hz]; show sumC r.L = _; omega, by omega, ?_, ?_⟩
          · show (0 : Int) ≤ _ * (r.s + 1 - r.l - (r.s - r.l))
            rw [show r.s + 1 - r.l - (r.s - r.l) = 1 by omega]; omega
          · intro hnil; rw [hnil, runE_nil] at hx; cases hx
        | some x =>
          rw [step_put hmk ht hl hx]
          have hxt : x.t = i.e.t := (runE_some hx).2.1
          have hs := starts_cnt (t := x.t) hr (by rw [hxt]; exact ht)
          have hp := cn_putE (n := p.n) (sl := p.s) (K := p.a) (e := x) h h0 hN
          refine ⟨hp.1, cn_nil _, ((starts x.t p.n p.s).length : Int), by rw [hz]; exact hp.2, by omega, ?_, ?_⟩
          · show _ ≤ _ * (r.s + 1 - r.l - (r.s - r.l))
            rw [show r.s + 1 - r.l - (r.s - r.l) = 1 by omega]; omega
          · intro _; show r.s + 1 - r.l - (r.s - r.l) ≤ _; omega
theorem cn_all {p : Pq} (hr : rightB p.n p.s = true) : ∀ (is : List Inp) (r : Rs) (N : Int), Cn r.L N → 0 ≤ N → N + 8 * is.length ≤ 1000000 →
    Cn (stR p r is).L (N + 8 * is.length) ∧ Cn (rowsR p r is) (N + 8 * is.length) ∧ ∃ d : Int, sumC (rowsR p r is) + sumC (stR p r is).L = sumC r.L + d ∧ 0 ≤ d ∧ d ≤ most p.n p.s * (((stR p r is).s - (stR p r is).l) - (r.s - r.l)) ∧ (p.os = [] → ((stR p r is).s - (stR p r is).l) - (r.s - r.l) ≤ d)
  | [], r, N, h, h0, _ => by
    refine ⟨by simpa [stR] using h, cn_nil _, 0, ?_, by omega, ?_, ?_⟩
    · simp [stR, rowsR, sumC]
    · show (0 : Int) ≤ _ * (r.s - r.l - (r.s - r.l)); rw [Int.sub_self, Int.mul_zero]; omega
    · intro _; show r.s - r.l - (r.s - r.l) ≤ 0; omega
  | i :: is, r, N, h, h0, hN => by
    obtain ⟨a1, a2, d1, a3, a4, a5, a6⟩ := cn_step (p := p) (i := i) hr h h0 (by simp at hN; omega)
    obtain ⟨b1, b2, d2, b3, b4, b5, b6⟩ := cn_all hr is (stepR p r i) (N + 8) a1 (by omega) (by simp at hN; omega)
    have e1 : stR p r (i :: is) = stR p (stepR p r i) is := rfl
    have e2 : rowsR p r (i :: is) = rowR p r i ++ rowsR p (stepR p r i) is := rfl
    rw [e1, e2]
    refine ⟨fun q hq => ?_, fun q hq => ?_, d1 + d2, ?_, by omega, ?_, ?_⟩
    · have := b1 q hq; simp; omega
    · rcases List.mem_append.1 hq with hq | hq
      · have := a2 q hq; simp; omega
      · have := b2 q hq; simp; omega
    · rw [sumC_append]; omega
    · have e : (stR p (stepR p r i) is).s - (stR p (stepR p r i) is).l - (r.s - r.l) = ((stepR p r i).s - (stepR p r i).l - (r.s - r.l)) + ((stR p (stepR p r i) is).s - (stR p (stepR p r i) is).l - ((stepR p r i).s - (stepR p r i).l)) := by omega
      rw [e, Int.mul_add]; omega
    · intro hnil; have := a6 hnil; have := b6 hnil; omega
theorem sumC_bound {L : List Pn} {N : Int} (h : Cn L N) (h0 : 0 ≤ N) : ∀ k : Nat, 0 ≤ sumC (L.take k) ∧ sumC (L.take k) ≤ N * k := by
  induction L with
  | nil => intro k; simp [sumC]; exact Int.mul_nonneg h0 (by omega)
  | cons x r ih =>
    intro k
    cases k with
    | zero => simp [sumC]
    | succ k =>
      have h1 := h x (by simp)
      have h2 := ih (fun p hp => h p (by simp [hp])) k
      rw [List.take_succ_cons]
      show 0 ≤ x.c + sumC (r.take k) ∧ x.c + sumC (r.take k) ≤ _
      rw [show ((k + 1 : Nat) : Int) = (k : Int) + 1 by omega, Int.mul_add, Int.mul_one]
      omega
theorem all_mark (p : Pq) : ∀ (is : List Inp) (r : Rs), (∀ i ∈ is, i.mrk = true → i.e.t ≤ 160) → 0 ≤ r.m → r.m ≤ 160 → 0 ≤ (stR p r is).m ∧ (stR p r is).m ≤ 160
  | [], r, _, h0, h1 => ⟨h0, h1⟩
  | i :: is, r, h, h0, h1 => by
    have e1 : stR p r (i :: is) = stR p (stepR p r i) is := rfl
    rw [e1]
    have hs : 0 ≤ (stepR p r i).m ∧ (stepR p r i).m ≤ 160 := by
      cases hm : i.mrk with
      | true =>
        cases hg : goes r.m i.e.t with
        | true =>
          rw [(step_mark (p := p) hm hg).1]
          have := h i (by simp) hm
          have hg' := of_decide_eq_true hg
          show 0 ≤ i.e.t ∧ i.e.t ≤ 160
          omega
        | false => rw [(step_still (p := p) hm hg).1]; exact ⟨h0, h1⟩
      | false =>
        cases ht : okT i.e.t with
        | false => rw [step_none hm ht]; exact ⟨h0, h1⟩
        | true =>
          by_cases hl : i.e.t < r.m
          · rw [step_late hm ht hl]; exact ⟨h0, h1⟩
          · cases hx : runE p.os i.e with
            | none => rw [step_drop hm ht hl hx]; exact ⟨h0, h1⟩
            | some x => rw [step_put hm ht hl hx]; exact ⟨h0, h1⟩
    exact all_mark p is (stepR p r i) (fun j hj => h j (by simp [hj])) hs.1 hs.2
/-- One that is late, and two marks that aren't above. -/
theorem late_three (p : Pq) (r : Rs) (t x : Int) (h0 : 0 ≤ t) (h1 : t < r.m) (h2 : r.m ≤ 160) : rowsR p r [⟨false, ⟨t, 0, x, 1⟩⟩, ⟨true, ⟨t, 0, 0, 0⟩⟩, ⟨true, ⟨r.m, 0, 0, 0⟩⟩] = [] ∧ stR p r [⟨false, ⟨t, 0, x, 1⟩⟩, ⟨true, ⟨t, 0, 0, 0⟩⟩, ⟨true, ⟨r.m, 0, 0, 0⟩⟩] = ⟨r.m, r.l + 1, r.s + 1, r.L⟩ := by
  have a1 : stepR p r ⟨false, ⟨t, 0, x, 1⟩⟩ = ⟨r.m, r.l + 1, r.s + 1, r.L⟩ := step_late rfl (show okT t = true from decide_eq_true ⟨h0, by omega⟩) h1
  have a2 := row_event (p := p) (r := r) (i := ⟨false, ⟨t, 0, x, 1⟩⟩) rfl
  have b := step_still (p := p) (r := ⟨r.m, r.l + 1, r.s + 1, r.L⟩) (i := ⟨true, ⟨t, 0, 0, 0⟩⟩) rfl (decide_eq_false (fun h => by have := h.1; simp only at this; omega))
  have c := step_still (p := p) (r := ⟨r.m, r.l + 1, r.s + 1, r.L⟩) (i := ⟨true, ⟨r.m, 0, 0, 0⟩⟩) rfl (decide_eq_false (fun h => by have := h.1; simp only at this; omega))
  refine ⟨?_, ?_⟩
  · show rowR p r _ ++ (rowR p (stepR p r _) _ ++ (rowR p (stepR p (stepR p r _) _) _ ++ [])) = []
    rw [a2, a1, b.2, b.1, c.2]; rfl
  · simp only [stR, List.foldl_cons, List.foldl_nil]
    rw [a1, b.1, c.1]
end Go.Proofs.Ytnamjnopicghhaa.M
