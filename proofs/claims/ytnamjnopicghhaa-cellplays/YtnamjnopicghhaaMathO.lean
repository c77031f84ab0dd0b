/- Plain mathematics: which events a pane is of; how many all panes count. Nothing of the program is in this text. -/
import Derived.Test.YtnamjnopicghhaaMathC
namespace Go.Proofs.Ytnamjnopicghhaa.M
open Go.RowKit

theorem seg_nodup (a s : Int) (hs : 1 ≤ s) : ∀ c : Nat, (seg a s c).Nodup
  | 0 => by rw [seg_nil]; exact List.nodup_nil
  | c + 1 => by
    rw [seg_succ]
    refine List.nodup_append.2 ⟨seg_nodup a s hs c, by simp, ?_⟩
    intro x hx y hy e
    rw [List.mem_singleton] at hy
    subst hy
    obtain ⟨i, hi, e2⟩ := seg_mem hx
    rw [e2] at e
    have : a + (i : Int) = a + c := Int.eq_of_mul_eq_mul_right (by omega) e
    omega
theorem starts_nodup (t n s : Int) : (starts t n s).Nodup := by
  unfold starts
  split
  · rename_i hc
    rw [Bool.and_eq_true] at hc
    exact seg_nodup _ _ (right_of hc.1).1 _
  · exact List.nodup_nil
/-- Is the event in that window, of that key? -/
def inW (n sl s k : Int) (e : Ev) : Bool := decide (e.k = k ∧ s ∈ starts e.t n sl)
theorem filter_one {α : Type} [DecidableEq α] (x : α) : ∀ l : List α, l.Nodup → l.filter (fun y => decide (y = x)) = if x ∈ l then [x] else []
  | [], _ => by simp
  | y :: r, h => by
    obtain ⟨h1, h2⟩ := List.nodup_cons.1 h
    rw [List.filter_cons]
    by_cases e : y = x
    · subst e
      rw [if_pos (by simp), filter_one y r h2, if_neg h1, if_pos (by simp)]
    · rw [if_neg (by simpa using e), filter_one x r h2]
      have : (x ∈ y :: r) ↔ x ∈ r := by rw [List.mem_cons]; exact ⟨fun h => h.elim (fun h => absurd h.symm e) id, .inr⟩
      by_cases hx : x ∈ r
      · rw [if_pos hx, if_pos (this.2 hx)]
      · rw [if_neg hx, if_neg (fun h => hx (this.1 h))]
theorem sel_ups (n sl s k : Int) (e : Ev) : sel s k (ups n sl e) = if inW n sl s k e = true then [⟨s, k, e.v, e.l⟩] else [] := by
  unfold sel ups inW
  rw [List.filter_map]
  by_cases hk : e.k = k
  · have : (starts e.t n sl).filter ((fun u : Up => decide (u.s = s ∧ u.k = k)) ∘ fun x => (⟨x, e.k, e.v, e.l⟩ : Up)) = (starts e.t n sl).filter (fun y => decide (y = s)) := by
      congr 1; funext y; simp [hk]
    rw [this, filter_one s _ (starts_nodup _ _ _)]
    by_cases hm : s ∈ starts e.t n sl
    · rw [if_pos hm, if_pos (by simp [hk, hm])]; simp [hk]
    · rw [if_neg hm, if_neg (by simp [hm])]; rfl
  · have : (starts e.t n sl).filter ((fun u : Up => decide (u.s = s ∧ u.k = k)) ∘ fun x => (⟨x, e.k, e.v, e.l⟩ : Up)) = [] := by
      rw [List.filter_eq_nil_iff]; intro y _; simp [hk]
    rw [this, if_neg (by simp [hk])]; rfl
theorem sel_upl (n sl s k : Int) : ∀ es : List Ev, sel s k (upl n sl es) = (es.filter (inW n sl s k)).map fun e => ⟨s, k, e.v, e.l⟩
  | [] => rfl
  | e :: r => by
    have h : upl n sl (e :: r) = ups n sl e ++ upl n sl r := by simp [upl]
    rw [h, sel_append, sel_ups, sel_upl n sl s k r, List.filter_cons]
    split <;> simp
theorem lab_map (s k : Int) (es : List Ev) : lab (es.map fun e => (⟨s, k, e.v, e.l⟩ : Up)) = es.foldl (fun a e => a ||| e.l) 0 := by
  unfold lab; rw [List.foldl_map]
/-- As the statement asks: by the times. -/
def inT (n s k : Int) (e : Ev) : Bool := decide (e.k = k ∧ s ≤ e.t ∧ e.t < s + n)
theorem start_mul {t n s x : Int} (h : x ∈ starts t n s) : ∃ m : Int, 0 ≤ m ∧ x = m * s := by
  have hm := mem_starts h
  have hr := right_of hm.1
  unfold starts at h
  split at h
  · obtain ⟨i, hi, e⟩ := seg_mem h
    refine ⟨lo t n s + i, ?_, e⟩
    have := lo_nonneg (t := t) (n := n) (s := s) hr.1 (by omega)
    omega
  · simp at h
theorem in_same {n sl s k : Int} {e : Ev} (hr : rightB n sl = true) (hs : ∃ m : Int, 0 ≤ m ∧ s = m * sl) (h0 : 0 ≤ e.t) (h1 : e.t ≤ 1099511627776) : inW n sl s k e = inT n s k e := by
  obtain ⟨m, hm, rfl⟩ := hs
  have hb := right_of hr
  unfold inW inT
  rw [starts_of hr h0 h1]
  have := mem_iff (t := e.t) (n := n) (s := sl) (k := m) hb.1 hb.2.1 h0 hm
  rw [Bool.eq_iff_iff, decide_eq_true_iff, decide_eq_true_iff, this]
/-- A pane's count and label are its events'. -/
theorem pane_of {n sl K : Int} {es : List Ev} {p : Pn} (hr : rightB n sl = true) (hl : es.length ≤ 1000) (ht : ∀ e ∈ es, 0 ≤ e.t ∧ e.t ≤ 1099511627776) (hp : p ∈ putL n sl K [] es) :
    p.c = (es.filter (inT n p.s p.k)).length ∧ p.l = (es.filter (inT n p.s p.k)).foldl (fun a e => a ||| e.l) 0 ∧ 1 ≤ p.c ∧ p.v = val K ((es.filter (inT n p.s p.k)).map (·.v)) := by
  have hI := inv_putL n sl K es hl
  obtain ⟨e1, e2⟩ := hI.is p hp
  obtain ⟨u, hu⟩ := List.exists_mem_of_ne_nil _ e2
  simp only [sel, List.mem_filter, decide_eq_true_iff] at hu
  obtain ⟨hu1, hu2, hu3⟩ := hu
  have hmul : ∃ m : Int, 0 ≤ m ∧ p.s = m * sl := by
    unfold upl at hu1
    rw [List.mem_flatMap] at hu1
    obtain ⟨e, _, he⟩ := hu1
    unfold ups at he
    rw [List.mem_map] at he
    obtain ⟨x, hx, rfl⟩ := he
    rw [← hu2]
    exact start_mul hx
  have hf : es.filter (inW n sl p.s p.k) = es.filter (inT n p.s p.k) := by
    refine List.filter_congr fun e he => ?_
    exact in_same hr hmul (ht e he).1 (ht e he).2
  rw [sel_upl, hf] at e2
  have hlen : 1 ≤ (es.filter (inT n p.s p.k)).length := by
    cases h : es.filter (inT n p.s p.k) with
    | nil => rw [h] at e2; simp at e2
    | cons a b => simp
  have c1 : p.c = (es.filter (inT n p.s p.k)).length := by
    have := congrArg Pn.c e1
    unfold mk at this
    simp only at this
    rw [this, sel_upl, hf, List.length_map]
  refine ⟨c1, ?_, by rw [c1]; omega, ?_⟩
  · have := congrArg Pn.l e1
    unfold mk at this
    simp only at this
    rw [this, sel_upl, hf, lab_map]
  · have := congrArg Pn.v e1
    unfold mk at this
    simp only at this
    rw [this, sel_upl, hf, List.map_map]
    rfl

/- All counts together. -/
def sumC : List Pn → Int
  | [] => 0
  | p :: r => p.c + sumC r
theorem sumC_append : ∀ a b : List Pn, sumC (a ++ b) = sumC a + sumC b
  | [], b => by simp [sumC]
  | p :: r, b => by simp only [List.cons_append, sumC, sumC_append r b]; omega
theorem sumC_upd (K s k x : Int) (l : Nat) : ∀ L : List Pn, (∀ p ∈ L, wrap64 (p.c + 1) = p.c + 1) → sumC (upd K s k x l L) = sumC L + 1
  | [], _ => rfl
  | p :: r, h => by
    unfold upd
    split
    · simp only [sumC, sumC_upd K s k x l r (fun q hq => h q (by simp [hq]))]; omega
    · split
      · have := h p (by simp)
        simp only [sumC, tk, this]; omega
      · have : (tk K x l (fresh s k)).c = 1 := rfl
        simp only [sumC, this]; omega
theorem inv_c {K : Int} {L : List Pn} {us : List Up} (h : Inv K L us) (p : Pn) (hp : p ∈ L) : 0 ≤ p.c ∧ p.c ≤ us.length := by
  have e := congrArg Pn.c (h.is p hp).1
  unfold mk at e
  simp only at e
  have : (sel p.s p.k us).length ≤ us.length := List.length_filter_le _ _
  omega
theorem sumC_run {K : Int} : ∀ (vs : List Up) (L : List Pn) (us : List Up), Inv K L us → us.length + vs.length < 4611686018427387904 → sumC (run K L vs) = sumC L + vs.length
  | [], L, us, _, _ => by simp [run]
  | ⟨s, k, x, l⟩ :: r, L, us, h, hl => by
    have h1 := inv_upd h s k x l (by simp at hl; omega)
    have h2 := sumC_run r (upd K s k x l L) (us ++ [⟨s, k, x, l⟩]) h1 (by simp at hl ⊢; omega)
    have h3 := sumC_upd K s k x l L (fun p hp => by have := inv_c h p hp; simp at hl; exact wrap_in _ (by omega))
    show sumC (run K (upd K s k x l L) r) = _
    rw [h2, h3]; simp; omega
theorem sumC_putL (n sl K : Int) (es : List Ev) (h : es.length ≤ 1000) : sumC (putL n sl K [] es) = (upl n sl es).length := by
  rw [putL_run]
  have h1 := upl_len n sl es
  have := sumC_run (upl n sl es) [] [] (inv_nil K) (by simp; omega)
  simpa [sumC] using this
theorem c_le (n sl K : Int) (es : List Ev) (h : es.length ≤ 15) (p : Pn) (hp : p ∈ putL n sl K [] es) : 0 ≤ p.c ∧ p.c ≤ 120 := by
  have h1 := inv_c (inv_putL n sl K es (by omega)) p hp
  have h2 := upl_len n sl es
  omega
theorem sumC_take (L : List Pn) (hc : ∀ p ∈ L, 0 ≤ p.c ∧ p.c ≤ 120) : ∀ k : Nat, 0 ≤ sumC (L.take k) ∧ sumC (L.take k) ≤ 120 * k := by
  induction L with
  | nil => intro k; simp [sumC]; omega
  | cons p r ih =>
    intro k
    cases k with
    | zero => simp [sumC]
    | succ k =>
      have h1 := ih (fun q hq => hc q (by simp [hq])) k
      have h2 := hc p (by simp)
      rw [List.take_succ_cons]
      simp only [sumC]
      omega
theorem ups_starts (n sl : Int) (e : Ev) : (ups n sl e).length = (starts e.t n sl).length := by unfold ups; rw [List.length_map]
theorem upl_snoc (n sl : Int) (es : List Ev) (e : Ev) : (upl n sl (es ++ [e])).length = (upl n sl es).length + (starts e.t n sl).length := by
  rw [upl_append, List.length_append]
  simp [upl, ups_starts]
/- The inner loop's partial results. -/
def cntT (n s k : Int) (es : List Ev) : Nat := (es.filter (inT n s k)).length
def labT (n s k : Int) (es : List Ev) : Nat := (es.filter (inT n s k)).foldl (fun a e => a ||| e.l) 0
theorem cntT_snoc (n s k : Int) (es : List Ev) (e : Ev) : cntT n s k (es ++ [e]) = cntT n s k es + (if inT n s k e = true then 1 else 0) := by
  unfold cntT; rw [List.filter_append, List.length_append]; congr 1; rw [List.filter_cons]; split <;> simp
theorem labT_snoc (n s k : Int) (es : List Ev) (e : Ev) : labT n s k (es ++ [e]) = if inT n s k e = true then labT n s k es ||| e.l else labT n s k es := by
  unfold labT; rw [List.filter_append, List.foldl_append, List.filter_cons]; split <;> simp
theorem cntT_le (n s k : Int) (es : List Ev) : cntT n s k es ≤ es.length := List.length_filter_le _ _
theorem fold_lt : ∀ (es : List Ev) (a : Nat), a < 18446744073709551616 → (∀ e ∈ es, e.l < 18446744073709551616) → es.foldl (fun a e => a ||| e.l) a < 18446744073709551616
  | [], a, h, _ => h
  | e :: r, a, h, hl => fold_lt r (a ||| e.l) (or_lt h (hl e (by simp))) (fun x hx => hl x (by simp [hx]))
theorem labT_lt (n s k : Int) (es : List Ev) (hl : ∀ e ∈ es, e.l < 18446744073709551616) : labT n s k es < 18446744073709551616 :=
  fold_lt _ _ (by omega) (fun e he => hl e (List.mem_filter.1 he).1)
end Go.Proofs.Ytnamjnopicghhaa.M
