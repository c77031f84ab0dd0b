/- Plain mathematics: rows in order of start, then key, each once; each of a window that has passed; nothing of the program. -/
import Derived.Test.YtombgbdplafooaaMathX
import Derived.Test.YtombgbdplafooaaMathL
namespace Go.Proofs.Ytombgbdplafooaa.M
open Go.RowKit
open O.MO (Oq Pq rightP)
set_option linter.unusedVariables false

/-- The counts of panes: at least one; the labels: some. -/
def Pos (L : List Pn) : Prop := ∀ q ∈ L, 1 ≤ q.c ∧ q.l ≠ 0
theorem pos_nil : Pos [] := fun q h => by cases h
theorem pos_upd {K s k x N : Int} {l : Nat} {L : List Pn} (h : Pos L) (hc : Cn L N) (hN : N ≤ 1000000) (hl : l ≠ 0) : Pos (upd K s k x l L) := by
  intro q hq
  have hor : ∀ a : Nat, a ||| l ≠ 0 := fun a h0 => hl (Nat.or_eq_zero_iff.1 h0).2
  rcases mem_upd K s k x l L q hq with rfl | h1 | ⟨y, hy, rfl⟩
  · exact ⟨by show 1 ≤ wrap64 (0 + 1); rw [wrap_ok (by decide) (by decide)]; decide, hor _⟩
  · exact h q h1
  · obtain ⟨c1, c2⟩ := hc y hy
    obtain ⟨d1, _⟩ := h y hy
    exact ⟨by show 1 ≤ wrap64 (y.c + 1); rw [wrap_ok c1 (by omega)]; omega, hor _⟩
theorem pos_putS {K k x : Int} {l : Nat} (hl : l ≠ 0) : ∀ (ss : List Int) (L : List Pn) (N : Int), Pos L → Cn L N → 0 ≤ N → N + ss.length ≤ 1000000 → Pos (putS K k x l L ss)
  | [], L, N, h, _, _, _ => h
  | s :: r, L, N, h, hc, h0, hN => by
    have e : ((s :: r).length : Int) = r.length + 1 := by simp
    exact pos_putS hl r _ (N + 1) (pos_upd h hc (by omega) hl) (cn_upd hc h0 (by omega)).1 (by omega) (by omega)
/-- Panes that a mark hasn't passed. -/
def Opn (n m : Int) (L : List Pn) : Prop := ∀ q ∈ L, m < q.s + n
theorem opn_upd {n m K s k x : Int} {l : Nat} {L : List Pn} (h : Opn n m L) (hs : m < s + n) : Opn n m (upd K s k x l L) := by
  intro q hq
  rcases mem_upd K s k x l L q hq with rfl | h1 | ⟨y, hy, rfl⟩
  · exact hs
  · exact h q h1
  · exact h y hy
theorem opn_putS {n m K k x : Int} {l : Nat} : ∀ (ss : List Int) (L : List Pn), Opn n m L → (∀ s ∈ ss, m < s + n) → Opn n m (putS K k x l L ss)
  | [], L, h, _ => h
  | s :: r, L, h, hs => opn_putS r _ (opn_upd h (hs s (by simp))) (fun y hy => hs y (List.mem_cons_of_mem _ hy))
theorem opn_putE {n sl m K : Int} {L : List Pn} {e : Ev} (h : Opn n m L) (ht : m ≤ e.t) : Opn n m (putE n sl K L e) :=
  opn_putS _ _ h fun s hs => Int.lt_of_le_of_lt ht (starts_past hs)
/-- What stands behind any inputs: the rows told so far, and what is open. -/
structure Pt (p : Pq) (N : Int) (r : Rs) (R : List Pn) : Prop where
  srt : Srt (R ++ r.L)
  pas : ∀ q ∈ R, q.s + p.n ≤ r.m
  opn : Opn p.n r.m r.L
  cn : Cn r.L N
  pl : Pos r.L
  pr : Pos R
theorem srt_two {A B : List Pn} (ha : Srt A) (hb : Srt B) (h : ∀ x ∈ A, ∀ y ∈ B, lt x y) : Srt (A ++ B) := List.pairwise_append.2 ⟨ha, hb, h⟩
theorem srt_left {A B : List Pn} (h : Srt (A ++ B)) : Srt A := (List.pairwise_append.1 h).1
theorem srt_right {A B : List Pn} (h : Srt (A ++ B)) : Srt B := (List.pairwise_append.1 h).2.1
theorem pt_step {p : Pq} {N : Int} {r : Rs} {R : List Pn} {i : Inp} (hr : rightB p.n p.s = true) (h : Pt p N r R) (h0 : 0 ≤ N) (hN : N + 8 ≤ 1000000) (hl : i.mrk = false → i.e.l ≠ 0) : Pt p (N + 8) (stepR p r i) (R ++ rowR p r i) := by
  have hcn := (cn_step (i := i) hr h.cn h0 hN).1
  cases hm : i.mrk with
  | true =>
    cases hg : goes r.m i.e.t with
    | false =>
      obtain ⟨e1, e2⟩ := step_still (p := p) hm hg
      rw [e1] at hcn ⊢
      rw [e2, List.append_nil]
      exact ⟨h.srt, h.pas, h.opn, hcn, h.pl, h.pr⟩
    | true =>
      obtain ⟨e1, e2⟩ := step_mark (p := p) hm hg
      rw [e1] at hcn ⊢
      rw [e2]
      have hmt : r.m < i.e.t := by
        unfold goes at hg
        have := of_decide_eq_true hg
        exact this.1
      refine ⟨?_, fun q hq => ?_, endN_drop _ _ _ (srt_right h.srt), hcn, fun q hq => h.pl q (List.mem_of_mem_drop hq), fun q hq => ?_⟩
      · rw [List.append_assoc, List.take_append_drop]; exact h.srt
      · rcases List.mem_append.1 hq with hq | hq
        · have := h.pas q hq
          show q.s + p.n ≤ i.e.t
          omega
        · exact endN_take _ _ _ q hq
      · rcases List.mem_append.1 hq with hq | hq
        · exact h.pr q hq
        · exact h.pl q (List.mem_of_mem_take hq)
  | false =>
    rw [row_event hm, List.append_nil]
    cases ht : okT i.e.t with
    | false =>
      rw [step_none hm ht] at hcn ⊢
      exact ⟨h.srt, h.pas, h.opn, hcn, h.pl, h.pr⟩
    | true =>
      by_cases hlt : i.e.t < r.m
      · rw [step_late hm ht hlt] at hcn ⊢
        exact ⟨h.srt, h.pas, h.opn, hcn, h.pl, h.pr⟩
      · cases hx : runE p.os i.e with
        | none =>
          rw [step_drop hm ht hlt hx] at hcn ⊢
          exact ⟨h.srt, h.pas, h.opn, hcn, h.pl, h.pr⟩
        | some x =>
          rw [step_put hm ht hlt hx] at hcn ⊢
          obtain ⟨_, xt, xl⟩ := runE_some hx
          have ho : Opn p.n r.m (putE p.n p.s p.a r.L x) := opn_putE h.opn (by omega)
          have hsl : ((starts x.t p.n p.s).length : Int) ≤ 8 := by have := starts_len x.t p.n p.s; omega
          refine ⟨srt_two (srt_left h.srt) (srt_putS _ _ _ _ _ _ (srt_right h.srt)) (fun a ha b hb => .inl ?_), h.pas, ho, hcn, ?_, h.pr⟩
          · have := h.pas a ha
            have := ho b hb
            omega
          · exact pos_putS (by rw [xl]; exact hl hm) _ _ N h.pl h.cn h0 (by omega)
theorem pt_all {p : Pq} (hr : rightB p.n p.s = true) : ∀ (is : List Inp) (r : Rs) (R : List Pn) (N : Int), Pt p N r R → 0 ≤ N → N + 8 * is.length ≤ 1000000 → (∀ i ∈ is, i.mrk = false → i.e.l ≠ 0) → Pt p (N + 8 * is.length) (stR p r is) (R ++ rowsR p r is)
  | [], r, R, N, h, _, _, _ => by simpa [rowsR, stR] using h
  | i :: is, r, R, N, h, h0, hN, hl => by
    have e : ((i :: is).length : Int) = is.length + 1 := by simp
    have h1 := pt_step (i := i) hr h h0 (by omega) (hl i (by simp))
    have h2 := pt_all hr is _ _ (N + 8) h1 (by omega) (by omega) (fun y hy => hl y (List.mem_cons_of_mem _ hy))
    rw [List.append_assoc] at h2
    have e2 : N + 8 * ((i :: is).length : Int) = N + 8 + 8 * is.length := by omega
    rw [e2]
    exact h2
theorem pt_rows {p : Pq} (hr : rightB p.n p.s = true) (is : List Inp) (hl : is.length ≤ 1000) (hb : ∀ i ∈ is, i.mrk = false → i.e.l ≠ 0) : Pt p (8 * is.length) (stR p r0 is) (rowsR p r0 is) := by
  have h := pt_all hr is r0 [] 0 ⟨List.Pairwise.nil, by simp, (fun q h => by cases h), cn_nil 0, pos_nil, pos_nil⟩ (Int.le_refl _) (by omega) hb
  simpa using h
/-- Rows that stand apart have starts, or keys, of their own. -/
theorem srt_pair {L : List Pn} (h : Srt L) {i j : Nat} (hij : i < j) (hj : j < L.length) : (pAt L i).s ≤ (pAt L j).s ∧ ¬ ((pAt L i).s = (pAt L j).s ∧ (pAt L i).k = (pAt L j).k) := by
  have := srt_at h hij hj
  unfold lt at this
  omega
/-- Starts and keys within bounds. -/
def Bd (L : List Pn) : Prop := ∀ q ∈ L, (0 ≤ q.s ∧ q.s ≤ 1099511627776) ∧ (0 ≤ q.k ∧ q.k ≤ 255)
theorem bd_nil : Bd [] := fun q h => by cases h
theorem bd_upd {K s k x : Int} {l : Nat} {L : List Pn} (h : Bd L) (hs : 0 ≤ s ∧ s ≤ 1099511627776) (hk : 0 ≤ k ∧ k ≤ 255) : Bd (upd K s k x l L) := by
  intro q hq
  rcases mem_upd K s k x l L q hq with rfl | h1 | ⟨y, hy, rfl⟩
  · exact ⟨hs, hk⟩
  · exact h q h1
  · exact h y hy
theorem bd_putS {K k x : Int} {l : Nat} (hk : 0 ≤ k ∧ k ≤ 255) : ∀ (ss : List Int) (L : List Pn), Bd L → (∀ s ∈ ss, 0 ≤ s ∧ s ≤ 1099511627776) → Bd (putS K k x l L ss)
  | [], L, h, _ => h
  | s :: r, L, h, hs => bd_putS hk r _ (bd_upd h (hs s (by simp)) hk) (fun y hy => hs y (List.mem_cons_of_mem _ hy))
theorem rem0_in {v n : Int} (h1 : 1 ≤ n) (h2 : n ≤ 256) : 0 ≤ O.MO.rem0 v n ∧ O.MO.rem0 v n ≤ 255 := by
  have a1 : -n < v.tmod n := Int.lt_tmod_of_pos _ (by omega)
  have a2 : v.tmod n < n := Int.tmod_lt_of_pos _ (by omega)
  unfold O.MO.rem0
  split <;> omega
theorem app_key {o : Oq} {e e' : O.MO.Ev} (ho : O.MO.rightO o = true) (hk : 0 ≤ e.k ∧ e.k ≤ 255) (h : O.MO.app o e = (e', true)) : 0 ≤ e'.k ∧ e'.k ≤ 255 := by
  unfold O.MO.app at h
  unfold O.MO.rightO at ho
  by_cases h1 : o.k = 1
  · rw [if_pos h1] at h; injection h with h _; subst h; exact hk
  rw [if_neg h1] at h
  by_cases h2 : o.k = 2
  · rw [if_pos h2] at h; injection h with h _; subst h; exact hk
  rw [if_neg h2] at h
  by_cases h3 : o.k = 3
  · rw [if_pos h3] at h ho
    have hb := of_decide_eq_true ho
    rw [if_neg (by omega)] at h
    injection h with h _; subst h; exact rem0_in hb.1 hb.2
  rw [if_neg h3] at h
  by_cases h4 : o.k = 4
  · rw [if_pos h4] at h
    split at h
    · injection h with h _; subst h; exact hk
    · injection h with _ h; cases h
  rw [if_neg h4] at h
  by_cases h5 : o.k = 5
  · rw [if_pos h5] at h
    split at h
    · injection h with h _; subst h; exact hk
    · injection h with _ h; cases h
  rw [if_neg h5] at h
  by_cases h6 : o.k = 6
  · rw [if_pos h6] at h
    split at h
    · injection h with h _; subst h; exact hk
    · injection h with _ h; cases h
  rw [if_neg h6] at h
  injection h with _ h
  cases h
theorem run_key : ∀ (os : List Oq) (e e' : O.MO.Ev), (∀ o ∈ os, O.MO.rightO o = true) → (0 ≤ e.k ∧ e.k ≤ 255) → O.MO.run os e = (e', true) → 0 ≤ e'.k ∧ e'.k ≤ 255
  | [], e, e', _, hk, h => by unfold O.MO.run at h; injection h with h _; subst h; exact hk
  | o :: r, e, e', ho, hk, h => by
    unfold O.MO.run at h
    split at h
    · rename_i x hx
      exact run_key r x e' (fun y hy => ho y (List.mem_cons_of_mem _ hy)) (app_key (ho o (by simp)) hk hx) h
    · injection h with _ h; cases h
theorem bd_step {p : Pq} {r : Rs} {i : Inp} (ho : ∀ o ∈ p.os, O.MO.rightO o = true) (h : Bd r.L) (hk : i.mrk = false → 0 ≤ i.e.k ∧ i.e.k ≤ 255) : Bd (stepR p r i).L ∧ Bd (rowR p r i) := by
  cases hm : i.mrk with
  | true =>
    cases hg : goes r.m i.e.t with
    | false =>
      obtain ⟨e1, e2⟩ := step_still (p := p) hm hg
      rw [e1, e2]
      exact ⟨h, bd_nil⟩
    | true =>
      obtain ⟨e1, e2⟩ := step_mark (p := p) hm hg
      rw [e1, e2]
      exact ⟨fun q hq => h q (List.mem_of_mem_drop hq), fun q hq => h q (List.mem_of_mem_take hq)⟩
  | false =>
    rw [row_event hm]
    refine ⟨?_, bd_nil⟩
    cases ht : okT i.e.t with
    | false => rw [step_none hm ht]; exact h
    | true =>
      by_cases hlt : i.e.t < r.m
      · rw [step_late hm ht hlt]; exact h
      · cases hx : runE p.os i.e with
        | none => rw [step_drop hm ht hlt hx]; exact h
        | some x =>
          rw [step_put hm ht hlt hx]
          obtain ⟨hrun, xt, xl⟩ := runE_some hx
          have hxk := run_key p.os _ _ ho (hk hm) hrun
          exact bd_putS hxk _ _ h fun s hs => by
            obtain ⟨_, a, b, c, d⟩ := mem_starts hs
            exact ⟨a, by omega⟩
theorem bd_all {p : Pq} (ho : ∀ o ∈ p.os, O.MO.rightO o = true) : ∀ (is : List Inp) (r : Rs), Bd r.L → (∀ i ∈ is, i.mrk = false → 0 ≤ i.e.k ∧ i.e.k ≤ 255) → Bd (rowsR p r is)
  | [], r, _, _ => bd_nil
  | i :: is, r, h, hk => by
    obtain ⟨h1, h2⟩ := bd_step (i := i) ho h (hk i (by simp))
    have h3 := bd_all ho is _ h1 (fun y hy => hk y (List.mem_cons_of_mem _ hy))
    intro q hq
    rcases List.mem_append.1 hq with hq | hq
    · exact h2 q hq
    · exact h3 q hq
/-- Starts and keys of the first rows. -/
def prs (L : List Pn) : List (Int × Int) := L.map fun q => (q.s, q.k)
theorem prs_snoc (L : List Pn) (i : Nat) (h : i < L.length) : prs (L.take (i + 1)) = prs (L.take i) ++ [((pAt L i).s, (pAt L i).k)] := by
  have e : L.take (i + 1) = L.take i ++ [pAt L i] := by
    rw [List.take_add_one, List.getElem?_eq_getElem h]
    simp [pAt, List.getD_eq_getElem?_getD, List.getElem?_eq_getElem h]
  rw [e]
  simp [prs]
theorem prs_no {L : List Pn} (hs : Srt L) {i : Nat} (h : i < L.length) : ((pAt L i).s, (pAt L i).k) ∉ prs (L.take i) := by
  intro hm
  obtain ⟨q, hq, e⟩ := List.mem_map.1 hm
  obtain ⟨j, hj, hje⟩ := List.getElem_of_mem hq
  rw [List.length_take] at hj
  have hjl : j < L.length := by omega
  have e2 : pAt L j = q := by
    rw [List.getElem_take] at hje
    simp [pAt, List.getD_eq_getElem?_getD, List.getElem?_eq_getElem hjl, hje]
  have h2 := (srt_pair hs (show j < i by omega) h).2
  rw [e2] at h2
  injection e with e3 e4
  exact h2 ⟨e3, e4⟩
end Go.Proofs.Ytombgbdplafooaa.M
