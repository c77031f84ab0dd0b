/- Plain mathematics: the panes of one key. Nothing of the program is in this text. -/
import Derived.Test.YtnamjnopicghhaaMathO
namespace Go.Proofs.Ytnamjnopicghhaa.M
open Go.RowKit

def ofK (x : Int) (es : List Ev) : List Ev := es.filter fun e => decide (e.k = x)
def rowsK (x : Int) (L : List Pn) : List Pn := L.filter fun p => decide (p.k = x)
theorem ofK_snoc (x : Int) (es : List Ev) (e : Ev) : ofK x (es ++ [e]) = if e.k = x then ofK x es ++ [e] else ofK x es := by
  unfold ofK; rw [List.filter_append, List.filter_cons]
  by_cases h : e.k = x
  · simp [h]
  · simp [h]
theorem rowsK_snoc (x : Int) (L : List Pn) (p : Pn) : rowsK x (L ++ [p]) = if p.k = x then rowsK x L ++ [p] else rowsK x L := by
  unfold rowsK; rw [List.filter_append, List.filter_cons]
  by_cases h : p.k = x
  · simp [h]
  · simp [h]
theorem sel_ofK (n sl s x : Int) (es : List Ev) : sel s x (upl n sl (ofK x es)) = sel s x (upl n sl es) := by
  rw [sel_upl, sel_upl]
  congr 1
  unfold ofK
  rw [List.filter_filter]
  refine List.filter_congr fun e _ => ?_
  unfold inW
  by_cases h : e.k = x <;> simp [h]
theorem sel_ofK_no (n sl s k x : Int) (es : List Ev) (h : k ≠ x) : sel s k (upl n sl (ofK x es)) = [] := by
  rw [sel_upl]
  have : (ofK x es).filter (inW n sl s k) = [] := by
    rw [List.filter_eq_nil_iff]
    intro e he
    unfold ofK at he
    simp only [List.mem_filter, decide_eq_true_iff] at he
    unfold inW
    simp
    intro h2
    exact absurd (h2.symm.trans he.2) h
  rw [this]; rfl
theorem keys_rows (n sl K x : Int) (es : List Ev) (h : es.length ≤ 1000) : putL n sl K [] (ofK x es) = rowsK x (putL n sl K [] es) := by
  have h1 := inv_putL n sl K es h
  have hl : (ofK x es).length ≤ es.length := List.length_filter_le _ _
  have h2 := inv_putL n sl K (ofK x es) (by omega)
  refine srt_ext _ _ h2.srt (List.Pairwise.sublist List.filter_sublist h1.srt) fun p => ?_
  unfold rowsK
  rw [inv_mem h2, List.mem_filter, inv_mem h1, decide_eq_true_iff]
  by_cases hk : p.k = x
  · unfold mk
    rw [hk, sel_ofK]
    simp
  · rw [sel_ofK_no n sl p.s p.k x es hk]
    simp [hk]
theorem starts_ne {t n s : Int} (h : rightB n s = true) (h0 : 0 ≤ t) (h1 : t ≤ 1099511627776) : starts t n s ≠ [] := by
  have hr := right_of h
  rw [starts_of h h0 h1]
  intro e
  have := congrArg List.length e
  rw [sts, seg_len] at this
  have := cnt_pos hr.1 hr.2.1 h0
  simp at *
  omega
theorem keys_all (n sl K : Int) (es : List Ev) (h : es.length ≤ 1000) (hr : rightB n sl = true) (ht : ∀ e ∈ es, 0 ≤ e.t ∧ e.t ≤ 1099511627776) (x : Int) : x ∈ (putL n sl K [] es).map (·.k) ↔ x ∈ es.map (·.k) := by
  have h1 := inv_putL n sl K es h
  rw [List.mem_map, List.mem_map]
  constructor
  · rintro ⟨p, hp, rfl⟩
    obtain ⟨_, e2⟩ := h1.is p hp
    obtain ⟨u, hu⟩ := List.exists_mem_of_ne_nil _ e2
    simp only [sel, List.mem_filter, decide_eq_true_iff] at hu
    obtain ⟨hu1, _, hu3⟩ := hu
    unfold upl at hu1
    rw [List.mem_flatMap] at hu1
    obtain ⟨e, he, hue⟩ := hu1
    unfold ups at hue
    rw [List.mem_map] at hue
    obtain ⟨y, _, rfl⟩ := hue
    exact ⟨e, he, hu3⟩
  · rintro ⟨e, he, rfl⟩
    obtain ⟨y, hy⟩ := List.exists_mem_of_ne_nil _ (starts_ne hr (ht e he).1 (ht e he).2)
    obtain ⟨p, hp, _, e2⟩ := h1.all ⟨y, e.k, e.v, e.l⟩ (by
      unfold upl
      rw [List.mem_flatMap]
      refine ⟨e, he, ?_⟩
      unfold ups
      rw [List.mem_map]
      exact ⟨y, hy, rfl⟩)
    exact ⟨p, hp, e2⟩
end Go.Proofs.Ytnamjnopicghhaa.M
