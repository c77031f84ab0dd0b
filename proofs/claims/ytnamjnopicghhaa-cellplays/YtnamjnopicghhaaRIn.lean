/- Lists of inputs as cells; literals; the small functions of cordonlaw10; Runner.Twin. -/
import Derived.Test.YtnamjnopicghhaaRTake
namespace Go.Proofs.Ytnamjnopicghhaa
open Go.RowKit M
open O (RdO)
open O.MO (Oq Pq rightP)
set_option linter.unusedVariables false
set_option linter.unusedSimpArgs false
attribute [local go_sem ↓] Go.wp_at_zero Go.wp_at_succ

/-- Lists of inputs as cells. -/
def ins (is : List Inp) : List Value := is.flatMap inCells
theorem ins_cons (e : Inp) (r : List Inp) : ins (e :: r) = inCells e ++ ins r := by simp [ins]
theorem ins_len : ∀ is : List Inp, (ins is).length = is.length * 5
  | [] => rfl
  | x :: r => by rw [ins_cons, List.length_append, ins_len r]; simp [inCells]; omega
theorem ins_one (is : List Inp) : ∀ u ∈ ins is, u.oneCell' = true := by
  intro u hu
  simp only [ins, List.mem_flatMap] at hu
  obtain ⟨e, _, he⟩ := hu
  simp only [inCells, List.mem_cons, List.not_mem_nil, or_false] at he
  rcases he with rfl | rfl | rfl | rfl | rfl <;> rfl
theorem ins_append (a b : List Inp) : ins (a ++ b) = ins a ++ ins b := by simp [ins]
theorem ins_single (e : Inp) : ins [e] = inCells e := by simp [ins]
theorem iAt_cons (e : Inp) (r : List Inp) (k : Nat) : iAt (e :: r) (k + 1) = iAt r k := by simp [iAt]
theorem ins_at : ∀ (is : List Inp) (i r : Nat), r < 5 → i < is.length → (ins is)[i * 5 + r]? = (inCells (iAt is i))[r]?
  | [], i, r, _, hi => by simp at hi
  | x :: s, 0, r, hr, _ => by rw [ins_cons, List.getElem?_append_left (by show 0 * 5 + r < 5; omega)]; simp [iAt]
  | x :: s, i + 1, r, hr, hi => by
    have hc : (inCells x).length = 5 := rfl
    rw [ins_cons, List.getElem?_append_right (by omega), hc, show (i + 1) * 5 + r - 5 = i * 5 + r by omega, ins_at s i r hr (by simpa using hi), iAt_cons]
theorem own_inat {w : World} {base g n cap : Nat} {is : List Inp} (h : w.ownsRow base 31 5 (.slice (some ⟨g, 0, none⟩) n cap) n (ins is)) (j : Nat) (hj : j < is.length) : InAt w g (j * 5) (iAt is j) := by
  have hn : n = is.length := by have := h.1; rw [ins_len] at this; omega
  have hc : ∀ r, r < 5 → w.cell? ⟨g, j * 5 + r, none⟩ = (inCells (iAt is j))[r]? := fun r hr => by
    rw [h.cellAt (j * 5 + r) (by omega), ins_at is j r hr hj]
  exact ⟨hc 0 (by decide), hc 1 (by decide), hc 2 (by decide), hc 3 (by decide), hc 4 (by decide)⟩
/-- A list of inputs of the call's own, a part of it, as Take reads it. -/
theorem rdi_part {w : World} {base g n cap : Nat} {is : List Inp} (h : w.ownsRow base 31 5 (.slice (some ⟨g, 0, none⟩) n cap) n (ins is)) (hlt : ∀ x ∈ is, x.e.l < 18446744073709551616) (i off m c : Nat) (hi : i + m ≤ is.length) (hoff : m ≠ 0 → off = i * 5) (hmc : m ≤ c) (hc : c ≤ 9223372036854775807) :
    RdI w (.slice (some ⟨g, off, none⟩) m c) g ((is.drop i).take m) := by
  have hl : ((is.drop i).take m).length = m := by rw [List.length_take, List.length_drop]; omega
  refine ⟨by omega, fun x hx => hlt x (List.mem_of_mem_drop (List.mem_of_mem_take hx)), _, c, by rw [hl], by omega, hc, fun h0 => ⟨off, rfl, ?_, fun j hj => ?_⟩⟩
  · have h1 := own_inat h i (by omega)
    exact World.block_lt_of_cell? w _ h1.1
  · have e : iAt ((is.drop i).take m) j = iAt is (i + j) := by
      unfold iAt
      rw [List.getD_eq_getElem?_getD, List.getD_eq_getElem?_getD, List.getElem?_take, if_pos (by omega), List.getElem?_drop]
    rw [e, hoff (by omega), show i * 5 + j * 5 = (i + j) * 5 by omega]
    exact own_inat h (i + j) (by omega)
theorem rdi_own {w : World} {base n : Nat} {v : Value} {is : List Inp} (h : w.ownsRow base 31 5 v n (ins is)) (hlt : ∀ x ∈ is, x.e.l < 18446744073709551616) (hbase : base ≤ w.heap.size) : ∃ q, RdI w v q is ∧ base ≤ q ∧ (∀ k, v.ownBlock = some k → k = q) ∧ q ≤ w.heap.size := by
  have hn : n = is.length := by have := h.1; rw [ins_len] at this; omega
  subst hn
  have h' := h
  obtain ⟨_, h | ⟨g, cap, cur, rfl, hb, hh, hn, hm, hs, ht⟩⟩ := h
  · obtain ⟨rfl, h0⟩ := h
    have : is = [] := List.eq_nil_of_length_eq_zero h0
    subst this
    exact ⟨base, rdi_nil _ _, Nat.le_refl _, (fun k hk => by cases hk), hbase⟩
  · unfold maxLen at hm
    have h2 := rdi_part h' hlt 0 0 is.length cap (by omega) (by omega) hn hm
    rw [List.drop_zero, List.take_of_length_le (Nat.le_refl _)] at h2
    exact ⟨g, h2, hb, fun k hk => by simp [Value.ownBlock] at hk; exact hk.symm, Nat.le_of_lt (Array.getElem?_eq_some_iff.1 hh).1⟩
theorem rdi_lit (w : World) (is : List Inp) (hl : is.length ≤ 1000) (hlt : ∀ x ∈ is, x.e.l < 18446744073709551616) : RdI (w.alloc (.cells (ins is).toArray 31)) (.slice (some ⟨w.heap.size, 0, none⟩) is.length is.length) w.heap.size is := by
  have h := World.ownsRow_lit (base := w.heap.size) (e := 31) (size := 5) w (ins is).toArray is.length (Nat.le_refl _) (by unfold maxLen; omega) (by rw [List.size_toArray, ins_len])
  have h2 : (w.alloc (.cells (ins is).toArray 31)).ownsRow w.heap.size 31 5 (.slice (some ⟨w.heap.size, 0, none⟩) is.length is.length) is.length (ins is) := by simpa using h
  have h3 := rdi_part h2 hlt 0 0 is.length is.length (by omega) (by omega) (Nat.le_refl _) (by omega)
  rwa [List.drop_zero, List.take_of_length_le (Nat.le_refl _)] at h3
/-- One operation, as a literal. -/
theorem ops_lit1 (w : World) (c n : Int) (hn : n ≤ 9223372036854775807) : OpsIn (w.alloc (.cells #[.int .i64 c, .int .i64 n] 90)) (.slice (some ⟨w.heap.size, 0, none⟩) 1 1) [⟨c, n⟩] := by
  refine ⟨?_, by simpa using hn⟩
  have h := World.ownsRow_lit (base := 0) (e := 90) (size := 2) w #[.int .i64 c, .int .i64 n] 1 (Nat.zero_le _) (by unfold maxLen; omega) (by rfl)
  simpa [O.opl, O.opCells] using h
end Go.Proofs.Ytnamjnopicghhaa
