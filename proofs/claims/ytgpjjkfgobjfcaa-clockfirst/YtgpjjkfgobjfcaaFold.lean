/- The least mark of a list of clocks: plain mathematics, and what clock.First computes. -/
import Derived.Test.YtgpjjkfgobjfcaaRuns
namespace Go.Proofs.Ytgpjjkfgobjfcaa
open Go.RowKit

def minL (m : Int) (r : List Int) : Int := r.foldl min m
def least : List Int → Int
  | [] => 0
  | m :: r => minL m r
theorem minL_snoc (m : Int) (r : List Int) (x : Int) : minL m (r ++ [x]) = min (minL m r) x := by simp [minL]
theorem minL_spec (r : List Int) : ∀ m, (minL m r = m ∨ minL m r ∈ r) ∧ minL m r ≤ m ∧ ∀ x ∈ r, minL m r ≤ x := by
  induction r with
  | nil => intro m; exact ⟨.inl rfl, Int.le_refl _, by simp⟩
  | cons a r ih =>
    intro m
    have h : minL m (a :: r) = minL (min m a) r := rfl
    rw [h]
    obtain ⟨h1, h2, h3⟩ := ih (min m a)
    refine ⟨?_, by omega, fun x hx => ?_⟩
    · rcases h1 with h1 | h1
      · rw [h1]
        by_cases hma : m ≤ a
        · left; omega
        · right; rw [show min m a = a by omega]; exact List.mem_cons_self ..
      · exact .inr (List.mem_cons_of_mem _ h1)
    · rcases List.mem_cons.1 hx with rfl | hx
      · omega
      · exact h3 x hx
theorem least_spec (l : List Int) (h : l ≠ []) : least l ∈ l ∧ ∀ x ∈ l, least l ≤ x := by
  match l, h with
  | m :: r, _ =>
    obtain ⟨h1, h2, h3⟩ := minL_spec r m
    refine ⟨?_, fun x hx => ?_⟩
    · rcases h1 with h1 | h1
      · show minL m r ∈ _
        rw [h1]; exact List.mem_cons_self ..
      · exact List.mem_cons_of_mem _ h1
    · rcases List.mem_cons.1 hx with rfl | hx
      · exact h2
      · exact h3 x hx
/-- The least hangs on what is in the list alone. -/
theorem least_same (a b : List Int) (h : ∀ x, x ∈ a ↔ x ∈ b) : least a = least b := by
  by_cases ha : a = []
  · subst ha
    have : b = [] := List.eq_nil_iff_forall_not_mem.2 fun x hx => by simpa using (h x).2 hx
    rw [this]
  · have hb : b ≠ [] := by
      intro hb
      subst hb
      exact ha (List.eq_nil_iff_forall_not_mem.2 fun x hx => by simpa using (h x).1 hx)
    obtain ⟨a1, a2⟩ := least_spec a ha
    obtain ⟨b1, b2⟩ := least_spec b hb
    have h1 := a2 _ ((h _).2 b1)
    have h2 := b2 _ ((h _).1 a1)
    omega
theorem least_turn (l : List Int) (C : Nat) : least (l.drop C ++ l.take C) = least l := by
  refine least_same _ _ fun x => ?_
  have h := List.take_append_drop C l
  constructor
  · intro hx
    rw [← h]
    simp only [List.mem_append] at hx ⊢
    exact hx.symm
  · intro hx
    rw [← h] at hx
    simp only [List.mem_append] at hx ⊢
    exact hx.symm
theorem least_nought (l : List Int) (h : ∀ x ∈ l, 0 ≤ x) : least (l ++ [0]) = 0 := by
  obtain ⟨h1, h2⟩ := least_spec (l ++ [0]) (by simp)
  have h3 := h2 0 (by simp)
  have h4 : 0 ≤ least (l ++ [0]) := by
    rcases List.mem_append.1 h1 with h1 | h1
    · exact h _ h1
    · rw [List.mem_singleton.1 h1]; exact Int.le_refl _
  omega
theorem least_one (t : Int) : least [t] = t := rfl
theorem least_more (l : List Int) (t : Int) (h : l ≠ []) : least (l ++ [t]) = min (least l) t := by
  match l, h with
  | m :: r, _ => exact minL_snoc m r t

/-- The three cells of a clock of which nothing was seen. -/
def CkAt (w : World) (b o : Nat) (m : Int) : Prop :=
  w.cell? ⟨b, o, none⟩ = some (.int .i64 m) ∧ w.cell? ⟨b, o + 1, none⟩ = some (.int .i64 0) ∧ w.cell? ⟨b, o + 2, none⟩ = some (.int .i64 0)
theorem CkAt.below {w w' : World} {b o : Nat} {e : Int} (h : CkAt w b o e) {B : Nat} (hb : Below B w w') (hlt : b < B) : CkAt w' b o e := by
  have hc : ∀ p : Addr, p.block = b → w'.cell? p = w.cell? p := fun p hp => hb.cell (p := p) (by rw [hp]; exact hlt)
  obtain ⟨h0, h1, h2⟩ := h
  exact ⟨(hc _ rfl).trans h0, (hc _ rfl).trans h1, (hc _ rfl).trans h2⟩
/-- A slice value whose elements are clocks with these marks. -/
def RdC (w : World) (v : Value) (ms : List Int) : Prop :=
  ms.length ≤ 9223372036854775807 ∧ ∃ ao cap, v = .slice ao ms.length cap ∧ ms.length ≤ cap ∧ cap ≤ 9223372036854775807 ∧ (ms.length ≠ 0 → ∃ b off, ao = some ⟨b, off, none⟩ ∧ b < w.heap.size ∧ ∀ j, j < ms.length → CkAt w b (off + j * 3) (ms.getD j 0))
theorem take_snoc {α : Type} (l : List α) (d : α) (k : Nat) (h : k < l.length) : l.take (k + 1) = l.take k ++ [l.getD k d] := by
  rw [List.take_succ_eq_append_getElem h]
  simp [List.getD_eq_getElem?_getD, h]
theorem minL_take (m : Int) (es : List Int) (k : Nat) (h : k < es.length) : minL m (es.take (k + 1)) = min (minL m (es.take k)) (es.getD k 0) := by
  rw [take_snoc es 0 k h, minL_snoc]

set_option maxHeartbeats 400000 in
/-- clock.First. -/
theorem first_any (v : Value) (es : List Int) (w : World) (n : Int) (hv : RdC w v es) (hn : least es = n) :
    Calls Try.prog 13 #[v] w fun e w' => e = .returned (.int .i64 n) ∧ Below w.heap.size w w' := by
  have hN : Hid (least es = n) := hn
  clear hn
  obtain ⟨hlen, ao, cap, rfl, hcap, hcm, hc⟩ := hv
  cases es with
  | nil =>
    clear hc
    go_enter Try.func13, Try.ntmps13
    go_wp2
    go_ret
    exact ⟨ret_int hN.out, Below.refl _ _⟩
  | cons e r =>
    have hN' : Hid (minL e r = n) := hN.out
    clear hN
    obtain ⟨b, off, rfl, hb, hcell⟩ := hc (by simp)
    clear hc
    obtain ⟨g0, _, _⟩ := hcell 0 (by simp)
    have hr : Hid (∀ j, j < r.length → CkAt w b (off + (j + 1) * 3) (r.getD j 0)) := by
      intro j hj
      have := hcell (j + 1) (by simp; omega)
      simpa using this
    clear hcell
    have e0 : (e :: r).getD 0 0 = e := rfl
    rw [e0] at g0
    simp only [Nat.zero_mul, Nat.add_zero] at g0
    rw [List.length_cons] at hlen hcap ⊢
    obtain ⟨m, hm⟩ : ∃ m, m = r.length := ⟨_, rfl⟩
    have hm' : Hid (m = r.length) := hm
    rw [← hm] at hlen hcap ⊢
    clear hm e0
    by_cases h1 : cap = 1
    · subst h1
      obtain rfl : m = 0 := by omega
      have hnil : Hid (e = n) := by
        have h := hN'.out
        rw [List.eq_nil_of_length_eq_zero hm'.out.symm] at h
        exact h
      go_enter Try.func13, Try.ntmps13
      go_wp2
      go_loop [3, 16] (fun t i => t = .int .i64 e ∧ i = .int .i64 0) (fun _ _ => 0)
      case atStart => exact ⟨rfl, rfl⟩
      case round =>
        obtain ⟨rfl, rfl⟩ := hrel
        go_wp2
        go_ret
        exact ⟨ret_int hnil.out, Below.refl _ _⟩
    · go_enter Try.func13, Try.ntmps13
      go_wp2
      go_loopw [3, 16] (fun t i wr => ∃ k : Nat, k ≤ m ∧ i = .int .i64 k ∧ t = .int .i64 (minL e (r.take k)) ∧ Below w.heap.size w wr) (fun _ i _ => m - (intOf i).toNat)
      case atStart => exact ⟨0, Nat.zero_le _, rfl, rfl, Below.refl _ _⟩
      case round =>
        obtain ⟨k, hk, rfl, rfl, hbw⟩ := hrel
        by_cases hlt : k < m
        · have hx := (hr.out k (by have := hm'.out; omega)).below hbw hb
          have hsn : Hid (minL e (r.take (k + 1)) = min (minL e (r.take k)) (r.getD k 0)) := minL_take e r k (by have := hm'.out; omega)
          obtain ⟨t, hee⟩ : ∃ x, r.getD k 0 = x := ⟨_, rfl⟩
          rw [hee, show off + (k + 1) * 3 = off + 3 + k * 3 by omega] at hx
          rw [hee] at hsn
          clear hee
          obtain ⟨h0, h1, h2⟩ := hx
          go_wp2
          go_roundw
          case rel =>
            refine ⟨k + 1, by omega, by go_num, ?_, hbw.alloc hbw.size _⟩
            rw [hsn.out]
            exact val_int (by rw [Int.min_def]; split <;> split <;> omega)
          case measure => simp [intOf]; omega
        · go_wp2
          go_ret
          exact ⟨ret_int (by rw [← hN'.out, List.take_of_length_le (by have := hm'.out; omega)]), hbw⟩
end Go.Proofs.Ytgpjjkfgobjfcaa
