/- Operations, windows, aggregates: what may be; what the small functions of packages oper, window and agg tell of it; lists of operations, read and laid. -/
import Derived.Test.YtimeglhoiibhdaaSame
import Derived.Deep.RegionHeld3
import Derived.Deep.DrawnRows
namespace Go.Proofs.Ytimeglhoiibhdaa
open Go.RowKit
namespace M
structure Oq where
  k : Int
  n : Int
def rightO (o : Oq) : Bool :=
  if o.k = 3 then decide (1 ≤ o.n ∧ o.n ≤ 256) else if o.k = 6 then decide (0 ≤ o.n ∧ o.n ≤ 255) else decide (1 ≤ o.k ∧ o.k ≤ 5)
def rightL (l : List Oq) : Bool := decide (l.length ≤ 6) && l.all rightO

/-- In how many windows a time may be. -/
def most (n s : Int) : Int := (n + s - 1) / s
def rightB (n s : Int) : Bool := decide (1 ≤ s ∧ s ≤ n ∧ n ≤ 1048576 ∧ most n s ≤ 8)
theorem right_iff (n s : Int) : rightB n s = true ↔ 1 ≤ s ∧ s ≤ n ∧ n ≤ 1048576 ∧ most n s ≤ 8 := by simp [rightB]
theorem right_of {n s : Int} (h : rightB n s = true) : 1 ≤ s ∧ s ≤ n ∧ n ≤ 1048576 := by
  have := (right_iff n s).1 h
  exact ⟨this.1, this.2.1, this.2.2.1⟩
theorem most_le {n s k : Int} (hs : 1 ≤ s) (h : n ≤ k * s) : most n s ≤ k := by
  unfold most
  have h1 : (n + s - 1) / s < k + 1 := Int.ediv_lt_of_lt_mul (by omega) (by rw [Int.add_mul]; omega)
  omega
theorem le_most {n s k : Int} (hs : 1 ≤ s) (h : k * s < n) : k + 1 ≤ most n s := by
  unfold most
  exact (Int.le_ediv_iff_mul_le (by omega)).2 (by rw [Int.add_mul]; omega)
theorem most_pos {n s : Int} (hs : 1 ≤ s) (h : s ≤ n) : 1 ≤ most n s := by
  have := le_most (n := n) (s := s) (k := 0) hs (by omega)
  omega
theorem right_mk {n s : Int} (hs : 1 ≤ s) (h1 : s ≤ n) (h2 : n ≤ 8 * s) (h3 : n ≤ 1048576) : rightB n s = true :=
  (right_iff n s).2 ⟨hs, h1, h3, most_le hs h2⟩
theorem right_no {n s : Int} (hs : 1 ≤ s) (h2 : 8 * s < n) : rightB n s = false := by
  rw [Bool.eq_false_iff]
  intro h
  have h4 := ((right_iff n s).1 h).2.2.2
  have := le_most (n := n) (s := s) (k := 8) hs h2
  omega
theorem right_no' {n s : Int} (h : n < s) : rightB n s = false := by
  rw [Bool.eq_false_iff]
  intro h'
  have := right_of h'
  omega

end M
open M
abbrev opv (k n : Int) : Value := .agg #[.int .i64 k, .int .i64 n]

theorem right_1 (n : Int) (w : World) :
    Calls Try.prog 40 #[opv 1 n] w fun e w' => e = .returned (.bool true) ∧ Below w.heap.size w w' := by
  go_enter Try.func40, Try.ntmps40
  go_wp2
  go_ret
  exact ⟨rfl, below_alloc _ _⟩
theorem right_2 (n : Int) (w : World) :
    Calls Try.prog 40 #[opv 2 n] w fun e w' => e = .returned (.bool true) ∧ Below w.heap.size w w' := by
  go_enter Try.func40, Try.ntmps40
  go_wp2
  go_ret
  exact ⟨rfl, below_alloc _ _⟩
theorem right_4 (n : Int) (w : World) :
    Calls Try.prog 40 #[opv 4 n] w fun e w' => e = .returned (.bool true) ∧ Below w.heap.size w w' := by
  go_enter Try.func40, Try.ntmps40
  go_wp2
  go_ret
  exact ⟨rfl, below_alloc _ _⟩
theorem right_5 (n : Int) (w : World) :
    Calls Try.prog 40 #[opv 5 n] w fun e w' => e = .returned (.bool true) ∧ Below w.heap.size w w' := by
  go_enter Try.func40, Try.ntmps40
  go_wp2
  go_ret
  exact ⟨rfl, below_alloc _ _⟩
theorem right_3 (n : Int) (w : World) (h0 : 1 ≤ n) (h1 : n ≤ 256) :
    Calls Try.prog 40 #[opv 3 n] w fun e w' => e = .returned (.bool true) ∧ Below w.heap.size w w' := by
  go_enter Try.func40, Try.ntmps40
  go_wp2
  go_ret
  exact ⟨rfl, below_alloc _ _⟩
theorem right_3lo (n : Int) (w : World) (h0 : n < 1) :
    Calls Try.prog 40 #[opv 3 n] w fun e w' => e = .returned (.bool false) ∧ Below w.heap.size w w' := by
  go_enter Try.func40, Try.ntmps40
  go_wp2
  go_ret
  exact ⟨rfl, below_alloc _ _⟩
theorem right_3hi (n : Int) (w : World) (h0 : 1 ≤ n) (h1 : decide (n ≤ 256) = false) :
    Calls Try.prog 40 #[opv 3 n] w fun e w' => e = .returned (.bool false) ∧ Below w.heap.size w w' := by
  go_enter Try.func40, Try.ntmps40
  go_wp2
  go_ret
  exact ⟨rfl, below_alloc _ _⟩
theorem right_6 (n : Int) (w : World) (h0 : 0 ≤ n) (h1 : n ≤ 255) :
    Calls Try.prog 40 #[opv 6 n] w fun e w' => e = .returned (.bool true) ∧ Below w.heap.size w w' := by
  go_enter Try.func40, Try.ntmps40
  go_wp2
  go_ret
  exact ⟨rfl, below_alloc _ _⟩
theorem right_6lo (n : Int) (w : World) (h0 : n < 0) :
    Calls Try.prog 40 #[opv 6 n] w fun e w' => e = .returned (.bool false) ∧ Below w.heap.size w w' := by
  go_enter Try.func40, Try.ntmps40
  go_wp2
  go_ret
  exact ⟨rfl, below_alloc _ _⟩
theorem right_6hi (n : Int) (w : World) (h0 : 0 ≤ n) (h1 : decide (n ≤ 255) = false) :
    Calls Try.prog 40 #[opv 6 n] w fun e w' => e = .returned (.bool false) ∧ Below w.heap.size w w' := by
  go_enter Try.func40, Try.ntmps40
  go_wp2
  go_ret
  exact ⟨rfl, below_alloc _ _⟩
theorem right_0 (c n : Int) (w : World) (h1 : (c == 1) = false) (h2 : (c == 2) = false) (h3 : (c == 3) = false) (h4 : (c == 4) = false) (h5 : (c == 5) = false) (h6 : (c == 6) = false) :
    Calls Try.prog 40 #[opv c n] w fun e w' => e = .returned (.bool false) ∧ Below w.heap.size w w' := by
  go_enter Try.func40, Try.ntmps40
  go_wp2
  go_ret
  exact ⟨rfl, below_alloc _ _⟩
theorem right_is (c n : Int) (p : Bool) (w : World) (h : rightO ⟨c, n⟩ = p) :
    Calls Try.prog 40 #[opv c n] w fun e w' => e = .returned (.bool p) ∧ Below w.heap.size w w' := by
  subst h
  by_cases h1 : c = 1
  · subst h1; exact right_1 n w
  by_cases h2 : c = 2
  · subst h2; exact right_2 n w
  by_cases h3 : c = 3
  · subst h3
    by_cases h0 : 1 ≤ n
    · by_cases h1 : n ≤ 256
      · have e : rightO ⟨3, n⟩ = true := by simp [rightO, h0, h1]
        rw [e]; exact right_3 n w h0 h1
      · have e : rightO ⟨3, n⟩ = false := by simp [rightO]; omega
        rw [e]; exact right_3hi n w h0 (decide_eq_false h1)
    · have e : rightO ⟨3, n⟩ = false := by simp [rightO]; omega
      rw [e]; exact right_3lo n w (by omega)
  by_cases h4 : c = 4
  · subst h4; exact right_4 n w
  by_cases h5 : c = 5
  · subst h5; exact right_5 n w
  by_cases h6 : c = 6
  · subst h6
    by_cases h0 : 0 ≤ n
    · by_cases h1 : n ≤ 255
      · have e : rightO ⟨6, n⟩ = true := by simp [rightO, h0, h1]
        rw [e]; exact right_6 n w h0 h1
      · have e : rightO ⟨6, n⟩ = false := by simp [rightO]; omega
        rw [e]; exact right_6hi n w h0 (decide_eq_false h1)
    · have e : rightO ⟨6, n⟩ = false := by simp [rightO]; omega
      rw [e]; exact right_6lo n w (by omega)
  have e : rightO ⟨c, n⟩ = false := by simp [rightO, h3, h6]; omega
  rw [e]
  exact right_0 c n w (by simpa using h1) (by simpa using h2) (by simpa using h3) (by simpa using h4) (by simpa using h5) (by simpa using h6)

theorem rref_1 (n : Int) (w : World) :
    Calls Try.prog 31 #[opv 1 n] w fun e w' => e = .returned (.bool true) ∧ Below w.heap.size w w' := by
  go_enter Try.func31, Try.ntmps31
  go_wp2
  go_ret
  exact ⟨rfl, below_alloc _ _⟩
theorem rref_2 (n : Int) (w : World) :
    Calls Try.prog 31 #[opv 2 n] w fun e w' => e = .returned (.bool true) ∧ Below w.heap.size w w' := by
  go_enter Try.func31, Try.ntmps31
  go_wp2
  go_ret
  exact ⟨rfl, below_alloc _ _⟩
theorem rref_4 (n : Int) (w : World) :
    Calls Try.prog 31 #[opv 4 n] w fun e w' => e = .returned (.bool true) ∧ Below w.heap.size w w' := by
  go_enter Try.func31, Try.ntmps31
  go_wp2
  go_ret
  exact ⟨rfl, below_alloc _ _⟩
theorem rref_5 (n : Int) (w : World) :
    Calls Try.prog 31 #[opv 5 n] w fun e w' => e = .returned (.bool true) ∧ Below w.heap.size w w' := by
  go_enter Try.func31, Try.ntmps31
  go_wp2
  go_ret
  exact ⟨rfl, below_alloc _ _⟩
theorem rref_3 (n : Int) (w : World) (h0 : 1 ≤ n) (h1 : n ≤ 256) :
    Calls Try.prog 31 #[opv 3 n] w fun e w' => e = .returned (.bool true) ∧ Below w.heap.size w w' := by
  go_enter Try.func31, Try.ntmps31
  go_wp2
  go_ret
  exact ⟨rfl, below_alloc _ _⟩
theorem rref_3lo (n : Int) (w : World) (h0 : n < 1) :
    Calls Try.prog 31 #[opv 3 n] w fun e w' => e = .returned (.bool false) ∧ Below w.heap.size w w' := by
  go_enter Try.func31, Try.ntmps31
  go_wp2
  go_ret
  exact ⟨rfl, below_alloc _ _⟩
theorem rref_3hi (n : Int) (w : World) (h0 : 1 ≤ n) (h1 : decide (n ≤ 256) = false) :
    Calls Try.prog 31 #[opv 3 n] w fun e w' => e = .returned (.bool false) ∧ Below w.heap.size w w' := by
  go_enter Try.func31, Try.ntmps31
  go_wp2
  go_ret
  exact ⟨rfl, below_alloc _ _⟩
theorem rref_6 (n : Int) (w : World) (h0 : 0 ≤ n) (h1 : n ≤ 255) :
    Calls Try.prog 31 #[opv 6 n] w fun e w' => e = .returned (.bool true) ∧ Below w.heap.size w w' := by
  go_enter Try.func31, Try.ntmps31
  go_wp2
  go_ret
  exact ⟨rfl, below_alloc _ _⟩
theorem rref_6lo (n : Int) (w : World) (h0 : n < 0) :
    Calls Try.prog 31 #[opv 6 n] w fun e w' => e = .returned (.bool false) ∧ Below w.heap.size w w' := by
  go_enter Try.func31, Try.ntmps31
  go_wp2
  go_ret
  exact ⟨rfl, below_alloc _ _⟩
theorem rref_6hi (n : Int) (w : World) (h0 : 0 ≤ n) (h1 : decide (n ≤ 255) = false) :
    Calls Try.prog 31 #[opv 6 n] w fun e w' => e = .returned (.bool false) ∧ Below w.heap.size w w' := by
  go_enter Try.func31, Try.ntmps31
  go_wp2
  go_ret
  exact ⟨rfl, below_alloc _ _⟩
theorem rref_lo (c n : Int) (w : World) (h3 : (c == 3) = false) (h6 : (c == 6) = false) (hc : c < 1) :
    Calls Try.prog 31 #[opv c n] w fun e w' => e = .returned (.bool false) ∧ Below w.heap.size w w' := by
  go_enter Try.func31, Try.ntmps31
  go_wp2
  go_ret
  exact ⟨rfl, below_alloc _ _⟩
theorem rref_hi (c n : Int) (w : World) (h3 : (c == 3) = false) (h6 : (c == 6) = false) (h1 : 1 ≤ c) (hc : decide (c ≤ 5) = false) :
    Calls Try.prog 31 #[opv c n] w fun e w' => e = .returned (.bool false) ∧ Below w.heap.size w w' := by
  go_enter Try.func31, Try.ntmps31
  go_wp2
  go_ret
  exact ⟨rfl, below_alloc _ _⟩
theorem rref_is (c n : Int) (p : Bool) (w : World) (h : rightO ⟨c, n⟩ = p) :
    Calls Try.prog 31 #[opv c n] w fun e w' => e = .returned (.bool p) ∧ Below w.heap.size w w' := by
  subst h
  by_cases h1 : c = 1
  · subst h1; exact rref_1 n w
  by_cases h2 : c = 2
  · subst h2; exact rref_2 n w
  by_cases h3 : c = 3
  · subst h3
    by_cases h0 : 1 ≤ n
    · by_cases h1 : n ≤ 256
      · have e : rightO ⟨3, n⟩ = true := by simp [rightO, h0, h1]
        rw [e]; exact rref_3 n w h0 h1
      · have e : rightO ⟨3, n⟩ = false := by simp [rightO]; omega
        rw [e]; exact rref_3hi n w h0 (decide_eq_false h1)
    · have e : rightO ⟨3, n⟩ = false := by simp [rightO]; omega
      rw [e]; exact rref_3lo n w (by omega)
  by_cases h4 : c = 4
  · subst h4; exact rref_4 n w
  by_cases h5 : c = 5
  · subst h5; exact rref_5 n w
  by_cases h6 : c = 6
  · subst h6
    by_cases h0 : 0 ≤ n
    · by_cases h1 : n ≤ 255
      · have e : rightO ⟨6, n⟩ = true := by simp [rightO, h0, h1]
        rw [e]; exact rref_6 n w h0 h1
      · have e : rightO ⟨6, n⟩ = false := by simp [rightO]; omega
        rw [e]; exact rref_6hi n w h0 (decide_eq_false h1)
    · have e : rightO ⟨6, n⟩ = false := by simp [rightO]; omega
      rw [e]; exact rref_6lo n w (by omega)
  have e : rightO ⟨c, n⟩ = false := by simp [rightO, h3, h6]; omega
  rw [e]
  by_cases hlo : c < 1
  · exact rref_lo c n w (by simpa using h3) (by simpa using h6) hlo
  · exact rref_hi c n w (by simpa using h3) (by simpa using h6) (by omega) (decide_eq_false (by omega))

/-- The two cells of an operation. -/
def OpAt (w : World) (b o : Nat) (x : Oq) : Prop := w.cell? ⟨b, o, none⟩ = some (.int .i64 x.k) ∧ w.cell? ⟨b, o + 1, none⟩ = some (.int .i64 x.n)
theorem OpAt.below {w w' : World} {b o : Nat} {e : Oq} (h : OpAt w b o e) {B : Nat} (hb : Below B w w') (hlt : b < B) : OpAt w' b o e := by
  have hc : ∀ p : Addr, p.block = b → w'.cell? p = w.cell? p := fun p hp => hb.cell (p := p) (by rw [hp]; exact hlt)
  exact ⟨(hc _ rfl).trans h.1, (hc _ rfl).trans h.2⟩
abbrev opAt (os : List Oq) (i : Nat) : Oq := os.getD i ⟨0, 0⟩
/-- A slice value whose elements are these operations. -/
def RdO (w : World) (v : Value) (os : List Oq) : Prop :=
  os.length ≤ 9223372036854775807 ∧ (∀ o ∈ os, o.n ≤ 9223372036854775807) ∧ ∃ ao cap, v = .slice ao os.length cap ∧ os.length ≤ cap ∧ cap ≤ 9223372036854775807 ∧ (os.length ≠ 0 → ∃ b off, ao = some ⟨b, off, none⟩ ∧ b < w.heap.size ∧ ∀ j, j < os.length → OpAt w b (off + j * 2) (opAt os j))
theorem RdO.below {w w' : World} {v : Value} {os : List Oq} (h : RdO w v os) {B : Nat} (hb : Below B w w') (hB : w.heap.size ≤ B) (hs : w.heap.size ≤ w'.heap.size) : RdO w' v os := by
  obtain ⟨h1, h2, ao, cap, rfl, h3, h4, h5⟩ := h
  refine ⟨h1, h2, ao, cap, rfl, h3, h4, fun h0 => ?_⟩
  obtain ⟨b, off, rfl, hlt, hc⟩ := h5 h0
  exact ⟨b, off, rfl, Nat.lt_of_lt_of_le hlt hs, fun j hj => (hc j hj).below hb (Nat.lt_of_lt_of_le hlt hB)⟩
theorem opAt_n (os : List Oq) (h : ∀ o ∈ os, o.n ≤ 9223372036854775807) (k : Nat) (hk : k < os.length) : (opAt os k).n ≤ 9223372036854775807 := by
  have e1 : opAt os k = os[k] := by simp [List.getD_eq_getElem?_getD, hk]
  rw [e1]; exact h _ (List.getElem_mem hk)
theorem all_drop (os : List Oq) (k : Nat) (h : k < os.length) : (os.drop k).all rightO = (rightO (opAt os k) && (os.drop (k + 1)).all rightO) := by
  rw [List.drop_eq_getElem_cons h]
  have e1 : opAt os k = os[k] := by simp [List.getD_eq_getElem?_getD, h]
  rw [e1]; rfl
set_option maxHeartbeats 1000000 in
/-- oper.Right. -/
theorem right_any (sv : Value) (os : List Oq) (x : Bool) (w : World) (hv : RdO w sv os) (hx : rightL os = x) :
    Calls Try.prog 32 #[sv] w fun e w' => e = .returned (.bool x) ∧ Below w.heap.size w w' := by
  have hX : Hid (rightL os = x) := hx
  clear hx
  obtain ⟨hlen, hlt, ao, cap, rfl, _, _, hc⟩ := hv
  clear hlt
  by_cases h6 : os.length ≤ 6
  · have hc' : Hid (os.length ≠ 0 → ∃ b off, ao = some ⟨b, off, none⟩ ∧ b < w.heap.size ∧ ∀ j, j < os.length → OpAt w b (off + j * 2) (opAt os j)) := hc
    have hA : Hid (os.all rightO = x) := by
      have h := hX.out
      rw [rightL, decide_eq_true h6, Bool.true_and] at h; exact h
    clear hc hX
    go_enter Try.func32, Try.ntmps32
    go_wp2_with fail
    go_loopw [10] (fun i wr => ∃ k : Nat, k ≤ os.length ∧ i = .int .i64 k ∧ Hid ((os.drop k).all rightO = x) ∧ Below w.heap.size w wr) (fun i _ => os.length - (intOf i).toNat)
    case atStart => exact ⟨0, Nat.zero_le _, rfl, hA.out, Below.refl _ _⟩
    case round =>
      obtain ⟨j, hj, rfl, hr, hbw⟩ := hrel
      by_cases hlt : j < os.length
      · obtain ⟨b, off, rfl, hb, hcell⟩ := hc'.out (by omega)
        have hx := (hcell j hlt).below hbw hb
        have hs : Hid ((os.drop j).all rightO = (rightO (opAt os j) && (os.drop (j + 1)).all rightO)) := all_drop os j hlt
        clear hcell hc'
        obtain ⟨⟨c, n⟩, hee⟩ : ∃ x, opAt os j = x := ⟨_, rfl⟩
        rw [hee] at hx hs
        clear hee
        obtain ⟨p0, p1⟩ := hx
        simp only at p0 p1
        obtain ⟨p, hp⟩ : ∃ y, Hid (rightO ⟨c, n⟩ = y) := ⟨_, rfl⟩
        rw [hp.out] at hs
        have hbs := hbw.size
        cases p with
        | true =>
          go_wp2_with fail
          refine (right_is c n true _ hp.out).mono ?_
          rintro e w1 ⟨rfl, b1⟩
          go_wp2
          go_roundw
          case rel => exact ⟨j + 1, by omega, by go_num, hs.out.symm.trans hr.out, (hbw.alloc hbs _).trans (b1.mono (Nat.le_trans hbs (by simp)))⟩
          case measure => simp [intOf]; omega
        | false =>
          have hx : Hid (false = x) := hs.out.symm.trans hr.out
          go_wp2_with fail
          refine (right_is c n false _ hp.out).mono ?_
          rintro e w1 ⟨rfl, b1⟩
          go_wp2
          go_ret
          exact ⟨ret_bool hx.out, (hbw.alloc hbs _).trans (b1.mono (Nat.le_trans hbs (by simp)))⟩
      · have hx : Hid (true = x) := by
          have h := hr.out
          rw [List.drop_of_length_le (by omega)] at h
          exact h
        go_wp2
        go_ret
        exact ⟨ret_bool hx.out, hbw⟩
  · have hx : Hid (false = x) := by
      have h := hX.out
      rw [rightL, decide_eq_false h6, Bool.false_and] at h; exact h
    clear hc hX
    go_enter Try.func32, Try.ntmps32
    go_wp2
    go_ret
    exact ⟨ret_bool hx.out, Below.refl _ _⟩

def opCells (o : Oq) : List Value := [.int .i64 o.k, .int .i64 o.n]
def opl (os : List Oq) : List Value := os.flatMap opCells
theorem opl_len (os : List Oq) : (opl os).length = os.length * 2 := by
  induction os with
  | nil => rfl
  | cons x r ih => simp only [opl, List.flatMap_cons, List.length_append, List.length_cons] at *; rw [ih]; simp [opCells]; omega
theorem opl_one (os : List Oq) : ∀ u ∈ opl os, u.oneCell' = true := by
  intro u hu
  simp only [opl, List.mem_flatMap] at hu
  obtain ⟨e, _, he⟩ := hu
  simp only [opCells, List.mem_cons, List.not_mem_nil, or_false] at he
  rcases he with rfl | rfl <;> rfl
theorem opl_append (a b : List Oq) : opl (a ++ b) = opl a ++ opl b := by simp [opl]
theorem opl_at (os : List Oq) : ∀ (i r : Nat), r < 2 → i < os.length → (opl os)[i * 2 + r]? = (opCells (opAt os i))[r]? := by
  induction os with
  | nil => intro i r _ hi; simp at hi
  | cons x s ih =>
    intro i r hr hi
    have hc : (opCells x).length = 2 := rfl
    show (opCells x ++ opl s)[i * 2 + r]? = _
    cases i with
    | zero => rw [List.getElem?_append_left (by omega)]; simp
    | succ i =>
      rw [List.getElem?_append_right (by omega), hc, show (i + 1) * 2 + r - 2 = i * 2 + r by omega, ih i r hr (by simpa using hi)]
      simp
theorem opl_some {os : List Oq} {j : Nat} {u : Value} (h : (opl os)[j]? = some u) : j / 2 < os.length ∧ (opCells (opAt os (j / 2)))[j % 2]? = some u := by
  have hl := (List.getElem?_eq_some_iff.1 h).1
  rw [opl_len] at hl
  have h1 : j / 2 < os.length := by omega
  refine ⟨h1, ?_⟩
  rw [← opl_at os (j / 2) (j % 2) (by omega) h1, show j / 2 * 2 + j % 2 = j by omega]
  exact h
theorem own_form {w : World} {base : Nat} {e : TypeId} {v : Value} {n : Nat} {xs : List Value} (h : w.ownsRow base e 2 v n xs) (hne : ¬ v = .slice none 0 0) :
    ∃ g cp, v = .slice (some ⟨g, 0, none⟩) n cp ∧ n ≤ cp ∧ cp ≤ 9223372036854775807 ∧ base ≤ g := by
  obtain ⟨_, h | ⟨g, cap, cur, rfl, h2, hh, hn, hm, _⟩⟩ := h
  · exact absurd h.1 hne
  · exact ⟨g, cap, rfl, hn, by unfold maxLen at hm; omega, h2⟩
/-- The cells of a list of the call's own. -/
theorem own_cells {w : World} {base : Nat} {g cap : Nat} {os : List Oq} {e : TypeId} (h : w.ownsRow base e 2 (.slice (some ⟨g, 0, none⟩) os.length cap) os.length (opl os)) (j : Nat) (hj : j < os.length) : OpAt w g (0 + j * 2) (opAt os j) := by
  have hc : ∀ r, r < 2 → w.cell? ⟨g, 0 + j * 2 + r, none⟩ = (opCells (opAt os j))[r]? := by
    intro r hr
    rw [Nat.zero_add, h.cellAt (j * 2 + r) (by omega), opl_at os j r hr hj]
  exact ⟨hc 0 (by decide), hc 1 (by decide)⟩
theorem rd_part {w : World} {base g cp : Nat} {ns : List Oq} {e : TypeId} (hown : w.ownsRow base e 2 (.slice (some ⟨g, 0, none⟩) ns.length cp) ns.length (opl ns)) (hlt : ∀ x ∈ ns, x.n ≤ 9223372036854775807) (ps : List Oq) (i off m cq : Nat) (hi : i + ps.length ≤ ns.length)
    (hps : ∀ j, j < ps.length → opAt ps j = opAt ns (i + j)) (hoff : ps.length ≠ 0 → off = i * 2) (hm : ps.length = m) (hm2 : m ≤ cq) (hq : cq ≤ 9223372036854775807) (hmem : ∀ x ∈ ps, x ∈ ns) : RdO w (.slice (some ⟨g, off, none⟩) m cq) ps := by
  subst hm
  refine ⟨by omega, fun x hx => hlt x (hmem x hx), _, cq, rfl, hm2, hq, fun h0 => ⟨g, off, rfl, ?_, fun j hj => ?_⟩⟩
  · have := own_cells hown i (by omega)
    exact World.block_lt_of_cell? w _ this.1
  · have := own_cells hown (i + j) (by omega)
    rw [hps j hj, hoff h0, show i * 2 + j * 2 = 0 + (i + j) * 2 by omega]
    exact this
theorem drop_at (ns : List Oq) (C : Nat) : ∀ j, j < (ns.drop C).length → opAt (ns.drop C) j = opAt ns (C + j) := by
  intro j _
  simp [List.getD_eq_getElem?_getD, List.getElem?_drop]
theorem take_part (ns : List Oq) (C : Nat) : ∀ j, j < (ns.take C).length → opAt (ns.take C) j = opAt ns (0 + j) := by
  intro j hj
  have : j < C := by rw [List.length_take] at hj; omega
  simp [List.getD_eq_getElem?_getD, List.getElem?_take_of_lt this]

/-- window.most. -/
theorem wmost_is (n s k : Int) (w : World) (hs : 1 ≤ s) (h1 : s ≤ n) (h2 : n ≤ 1048576) (hk : most n s = k) :
    Calls Try.prog 41 #[.int .i64 n, .int .i64 s] w fun e w' => e = .returned (.int .i64 k) ∧ w' = w := by
  have hk' : Hid (most n s = k) := hk
  clear hk
  go_enter Try.func41, Try.ntmps41
  go_wp2
  go_ret
  exact ⟨ret_int hk'.out, rfl⟩
/-- window.Right. -/
theorem wright_is (n s : Int) (p : Bool) (w : World) (hp : rightB n s = p) :
    Calls Try.prog 33 #[.int .i64 n, .int .i64 s] w fun e w' => e = .returned (.bool p) ∧ w' = w := by
  have hp' : Hid (rightB n s = p) := hp
  clear hp
  by_cases h1 : s < 1
  · have hf : Hid (p = false) := by
      have h : p = false := by
        rw [← hp'.out, Bool.eq_false_iff]
        intro h
        have := right_of h
        omega
      exact h
    go_enter Try.func33, Try.ntmps33
    go_wp2
    go_ret
    exact ⟨ret_bool hf.out.symm, rfl⟩
  by_cases h2 : n < s
  · have hf : Hid (p = false) := by
      have h : p = false := by
        rw [← hp'.out]
        exact right_no' h2
      exact h
    go_enter Try.func33, Try.ntmps33
    go_wp2
    go_ret
    exact ⟨ret_bool hf.out.symm, rfl⟩
  by_cases h3 : 1048576 < n
  · have hf : Hid (p = false) := by
      have h : p = false := by
        rw [← hp'.out, Bool.eq_false_iff]
        intro h
        have := right_of h
        omega
      exact h
    go_enter Try.func33, Try.ntmps33
    go_wp2
    go_ret
    exact ⟨ret_bool hf.out.symm, rfl⟩
  obtain ⟨k, hk⟩ : ∃ k, Hid (most n s = k) := ⟨_, rfl⟩
  have hd : Hid (decide (k ≤ 8) = p) := by
    have h : decide (k ≤ 8) = p := by
      rw [← hp'.out, ← hk.out, Bool.eq_iff_iff, right_iff]
      simp
      omega
    exact h
  go_enter Try.func33, Try.ntmps33
  go_wp2_with fail
  refine (wmost_is n s k _ (by omega) (by omega) (by omega) hk.out).mono ?_
  rintro e w' ⟨rfl, he⟩; obtain rfl := he.symm; clear he
  go_wp2_with fail
  go_ret
  exact ⟨ret_bool hd.out, rfl⟩
/-- cordonref1.RightWindow. -/
theorem wrright_is (n s : Int) (p : Bool) (w : World) (hp : rightB n s = p) :
    Calls Try.prog 30 #[.int .i64 n, .int .i64 s] w fun e w' => e = .returned (.bool p) ∧ w' = w := by
  have hp' : Hid (rightB n s = p) := hp
  clear hp
  by_cases h1 : s < 1
  · have hf : Hid (p = false) := by
      have h : p = false := by
        rw [← hp'.out, Bool.eq_false_iff]
        intro h
        have := right_of h
        omega
      exact h
    go_enter Try.func30, Try.ntmps30
    go_wp2
    go_ret
    exact ⟨ret_bool hf.out.symm, rfl⟩
  by_cases h2 : n < s
  · have hf : Hid (p = false) := by
      have h : p = false := by
        rw [← hp'.out]
        exact right_no' h2
      exact h
    go_enter Try.func30, Try.ntmps30
    go_wp2
    go_ret
    exact ⟨ret_bool hf.out.symm, rfl⟩
  by_cases h3 : 1048576 < n
  · have hf : Hid (p = false) := by
      have h : p = false := by
        rw [← hp'.out, Bool.eq_false_iff]
        intro h
        have := right_of h
        omega
      exact h
    go_enter Try.func30, Try.ntmps30
    go_wp2
    go_ret
    exact ⟨ret_bool hf.out.symm, rfl⟩
  have hd : Hid (decide ((n + s - 1) / s ≤ 8) = p) := by
    have h : decide ((n + s - 1) / s ≤ 8) = p := by
      rw [← hp'.out, Bool.eq_iff_iff, right_iff, most]
      simp
      omega
    exact h
  go_enter Try.func30, Try.ntmps30
  go_wp2
  go_ret
  exact ⟨ret_bool hd.out, rfl⟩

/-- agg.Right. -/
theorem aright_is (k : Int) (p : Bool) (w : World) (hp : decide (1 ≤ k ∧ k ≤ 4) = p) : Calls Try.prog 34 #[.int .i64 k] w fun e w' => e = .returned (.bool p) ∧ w' = w := by
  subst hp
  by_cases h1 : 1 ≤ k
  · by_cases h2 : k ≤ 4
    · go_enter Try.func34, Try.ntmps34
      go_wp2
      go_ret
      exact ⟨ret_bool (by simp [h1, h2]), rfl⟩
    · go_enter Try.func34, Try.ntmps34
      go_wp2
      go_ret
      exact ⟨ret_bool (by simp [h2]), rfl⟩
  · go_enter Try.func34, Try.ntmps34
    go_wp2
    go_ret
    exact ⟨ret_bool (by simp; omega), rfl⟩

end Go.Proofs.Ytimeglhoiibhdaa
