/- Windows over time, as numbers and lists: plain mathematics; nothing of the program. -/
import Derived.RowKit
namespace Go.Proofs.Ytnamjnopicghhaa.M
open Go.RowKit
set_option linter.unusedVariables false

/-- In how many windows a time may be. -/
def most (n s : Int) : Int := (n + s - 1) / s
def rightB (n s : Int) : Bool := decide (1 ≤ s ∧ s ≤ n ∧ n ≤ 1048576 ∧ most n s ≤ 8)
def panes (n s : Int) : Int := if rightB n s = true then most n s else 0
/-- The first window's number. -/
def lo (t n s : Int) : Int := if t < n then 0 else (t - n) / s + 1
/-- c multiples of s, from the a-th on. -/
def seg (a s : Int) (c : Nat) : List Int := (List.range c).map fun (i : Nat) => (a + i) * s
def cnt (t n s : Int) : Nat := (t / s - lo t n s + 1).toNat
def sts (t n s : Int) : List Int := seg (lo t n s) s (cnt t n s)
def okT (t : Int) : Bool := decide (0 ≤ t ∧ t ≤ 1099511627776)
def starts (t n s : Int) : List Int := if (rightB n s && okT t) = true then sts t n s else []

theorem right_iff (n s : Int) : rightB n s = true ↔ 1 ≤ s ∧ s ≤ n ∧ n ≤ 1048576 ∧ most n s ≤ 8 := by simp [rightB]
theorem right_of {n s : Int} (h : rightB n s = true) : 1 ≤ s ∧ s ≤ n ∧ n ≤ 1048576 := by
  have := (right_iff n s).1 h
  exact ⟨this.1, this.2.1, this.2.2.1⟩
theorem most_le {n s k : Int} (hs : 1 ≤ s) (h : n ≤ k * s) : most n s ≤ k := by
  unfold most
  have h1 : (n + s - 1) / s < k + 1 := Int.ediv_lt_of_lt_mul (by omega) (by rw [Int.add_mul]; omega)
  omega
theorem le_most {n s k : Int} (hs : 1 ≤ s) (h : k * s < n) : k + 1 ≤ most n s := by
  unfold most
  exact (Int.le_ediv_iff_mul_le (by omega)).2 (by rw [Int.add_mul]; omega)
theorem most_pos {n s : Int} (hs : 1 ≤ s) (h : s ≤ n) : 1 ≤ most n s := by
  have := le_most (n := n) (s := s) (k := 0) hs (by omega)
  omega
theorem right_mk {n s : Int} (hs : 1 ≤ s) (h1 : s ≤ n) (h2 : n ≤ 8 * s) (h3 : n ≤ 1048576) : rightB n s = true :=
  (right_iff n s).2 ⟨hs, h1, h3, most_le hs h2⟩
theorem right_no {n s : Int} (hs : 1 ≤ s) (h2 : 8 * s < n) : rightB n s = false := by
  rw [Bool.eq_false_iff]
  intro h
  have h4 := ((right_iff n s).1 h).2.2.2
  have := le_most (n := n) (s := s) (k := 8) hs h2
  omega
theorem right_no' {n s : Int} (h : n < s) : rightB n s = false := by
  rw [Bool.eq_false_iff]
  intro h'
  have := right_of h'
  omega
theorem panes_of {n s : Int} (h : rightB n s = true) : panes n s = most n s := by unfold panes; rw [if_pos h]
theorem panes_no {n s : Int} (h : rightB n s = false) : panes n s = 0 := by unfold panes; rw [h]; rfl

/- The numbers of the windows that a time is in. -/
theorem le_hi {t s k : Int} (hs : 1 ≤ s) : k ≤ t / s ↔ k * s ≤ t := Int.le_ediv_iff_mul_le (by omega)
theorem hi_lt {t s k : Int} (hs : 1 ≤ s) : t / s < k ↔ t < k * s := Int.ediv_lt_iff_lt_mul (by omega)
theorem lo_iff {t n s k : Int} (hs : 1 ≤ s) (hn : s ≤ n) (hk : 0 ≤ k) : lo t n s ≤ k ↔ t < k * s + n := by
  unfold lo
  by_cases h : t < n
  · rw [if_pos h]
    have : 0 ≤ k * s := Int.mul_nonneg hk (by omega)
    exact ⟨fun _ => by omega, fun _ => hk⟩
  · rw [if_neg h]
    have := hi_lt (t := t - n) (s := s) (k := k) hs
    omega
theorem lo_nonneg {t n s : Int} (hs : 1 ≤ s) (ht : 0 ≤ t) : 0 ≤ lo t n s := by
  unfold lo
  by_cases h : t < n
  · rw [if_pos h]; exact Int.le_refl _
  · rw [if_neg h]
    have := Int.ediv_nonneg (a := t - n) (b := s) (by omega) (by omega)
    omega
theorem hi_nonneg {t s : Int} (hs : 1 ≤ s) (ht : 0 ≤ t) : 0 ≤ t / s := Int.ediv_nonneg ht (by omega)
theorem hi_mul {t s : Int} (hs : 1 ≤ s) : t / s * s ≤ t ∧ t < (t / s + 1) * s := ⟨(le_hi hs).1 (Int.le_refl _), (hi_lt hs).1 (by omega)⟩
theorem lo_le_hi {t n s : Int} (hs : 1 ≤ s) (hn : s ≤ n) (ht : 0 ≤ t) : lo t n s ≤ t / s := by
  refine (lo_iff hs hn (hi_nonneg hs ht)).2 ?_
  have h := (hi_mul (t := t) (s := s) hs).2
  rw [Int.add_mul] at h
  omega
theorem cnt_eq {t n s : Int} (hs : 1 ≤ s) (hn : s ≤ n) (ht : 0 ≤ t) : (cnt t n s : Int) = t / s - lo t n s + 1 := by
  have := lo_le_hi hs hn ht
  unfold cnt
  omega
theorem cnt_pos {t n s : Int} (hs : 1 ≤ s) (hn : s ≤ n) (ht : 0 ≤ t) : 1 ≤ cnt t n s := by
  have h1 := cnt_eq hs hn ht
  have h2 := lo_le_hi hs hn ht
  omega
theorem cnt_most {t n s : Int} (hs : 1 ≤ s) (hn : s ≤ n) (ht : 0 ≤ t) : (cnt t n s : Int) ≤ most n s := by
  have h1 := cnt_eq hs hn ht
  have h2 := hi_mul (t := t) (s := s) hs
  have h3 := (lo_iff (t := t) hs hn (lo_nonneg hs ht)).1 (Int.le_refl _)
  have h4 := le_most (n := n) (s := s) (k := t / s - lo t n s) hs (by rw [Int.sub_mul]; omega)
  omega
theorem cnt_le {t n s : Int} (h : rightB n s = true) (ht : 0 ≤ t) : cnt t n s ≤ 8 := by
  have h1 := (right_iff n s).1 h
  have := cnt_most h1.1 h1.2.1 ht
  omega
/-- From the size on. -/
theorem cnt_late {t n s : Int} (hs : 1 ≤ s) (hn : s ≤ n) (h : n ≤ t) : (cnt t n s : Int) = t / s - (t - n) / s := by
  rw [cnt_eq hs hn (by omega)]
  unfold lo
  rw [if_neg (by omega)]
  omega
theorem most_cnt {t n s : Int} (hs : 1 ≤ s) (hn : s ≤ n) (h : n ≤ t) : most n s - 1 ≤ (cnt t n s : Int) := by
  rw [cnt_late hs hn h]
  have h1 := hi_mul (t := t) (s := s) hs
  have h2 := hi_mul (t := t - n) (s := s) hs
  have := most_le (n := n) (s := s) (k := t / s - (t - n) / s + 1) hs (by rw [Int.add_mul] at h1 ⊢; rw [Int.sub_mul]; omega)
  omega
theorem shift_div (t s k : Int) (hs : 1 ≤ s) : (t + k * s) / s = t / s + k := Int.add_mul_ediv_right _ _ (by omega)
theorem lo_shift {t n s k : Int} (hs : 1 ≤ s) (hk : 0 ≤ k) (h : n ≤ t) : lo (t + k * s) n s = lo t n s + k := by
  have h0 : 0 ≤ k * s := Int.mul_nonneg hk (by omega)
  unfold lo
  rw [if_neg (by omega), if_neg (by omega), show t + k * s - n = t - n + k * s by omega, shift_div _ _ _ hs]
  omega
theorem cnt_shift {t n s k : Int} (hs : 1 ≤ s) (hk : 0 ≤ k) (h : n ≤ t) : cnt (t + k * s) n s = cnt t n s := by
  unfold cnt
  rw [lo_shift hs hk h, shift_div _ _ _ hs]
  congr 1
  omega
/-- A lesser size: a later first window. -/
theorem lo_less {t m n s : Int} (hs : 1 ≤ s) (hm : s ≤ m) (h : m ≤ n) (ht : 0 ≤ t) : lo t n s ≤ lo t m s := by
  have h3 := (lo_iff (t := t) hs hm (lo_nonneg hs ht)).1 (Int.le_refl _)
  exact (lo_iff hs (by omega) (lo_nonneg hs ht)).2 (by omega)

/- Multiples in a row. -/
theorem seg_len (a s : Int) (c : Nat) : (seg a s c).length = c := by simp [seg]
theorem seg_get (a s : Int) (c i : Nat) (h : i < c) : (seg a s c).getD i 0 = (a + i) * s := by
  simp [seg, List.getD_eq_getElem?_getD, h]
theorem seg_succ (a s : Int) (c : Nat) : seg a s (c + 1) = seg a s c ++ [(a + c) * s] := by
  simp [seg, List.range_succ]
theorem seg_nil (a s : Int) : seg a s 0 = [] := rfl
theorem seg_cons (a s : Int) (c : Nat) : seg a s (c + 1) = a * s :: seg (a + 1) s c := by
  unfold seg
  rw [List.range_succ_eq_map, List.map_cons, List.map_map]
  refine congr (congrArg _ (by simp)) (List.map_congr_left fun i _ => ?_)
  simp only [Function.comp]
  congr 1
  omega
theorem seg_drop (a s : Int) (c k : Nat) (h : k ≤ c) : (seg a s c).drop k = seg (a + k) s (c - k) := by
  refine List.ext_getElem (by simp [seg_len]) fun i h1 h2 => ?_
  simp [seg]
  congr 1
  omega
theorem seg_mem {a s x : Int} {c : Nat} (h : x ∈ seg a s c) : ∃ i : Nat, i < c ∧ x = (a + i) * s := by
  simp only [seg, List.mem_map, List.mem_range] at h
  obtain ⟨i, hi, rfl⟩ := h
  exact ⟨i, hi, rfl⟩
theorem mem_seg {a s k : Int} {c : Nat} (h1 : a ≤ k) (h2 : k < a + c) : k * s ∈ seg a s c := by
  simp only [seg, List.mem_map, List.mem_range]
  exact ⟨(k - a).toNat, by omega, by congr 1; omega⟩
theorem seg_take (a s : Int) (c k : Nat) (h : k ≤ c) : (seg a s c).take k = seg a s k := by
  refine List.ext_getElem (by simp [seg_len]; omega) fun i h1 h2 => ?_
  simp [seg]

/- The windows of a time: what each is. -/
theorem starts_of {t n s : Int} (h : rightB n s = true) (h0 : 0 ≤ t) (h1 : t ≤ 1099511627776) : starts t n s = sts t n s := by
  unfold starts
  rw [h, show okT t = true from decide_eq_true ⟨h0, h1⟩]; rfl
theorem starts_no {t n s : Int} (h : rightB n s = false) : starts t n s = [] := by
  unfold starts; rw [h]; rfl
theorem starts_no' {t n s : Int} (h : okT t = false) : starts t n s = [] := by
  unfold starts; rw [h, Bool.and_false]; rfl
/-- A window's begin: at most the time, and the time is in it. -/
theorem at_bounds {t n s : Int} (hs : 1 ≤ s) (hn : s ≤ n) (ht : 0 ≤ t) {i : Nat} (hi : i < cnt t n s) :
    0 ≤ (lo t n s + i) * s ∧ (lo t n s + i) * s ≤ t ∧ t < (lo t n s + i) * s + n := by
  have h1 := cnt_eq hs hn ht
  have h2 := lo_nonneg (n := n) hs ht
  refine ⟨Int.mul_nonneg (by omega) (by omega), (le_hi hs).1 (by omega), ?_⟩
  exact (lo_iff hs hn (by omega)).1 (by omega)
/-- A multiple is a begin just if the time is in its window. -/
theorem mem_iff {t n s k : Int} (hs : 1 ≤ s) (hn : s ≤ n) (ht : 0 ≤ t) (hk : 0 ≤ k) : k * s ∈ sts t n s ↔ k * s ≤ t ∧ t < k * s + n := by
  have h1 := cnt_eq hs hn ht
  constructor
  · intro h
    obtain ⟨i, hi, e⟩ := seg_mem h
    rw [e]
    exact (at_bounds hs hn ht hi).2
  · intro ⟨h2, h3⟩
    have h4 := (le_hi hs).2 h2
    have h5 := (lo_iff hs hn hk).2 h3
    exact mem_seg h5 (by omega)

/- The greatest of a list. -/
def mx : List Int → Int
  | [] => 0
  | x :: r => r.foldl max x
theorem mx_snoc (l : List Int) (x : Int) (h : l ≠ []) : mx (l ++ [x]) = max (mx l) x := by
  cases l with
  | nil => exact absurd rfl h
  | cons y r => simp [mx]
theorem mx_one (x : Int) : mx [x] = x := rfl
theorem foldl_max_mem : ∀ (r : List Int) (x : Int), r.foldl max x = x ∨ r.foldl max x ∈ r
  | [], x => Or.inl rfl
  | y :: r, x => by
    rw [List.foldl_cons]
    rcases foldl_max_mem r (max x y) with h | h
    · rw [h]
      rcases Int.le_total x y with h2 | h2
      · right; rw [Int.max_eq_right h2]; exact List.mem_cons_self ..
      · left; exact Int.max_eq_left h2
    · exact Or.inr (List.mem_cons_of_mem _ h)
theorem mx_mem (l : List Int) (h : l ≠ []) : mx l ∈ l := by
  cases l with
  | nil => exact absurd rfl h
  | cons y r =>
    rcases foldl_max_mem r y with h | h
    · show r.foldl max y ∈ y :: r
      rw [h]; exact List.mem_cons_self ..
    · exact List.mem_cons_of_mem _ h
theorem foldl_max_ge : ∀ (r : List Int) (x : Int), x ≤ r.foldl max x ∧ ∀ y ∈ r, y ≤ r.foldl max x
  | [], x => ⟨Int.le_refl _, by simp⟩
  | z :: r, x => by
    rw [List.foldl_cons]
    obtain ⟨h1, h2⟩ := foldl_max_ge r (max x z)
    refine ⟨by omega, fun y hy => ?_⟩
    rcases List.mem_cons.1 hy with rfl | hy
    · omega
    · exact h2 y hy
theorem le_mx (l : List Int) (x : Int) (h : x ∈ l) : x ≤ mx l := by
  cases l with
  | nil => cases h
  | cons y r =>
    obtain ⟨h1, h2⟩ := foldl_max_ge r y
    rcases List.mem_cons.1 h with rfl | h
    · exact h1
    · exact h2 x h
def last (n : Int) (l : List Int) : Int := if l = [] then 0 else mx l + n
theorem last_nil (n : Int) : last n [] = 0 := rfl
theorem last_of (n : Int) (l : List Int) (h : l ≠ []) : last n l = mx l + n := if_neg h
theorem last_snoc (n : Int) (l : List Int) (x : Int) (hn : 0 ≤ n) (hx : 0 ≤ x) : last n (l ++ [x]) = max (last n l) (x + n) := by
  rw [last_of n _ (by simp)]
  by_cases h : l = []
  · subst h
    rw [last_nil, List.nil_append, mx_one]
    omega
  · rw [last_of n l h, mx_snoc l x h]
    omega

/- All windows of a slide's times together. -/
def sumTo (f : Nat → Int) : Nat → Int
  | 0 => 0
  | k + 1 => sumTo f k + f k
theorem sumTo_congr (f g : Nat → Int) : ∀ k, (∀ i, i < k → f i = g i) → sumTo f k = sumTo g k
  | 0, _ => rfl
  | k + 1, h => by rw [sumTo, sumTo, sumTo_congr f g k fun i hi => h i (by omega), h k (by omega)]
theorem sumTo_sub (f g : Nat → Int) : ∀ k, sumTo (fun i => f i - g i) k = sumTo f k - sumTo g k
  | 0 => rfl
  | k + 1 => by rw [sumTo, sumTo, sumTo, sumTo_sub f g k]; omega
theorem sumTo_shift (f : Nat → Int) : ∀ k, sumTo (fun i => f (i + 1)) k = sumTo f (k + 1) - f 0
  | 0 => by simp [sumTo]
  | k + 1 => by
    have h := sumTo_shift f k
    rw [sumTo, h]
    simp only [sumTo]
    omega
/-- Hermite. -/
theorem hermite (s : Nat) (hs : 1 ≤ s) : ∀ x : Nat, sumTo (fun i => ((x : Int) + i) / s) s = x
  | 0 => by
    have : ∀ k, k ≤ s → sumTo (fun i => (((0 : Nat) : Int) + i) / s) k = 0 := by
      intro k
      induction k with
      | zero => intro _; rfl
      | succ k ih =>
        intro hk
        rw [sumTo, ih (by omega)]
        have : (((0 : Nat) : Int) + k) / s = 0 := Int.ediv_eq_zero_of_lt (by omega) (by omega)
        omega
    exact this s (Nat.le_refl _)
  | x + 1 => by
    have h := sumTo_shift (fun i => ((x : Int) + i) / s) s
    have e : sumTo (fun i => (((x + 1 : Nat) : Int) + i) / s) s = sumTo (fun i => ((x : Int) + (i + 1 : Nat)) / s) s := by
      refine sumTo_congr _ _ s fun i _ => ?_
      congr 1
      omega
    rw [e, h, sumTo, hermite s hs x]
    have e2 : ((x : Int) + s) / s = (x : Int) / s + 1 := by
      have := shift_div (x : Int) s 1 (by omega)
      rw [Int.one_mul] at this
      exact this
    rw [e2]
    simp
    omega
theorem sum_windows (s : Nat) (n x : Int) (hs : 1 ≤ s) (hn : (s : Int) ≤ n) (hx : n ≤ x) : sumTo (fun i => (cnt (x + i) n s : Int)) s = n := by
  rw [sumTo_congr _ (fun i => (x + i) / s - (x - n + i) / s) s fun i _ => by
    rw [cnt_late (by omega) hn (by omega)]
    congr 2
    omega]
  rw [sumTo_sub (fun i => (x + i) / s) (fun i => (x - n + i) / s)]
  have h1 := hermite s hs x.toNat
  have h2 := hermite s hs (x - n).toNat
  rw [show ((x.toNat : Nat) : Int) = x by omega] at h1
  rw [show (((x - n).toNat : Nat) : Int) = x - n by omega] at h2
  rw [h1, h2]
  omega
end Go.Proofs.Ytnamjnopicghhaa.M
