/- Plain mathematics of sets as bits, its second part: the least bit taken away, which numbers are in a set, joins, meets, what is below what. Nothing of the program stands here. -/
import Derived.Test.YtmhldbanjlccmaaDoorMath
namespace Go.Proofs.YtmhldbanjlccmaaDoor.M
open Go.Lib

/-! ### The least bit taken away -/
def wl (x : Nat) : Nat := x &&& (x - 1)

theorem wl_odd (q : Nat) : wl (2 * q + 1) = 2 * q := by
  unfold wl
  apply Nat.eq_of_testBit_eq
  intro i
  rw [Nat.testBit_and]
  have e : 2 * q + 1 - 1 = 2 * q := by omega
  rw [e]
  cases i with
  | zero => simp [Nat.testBit_zero]
  | succ j =>
    rw [Nat.testBit_succ, Nat.testBit_succ]
    have e1 : (2 * q + 1) / 2 = q := by omega
    have e2 : 2 * q / 2 = q := by omega
    rw [e1, e2]; simp
theorem wl_even (q : Nat) : wl (2 * q) = 2 * wl q := by
  unfold wl
  apply Nat.eq_of_testBit_eq
  intro i
  rw [Nat.testBit_and]
  cases i with
  | zero => simp [Nat.testBit_zero]
  | succ j =>
    rw [Nat.testBit_succ, Nat.testBit_succ, Nat.testBit_succ]
    have e1 : (2 * q - 1) / 2 = q - 1 := by omega
    have e2 : 2 * q / 2 = q := by omega
    have e3 : 2 * (q &&& (q - 1)) / 2 = q &&& (q - 1) := by omega
    rw [e1, e2, e3, Nat.testBit_and]
theorem wl_lt (x : Nat) (h : x ≠ 0) : wl x < x := by
  have : wl x ≤ x - 1 := Nat.and_le_right
  omega
theorem wl_le (x : Nat) : wl x ≤ x := Nat.and_le_left

theorem ids_least : ∀ (n x : Nat), x ≠ 0 → x < 2 ^ n → ids n x = ctzFrom n x :: ids n (wl x)
  | 0, x, h0, h => by simp at h; omega
  | n + 1, x, h0, h => by
    have hx : x / 2 < 2 ^ n := by rw [Nat.pow_succ] at h; omega
    rw [ids_cons n x, ids_cons n (wl x), ctzFrom]
    by_cases hp : x % 2 = 1
    · have e : x = 2 * (x / 2) + 1 := by omega
      have e2 : wl x = 2 * (x / 2) := by rw [e, wl_odd]; omega
      have e3 : 2 * (x / 2) / 2 = x / 2 := by omega
      have e4 : ¬ (2 * (x / 2) % 2 = 1) := by omega
      rw [e2, e3, if_pos hp, if_neg e4, if_pos hp]
      simp
    · have e : x = 2 * (x / 2) := by omega
      have hq : x / 2 ≠ 0 := by omega
      have e2 : wl x = 2 * wl (x / 2) := by
        have := wl_even (x / 2)
        rw [← e] at this; exact this
      have e3 : 2 * wl (x / 2) / 2 = wl (x / 2) := by omega
      have e4 : ¬ (2 * wl (x / 2) % 2 = 1) := by omega
      rw [e2, e3, if_neg hp, if_neg e4, if_neg hp, ids_least n (x / 2) hq hx]
      simp [Nat.add_comm]

theorem ids_ctz (x : Nat) (h0 : x ≠ 0) (h : x < 18446744073709551616) : ids 64 x = ctz 64 x :: ids 64 (wl x) := by
  have := ids_least 64 x h0 h
  rw [this]
  simp [ctz, h0]
theorem ids_zero (n : Nat) : ids n 0 = [] := by simp [ids]
theorem cnt_zero : cnt 0 = 0 := by simp [cnt, ids_zero]
theorem cnt_wl (x : Nat) (h0 : x ≠ 0) (h : x < 18446744073709551616) : cnt x = cnt (wl x) + 1 := by
  unfold cnt; rw [ids_ctz x h0 h]; simp
theorem cnt_pos (x : Nat) (h0 : x ≠ 0) (h : x < 18446744073709551616) : 0 < cnt x := by
  rw [cnt_wl x h0 h]; omega
theorem ctz_lt (x : Nat) (h0 : x ≠ 0) (h : x < 18446744073709551616) : ctz 64 x < 64 := (lowest_bit 64 x h0 h).2
theorem mem_ids (n x i : Nat) : i ∈ ids n x ↔ i < n ∧ x.testBit i = true := by simp [ids]
theorem ids_sorted (n x : Nat) : (ids n x).Pairwise (· < ·) := by
  unfold ids
  exact List.Pairwise.filter _ List.pairwise_lt_range

/-! ### One, joins, meets -/
def bitN (i : Int) : Nat := if 0 ≤ i ∧ i < 64 then 2 ^ i.toNat else 0
def ofL (l : List Int) : Nat := l.foldl (fun m i => m ||| bitN i) 0
def joinL (l : List Nat) : Nat := l.foldl (fun m i => m ||| i) 0
def meetL (l : List Nat) : Nat := l.foldl (fun m i => m &&& i) 18446744073709551615

theorem two_pow_lt (k : Nat) (h : k < 64) : 2 ^ k < 18446744073709551616 := by
  have : 2 ^ k < 2 ^ 64 := Nat.pow_lt_pow_right (by decide) h
  simpa using this
theorem bitN_lt (i : Int) : bitN i < 18446744073709551616 := by
  unfold bitN
  split
  · exact two_pow_lt _ (by omega)
  · decide
theorem bitN_nat (k : Nat) (h : k < 64) : bitN (k : Int) = 2 ^ k := by
  unfold bitN; rw [if_pos (by omega)]; simp
theorem or_lt (a b : Nat) (ha : a < 18446744073709551616) (hb : b < 18446744073709551616) : a ||| b < 18446744073709551616 :=
  Nat.or_lt_two_pow (n := 64) (by simpa using ha) (by simpa using hb)
theorem and_lt (a b : Nat) (ha : a < 18446744073709551616) : a &&& b < 18446744073709551616 :=
  Nat.lt_of_le_of_lt Nat.and_le_left ha

theorem ofL_snoc (l : List Int) (i : Int) : ofL (l ++ [i]) = ofL l ||| bitN i := by simp [ofL]
theorem joinL_snoc (l : List Nat) (i : Nat) : joinL (l ++ [i]) = joinL l ||| i := by simp [joinL]
theorem meetL_snoc (l : List Nat) (i : Nat) : meetL (l ++ [i]) = meetL l &&& i := by simp [meetL]

theorem foldl_or (l : List Nat) : ∀ a, l.foldl (fun m i => m ||| i) a = a ||| joinL l := by
  induction l with
  | nil => intro a; simp [joinL]
  | cons x xs ih =>
    intro a
    rw [List.foldl_cons, ih]
    have : joinL (x :: xs) = x ||| joinL xs := by
      show xs.foldl _ (0 ||| x) = _
      rw [ih, Nat.zero_or]
    rw [this, Nat.or_assoc]
theorem joinL_cons (x : Nat) (xs : List Nat) : joinL (x :: xs) = x ||| joinL xs := by
  show xs.foldl _ (0 ||| x) = _
  rw [foldl_or, Nat.zero_or]
theorem joinL_append (l r : List Nat) : joinL (l ++ r) = joinL l ||| joinL r := by
  unfold joinL
  rw [List.foldl_append, foldl_or]; rfl
theorem ofL_join (l : List Int) : ofL l = joinL (l.map bitN) := by
  unfold ofL joinL
  rw [List.foldl_map]
theorem testBit_joinL (l : List Nat) (i : Nat) : (joinL l).testBit i = l.any (·.testBit i) := by
  induction l with
  | nil => simp [joinL]
  | cons x xs ih => rw [joinL_cons, Nat.testBit_or, ih, List.any_cons]
theorem joinL_lt (l : List Nat) (h : ∀ x ∈ l, x < 18446744073709551616) : joinL l < 18446744073709551616 := by
  induction l with
  | nil => simp [joinL]
  | cons x xs ih =>
    rw [joinL_cons]
    exact or_lt _ _ (h x (by simp)) (ih fun y hy => h y (by simp [hy]))
theorem ofL_lt (l : List Int) : ofL l < 18446744073709551616 := by
  rw [ofL_join]
  apply joinL_lt
  intro x hx
  obtain ⟨i, _, rfl⟩ := List.mem_map.1 hx
  exact bitN_lt i

theorem testBit_max (i : Nat) : Nat.testBit 18446744073709551615 i = decide (i < 64) := by
  have : (18446744073709551615 : Nat) = 2 ^ 64 - 1 := by decide
  rw [this, Nat.testBit_two_pow_sub_one]
theorem and_max (a : Nat) (ha : a < 18446744073709551616) : 18446744073709551615 &&& a = a := by
  have : (18446744073709551615 : Nat) = 2 ^ 64 - 1 := by decide
  rw [Nat.and_comm, this, Nat.and_two_pow_sub_one_eq_mod]
  exact Nat.mod_eq_of_lt ha
theorem foldl_and (l : List Nat) : ∀ a, a < 18446744073709551616 → l.foldl (fun m i => m &&& i) a = a &&& meetL l := by
  induction l with
  | nil => intro a ha; simp only [meetL, List.foldl_nil]; rw [Nat.and_comm, and_max a ha]
  | cons x xs ih =>
    intro a ha
    rw [List.foldl_cons, ih _ (and_lt _ _ ha)]
    have : meetL (x :: xs) = (18446744073709551615 &&& x) &&& meetL xs := by
      show xs.foldl _ (18446744073709551615 &&& x) = _
      exact ih _ (and_lt _ _ (by decide))
    rw [this, Nat.and_comm 18446744073709551615 x, Nat.and_assoc x, ← Nat.and_assoc a x]
    congr 1
    rw [and_max]
    have : meetL xs ≤ 18446744073709551615 := by
      have h := ih 18446744073709551615 (by decide)
      have : meetL xs = 18446744073709551615 &&& meetL xs := h
      rw [this]; exact Nat.and_le_left
    omega
theorem meetL_lt (l : List Nat) : meetL l < 18446744073709551616 := by
  have h : meetL l = 18446744073709551615 &&& meetL l := foldl_and l 18446744073709551615 (by decide)
  rw [h]; exact and_lt _ _ (by decide)
theorem testBit_meetL (l : List Nat) (i : Nat) : (meetL l).testBit i = (decide (i < 64) && l.all (·.testBit i)) := by
  induction l with
  | nil => simp [meetL, testBit_max]
  | cons x xs ih =>
    have : meetL (x :: xs) = (18446744073709551615 &&& x) &&& meetL xs := by
      show xs.foldl _ (18446744073709551615 &&& x) = _
      exact foldl_and _ _ (and_lt _ _ (by decide))
    rw [this, Nat.testBit_and, Nat.testBit_and, ih, testBit_max, List.all_cons]
    cases decide (i < 64) <;> simp

/-! ### Below -/
theorem below_eq (a b : Nat) (ha : a < 18446744073709551616) (hb : b < 18446744073709551616) : (((a &&& (18446744073709551615 - b) : Nat) : Int) == 0) = decide (a &&& b = a) := by
  have e : 18446744073709551615 - b = 2 ^ 64 - (b + 1) := by omega
  rw [Bool.eq_iff_iff, beq_iff_eq, decide_eq_true_iff]
  have hi : ∀ i, a.testBit i = true → i < 64 := by
    intro i h
    apply Nat.lt_of_not_le
    intro hle
    have : a.testBit i = false := Nat.testBit_lt_two_pow (Nat.lt_of_lt_of_le (by simpa using ha : a < 2 ^ 64) (Nat.pow_le_pow_right (by decide) hle))
    rw [this] at h; cases h
  constructor
  · intro h
    have h' : a &&& (2 ^ 64 - (b + 1)) = 0 := by rw [← e]; omega
    apply Nat.eq_of_testBit_eq
    intro i
    have hb' := congrArg (Nat.testBit · i) h'
    simp only [Nat.testBit_and, Nat.zero_testBit, Nat.testBit_two_pow_sub_succ (show b < 2 ^ 64 by simpa using hb)] at hb'
    rw [Nat.testBit_and]
    cases ha' : a.testBit i
    · simp
    · have := hi i ha'
      simp [ha', this] at hb'
      simp [hb']
  · intro h
    have : a &&& (2 ^ 64 - (b + 1)) = 0 := by
      apply Nat.eq_of_testBit_eq
      intro i
      have hb' := congrArg (Nat.testBit · i) h
      simp only [Nat.testBit_and] at hb'
      rw [Nat.testBit_and, Nat.testBit_two_pow_sub_succ (show b < 2 ^ 64 by simpa using hb), Nat.zero_testBit]
      cases ha' : a.testBit i
      · simp
      · simp [ha'] at hb'
        simp [hb']
    rw [e, this]; rfl

theorem sub_iff (a b : Nat) : a &&& b = a ↔ ∀ i, a.testBit i = true → b.testBit i = true := by
  constructor
  · intro h i hi
    have hb := congrArg (Nat.testBit · i) h
    simp only [Nat.testBit_and, hi, Bool.true_and] at hb
    exact hb
  · intro h
    apply Nat.eq_of_testBit_eq
    intro i
    rw [Nat.testBit_and]
    cases ha : a.testBit i
    · simp
    · simp [h i ha]
theorem or_iff (a b : Nat) : a ||| b = b ↔ a &&& b = a := by
  rw [sub_iff]
  constructor
  · intro h i hi
    have hb := congrArg (Nat.testBit · i) h
    simp only [Nat.testBit_or, hi, Bool.true_or] at hb
    exact hb.symm
  · intro h
    apply Nat.eq_of_testBit_eq
    intro i
    rw [Nat.testBit_or]
    cases ha : a.testBit i
    · simp
    · simp [h i ha]

/-! ### Has -/
theorem and_pow (m k : Nat) : m &&& 2 ^ k = if m.testBit k then 2 ^ k else 0 := by
  apply Nat.eq_of_testBit_eq
  intro i
  rw [Nat.testBit_and, Nat.testBit_two_pow]
  by_cases h : k = i
  · subst h
    cases hb : m.testBit k <;> simp
  · cases hb : m.testBit k <;> simp [h]
theorem has_eq (m : Nat) (i : Int) : (((m &&& bitN i : Nat) : Int) != 0) = (decide (0 ≤ i ∧ i < 64) && m.testBit i.toNat) := by
  unfold bitN
  split
  · rename_i h
    rw [Bool.eq_iff_iff, bne_iff_ne]
    simp only [h, and_self, decide_true, Bool.true_and]
    rw [and_pow]
    cases hb : m.testBit i.toNat
    · simp
    · have := Nat.two_pow_pos i.toNat
      simp only [if_true, iff_true]
      omega
  · rename_i h
    simp [h]

/-! ### Counts of joins and meets -/
theorem len_filter (l : List Nat) (p q : Nat → Bool) : (l.filter fun i => p i || q i).length + (l.filter fun i => p i && q i).length = (l.filter p).length + (l.filter q).length := by
  induction l with
  | nil => simp
  | cons x xs ih =>
    simp only [List.filter_cons]
    cases hp : p x <;> cases hq : q x <;> simp <;> omega
theorem cnt_or_and (a b : Nat) : cnt (a ||| b) + cnt (a &&& b) = cnt a + cnt b := by
  unfold cnt ids
  have e1 : (a ||| b).testBit = fun i => a.testBit i || b.testBit i := by funext i; simp
  have e2 : (a &&& b).testBit = fun i => a.testBit i && b.testBit i := by funext i; simp
  rw [e1, e2]
  exact len_filter _ _ _
theorem cnt_pow_all : ∀ k : Fin 64, cnt (2 ^ k.val) = 1 := by decide +kernel
theorem cnt_pow (k : Nat) (h : k < 64) : cnt (2 ^ k) = 1 := cnt_pow_all ⟨k, h⟩

/-! ### A set is the join of its single ones -/
def toI (l : List Nat) : List Int := l.map fun (n : Nat) => (n : Int)
theorem testBit_hi (m i : Nat) (hm : m < 18446744073709551616) (h : m.testBit i = true) : i < 64 := by
  apply Nat.lt_of_not_le
  intro hle
  have : m.testBit i = false := Nat.testBit_lt_two_pow (Nat.lt_of_lt_of_le (by simpa using hm : m < 2 ^ 64) (Nat.pow_le_pow_right (by decide) hle))
  rw [this] at h; cases h
theorem any_pow (l : List Nat) (i : Nat) : (l.map fun k => 2 ^ k).any (·.testBit i) = decide (i ∈ l) := by
  rw [Bool.eq_iff_iff]
  simp [Nat.testBit_two_pow]
theorem ofL_ids (m : Nat) (hm : m < 18446744073709551616) : ofL (toI (ids 64 m)) = m := by
  rw [ofL_join]
  apply Nat.eq_of_testBit_eq
  intro i
  have e : (toI (ids 64 m)).map bitN = (ids 64 m).map fun k => 2 ^ k := by
    unfold toI
    rw [List.map_map]
    apply List.map_congr_left
    intro k hk
    exact bitN_nat k ((mem_ids _ _ _).1 hk).1
  rw [e, testBit_joinL, any_pow, Bool.eq_iff_iff, decide_eq_true_iff, mem_ids]
  exact ⟨fun h => h.2, fun h => ⟨testBit_hi m i hm h, h⟩⟩

end Go.Proofs.YtmhldbanjlccmaaDoor.M
