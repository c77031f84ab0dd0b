/- Plain mathematics of sets as bits: how many bits are set, which ones, and the lattice of joins and meets. Nothing of the program stands here. -/
import Derived.Lib.TrailingZeros
namespace Go.Proofs.YtmhldbanjlccmaaDoor.M
open Go.Lib

/-! ### Counting bits -/
def pc : Nat → Nat → Nat
  | 0, _ => 0
  | n + 1, x => x % 2 + pc n (x / 2)

def ids (n x : Nat) : List Nat := (List.range n).filter x.testBit
def cnt (x : Nat) : Nat := (ids 64 x).length

theorem ids_snoc (n x : Nat) : ids (n + 1) x = ids n x ++ (if x.testBit n then [n] else []) := by
  unfold ids
  rw [List.range_succ, List.filter_append]
  cases h : x.testBit n <;> simp [h]

theorem ids_cons (n x : Nat) : ids (n + 1) x = (if x % 2 = 1 then [0] else []) ++ (ids n (x / 2)).map (· + 1) := by
  unfold ids
  rw [List.range_succ_eq_map, List.filter_cons, List.filter_map]
  have e : (x.testBit ∘ Nat.succ) = (x / 2).testBit := by
    funext i; simp [Nat.testBit_succ]
  rw [e]
  by_cases h : x % 2 = 1
  · simp [h, Nat.testBit_zero]
  · simp [h, Nat.testBit_zero]

theorem pc_ids : ∀ (n x : Nat), (ids n x).length = pc n x
  | 0, x => by simp [ids, pc]
  | n + 1, x => by
    rw [ids_cons, List.length_append, List.length_map, pc_ids n (x / 2), pc]
    have : x % 2 = 0 ∨ x % 2 = 1 := by omega
    rcases this with h | h <;> simp [h]

theorem pc_add : ∀ (n m x : Nat), pc (n + m) x = pc n x + pc m (x / 2 ^ n)
  | 0, m, x => by simp [pc]
  | n + 1, m, x => by
    have e : n + 1 + m = (n + m) + 1 := by omega
    rw [e, pc, pc_add n m (x / 2), pc, Nat.div_div_eq_div_mul, Nat.pow_succ, Nat.mul_comm (2 ^ n) 2]
    omega

theorem pc_low : ∀ (n x : Nat), pc n x = pc n (x % 2 ^ n)
  | 0, _ => rfl
  | n + 1, x => by
    rw [pc, pc, pc_low n (x / 2), pc_low n (x % 2 ^ (n + 1) / 2)]
    have e1 : x % 2 ^ (n + 1) % 2 = x % 2 := by
      rw [Nat.pow_succ]; exact Nat.mod_mul_left_mod x (2 ^ n) 2
    have e2 : x % 2 ^ (n + 1) / 2 % 2 ^ n = x / 2 % 2 ^ n := by
      rw [Nat.pow_succ, Nat.mod_mul_left_div_self, Nat.mod_mod]
    rw [e1, e2]

/-! ### The words' tricks, byte by byte -/
def mk (c : Nat) : Nat → Nat
  | 0 => 0
  | n + 1 => c + 256 * mk c n
theorem mk_succ (c n : Nat) : mk c (n + 1) = c + 256 * mk c n := rfl

theorem tb (b r i : Nat) (h : b < 256) : (b + 256 * r).testBit i = if i < 8 then b.testBit i else r.testBit (i - 8) := by
  have := Nat.testBit_two_pow_mul_add (i := 8) r (b := b) (by simpa using h) i
  rw [Nat.add_comm]
  simpa using this

theorem and_step (b r c M : Nat) (hb : b < 256) (hc : c < 256) : (b + 256 * r) &&& (c + 256 * M) = (b &&& c) + 256 * (r &&& M) := by
  have hbc : b &&& c < 256 := Nat.lt_of_le_of_lt Nat.and_le_left hb
  apply Nat.eq_of_testBit_eq
  intro i
  rw [Nat.testBit_and, tb _ _ _ hb, tb _ _ _ hc, tb _ _ _ hbc]
  split <;> simp

/-- A byte's number moved down by k, the bits that come in from above masked away. -/
theorem shr_step (k b r c M : Nat) (hk : k ≤ 8) (hb : b < 256) (hc : c < 2 ^ (8 - k)) : (b + 256 * r) / 2 ^ k &&& (c + 256 * M) = (b / 2 ^ k &&& c) + 256 * (r / 2 ^ k &&& M) := by
  have h2 : 2 ^ (8 - k) ≤ 2 ^ 8 := Nat.pow_le_pow_right (by decide) (by omega)
  have hc' : c < 256 := Nat.lt_of_lt_of_le hc h2
  have hbc : b / 2 ^ k &&& c < 256 := Nat.lt_of_le_of_lt Nat.and_le_right hc'
  apply Nat.eq_of_testBit_eq
  intro i
  rw [Nat.testBit_and, tb _ _ _ hc', tb _ _ _ hbc, Nat.testBit_div_two_pow, tb _ _ _ hb]
  by_cases hi : i < 8
  · rw [if_pos hi, if_pos hi, Nat.testBit_and, Nat.testBit_div_two_pow]
    by_cases hik : i + k < 8
    · rw [if_pos (by omega)]
    · have : c.testBit i = false := Nat.testBit_lt_two_pow (Nat.lt_of_lt_of_le hc (Nat.pow_le_pow_right (by decide) (by omega)))
      simp [this]
  · rw [if_neg (by omega), if_neg hi, if_neg hi, Nat.testBit_and, Nat.testBit_div_two_pow]
    congr 2
    omega

def t1 (n x : Nat) : Nat := (x / 2 &&& mk 85 n) + (x &&& mk 85 n)
def t2 (n x : Nat) : Nat := (x / 4 &&& mk 51 n) + (x &&& mk 51 n)
def t3 (n x : Nat) : Nat := (x / 16 + x) &&& mk 15 n
def u1 (b : Nat) : Nat := (b / 2 &&& 85) + (b &&& 85)
def u2 (b : Nat) : Nat := (b / 4 &&& 51) + (b &&& 51)

theorem t1_step (n b r : Nat) (hb : b < 256) : t1 (n + 1) (b + 256 * r) = u1 b + 256 * t1 n r := by
  unfold t1 u1
  rw [mk_succ]
  have h1 := shr_step 1 b r 85 (mk 85 n) (by decide) hb (by decide)
  have h2 := and_step b r 85 (mk 85 n) hb (by decide)
  simp only [Nat.pow_one] at h1
  rw [h1, h2]; omega
theorem t2_step (n b r : Nat) (hb : b < 256) : t2 (n + 1) (b + 256 * r) = u2 b + 256 * t2 n r := by
  unfold t2 u2
  rw [mk_succ]
  have h1 := shr_step 2 b r 51 (mk 51 n) (by decide) hb (by decide)
  have h2 := and_step b r 51 (mk 51 n) hb (by decide)
  have e4 : (2 : Nat) ^ 2 = 4 := rfl
  rw [e4] at h1
  rw [h1, h2]; omega
theorem t3_step (n c s : Nat) (h1 : c % 16 ≤ 4) (h2 : c / 16 ≤ 4) (h3 : s % 16 ≤ 4) : t3 (n + 1) (c + 256 * s) = (c / 16 + c &&& 15) + 256 * t3 n s := by
  unfold t3
  rw [mk_succ]
  have e : (c + 256 * s) / 16 + (c + 256 * s) = (c / 16 + c + 16 * (s % 16)) + 256 * (s / 16 + s) := by omega
  have hlt : c / 16 + c + 16 * (s % 16) < 256 := by omega
  rw [e, and_step _ _ 15 _ hlt (by decide)]
  have m1 : c / 16 + c + 16 * (s % 16) &&& 15 = (c / 16 + c + 16 * (s % 16)) % 16 := Nat.and_two_pow_sub_one_eq_mod _ 4
  have m2 : c / 16 + c &&& 15 = (c / 16 + c) % 16 := Nat.and_two_pow_sub_one_eq_mod _ 4
  rw [m1, m2]; omega

theorem u_all : ∀ b : Fin 256, u1 b.val < 256 ∧ u2 (u1 b.val) % 16 ≤ 4 ∧ u2 (u1 b.val) / 16 ≤ 4 ∧ (u2 (u1 b.val) / 16 + u2 (u1 b.val) &&& 15) = pc 8 b.val ∧ pc 8 b.val ≤ 8 := by decide +kernel
theorem u_at (b : Nat) (h : b < 256) : u1 b < 256 ∧ u2 (u1 b) % 16 ≤ 4 ∧ u2 (u1 b) / 16 ≤ 4 ∧ (u2 (u1 b) / 16 + u2 (u1 b) &&& 15) = pc 8 b ∧ pc 8 b ≤ 8 := u_all ⟨b, h⟩

theorem t21_step (n x : Nat) : t2 (n + 1) (t1 (n + 1) x) = u2 (u1 (x % 256)) + 256 * t2 n (t1 n (x / 256)) := by
  have hb : x % 256 < 256 := Nat.mod_lt _ (by decide)
  have e : x = x % 256 + 256 * (x / 256) := by omega
  have h := t1_step n (x % 256) (x / 256) hb
  rw [← e] at h
  rw [h, t2_step _ _ _ (u_at _ hb).1]
theorem t21_low : ∀ (n x : Nat), t2 n (t1 n x) % 16 ≤ 4
  | 0, x => by simp [t2, t1, mk]
  | n + 1, x => by
    rw [t21_step]
    have := (u_at (x % 256) (Nat.mod_lt _ (by decide))).2.1
    omega

def F (n x : Nat) : Nat := t3 n (t2 n (t1 n x))
theorem F_step (n x : Nat) : F (n + 1) x = pc 8 (x % 256) + 256 * F n (x / 256) := by
  obtain ⟨_, h1, h2, h3, _⟩ := u_at (x % 256) (Nat.mod_lt _ (by decide))
  unfold F
  rw [t21_step, t3_step _ _ _ h1 h2 (t21_low _ _), h3]
theorem pc8 (m x : Nat) : pc (8 + m) x = pc 8 (x % 256) + pc m (x / 256) := by
  rw [pc_add, pc_low 8 x]
theorem F0 (x : Nat) : F 0 x = 0 := by simp [F, t3, mk]

/-- The whole of OnesCount64's sum. -/
def ones (x : Nat) : Nat :=
  let a := (x / 2 &&& 6148914691236517205) + (x &&& 6148914691236517205)
  let b := (a / 4 &&& 3689348814741910323) + (a &&& 3689348814741910323)
  (b / 16 + b) &&& 1085102592571150095
theorem ones_F (x : Nat) : ones x = F 8 x := rfl

theorem ones_sum (x : Nat) : ∃ p0 p1 p2 p3 p4 p5 p6 p7 : Nat, p0 ≤ 8 ∧ p1 ≤ 8 ∧ p2 ≤ 8 ∧ p3 ≤ 8 ∧ p4 ≤ 8 ∧ p5 ≤ 8 ∧ p6 ≤ 8 ∧ p7 ≤ 8 ∧
    ones x = p0 + 256 * (p1 + 256 * (p2 + 256 * (p3 + 256 * (p4 + 256 * (p5 + 256 * (p6 + 256 * p7)))))) ∧ cnt x = p0 + p1 + p2 + p3 + p4 + p5 + p6 + p7 := by
  have hl : ∀ y, pc 8 (y % 256) ≤ 8 := fun y => (u_at _ (Nat.mod_lt _ (by decide))).2.2.2.2
  refine ⟨_, _, _, _, _, _, _, _, hl x, hl (x / 256), hl (x / 256 / 256), hl (x / 256 / 256 / 256), hl (x / 256 / 256 / 256 / 256), hl (x / 256 / 256 / 256 / 256 / 256), hl (x / 256 / 256 / 256 / 256 / 256 / 256), hl (x / 256 / 256 / 256 / 256 / 256 / 256 / 256), ?_, ?_⟩
  · rw [ones_F]
    simp only [F_step, F0, Nat.mul_zero, Nat.add_zero]
  · unfold cnt
    rw [pc_ids]
    have e1 := pc8 56 x
    have e2 := pc8 48 (x / 256)
    have e3 := pc8 40 (x / 256 / 256)
    have e4 := pc8 32 (x / 256 / 256 / 256)
    have e5 := pc8 24 (x / 256 / 256 / 256 / 256)
    have e6 := pc8 16 (x / 256 / 256 / 256 / 256 / 256)
    have e7 := pc8 8 (x / 256 / 256 / 256 / 256 / 256 / 256)
    have e8 := pc8 0 (x / 256 / 256 / 256 / 256 / 256 / 256 / 256)
    have z : pc 0 (x / 256 / 256 / 256 / 256 / 256 / 256 / 256 / 256) = 0 := rfl
    simp only [Nat.reduceAdd, z] at e1 e2 e3 e4 e5 e6 e7 e8
    rw [e1, e2, e3, e4, e5, e6, e7, e8]
    omega

theorem tail1 (p0 p1 p2 p3 p4 p5 p6 p7 u : Nat) (h0 : p0 ≤ 8) (h1 : p1 ≤ 8) (h2 : p2 ≤ 8) (h3 : p3 ≤ 8) (h4 : p4 ≤ 8) (h5 : p5 ≤ 8) (h6 : p6 ≤ 8) (h7 : p7 ≤ 8)
    (e : u = p0 + 256 * (p1 + 256 * (p2 + 256 * (p3 + 256 * (p4 + 256 * (p5 + 256 * (p6 + 256 * p7))))))) :
    (u + u / 256) % 18446744073709551616 = (p0 + p1) + 256 * ((p1 + p2) + 256 * ((p2 + p3) + 256 * ((p3 + p4) + 256 * ((p4 + p5) + 256 * ((p5 + p6) + 256 * ((p6 + p7) + 256 * p7)))))) := by
  have d : u / 256 = p1 + 256 * (p2 + 256 * (p3 + 256 * (p4 + 256 * (p5 + 256 * (p6 + 256 * p7))))) := by
    rw [e, Nat.add_mul_div_left _ _ (by decide), Nat.div_eq_of_lt (by omega)]; omega
  rw [d, e]
  rw [Nat.mod_eq_of_lt (by omega)]
  omega
theorem tail2 (q0 q1 q2 q3 q4 q5 q6 q7 v : Nat) (h0 : q0 ≤ 16) (h1 : q1 ≤ 16) (h2 : q2 ≤ 16) (h3 : q3 ≤ 16) (h4 : q4 ≤ 16) (h5 : q5 ≤ 16) (h6 : q6 ≤ 16) (h7 : q7 ≤ 16)
    (e : v = q0 + 256 * (q1 + 256 * (q2 + 256 * (q3 + 256 * (q4 + 256 * (q5 + 256 * (q6 + 256 * q7))))))) :
    (v + v / 65536) % 18446744073709551616 = (q0 + q2) + 256 * ((q1 + q3) + 256 * ((q2 + q4) + 256 * ((q3 + q5) + 256 * ((q4 + q6) + 256 * ((q5 + q7) + 256 * (q6 + 256 * q7)))))) := by
  have e' : v = (q0 + 256 * q1) + 65536 * (q2 + 256 * (q3 + 256 * (q4 + 256 * (q5 + 256 * (q6 + 256 * q7))))) := by omega
  have d : v / 65536 = q2 + 256 * (q3 + 256 * (q4 + 256 * (q5 + 256 * (q6 + 256 * q7)))) := by
    rw [e', Nat.add_mul_div_left _ _ (by decide), Nat.div_eq_of_lt (by omega)]; omega
  rw [d, e]
  rw [Nat.mod_eq_of_lt (by omega)]
  omega
theorem tail3 (q0 q1 q2 q3 q4 q5 q6 q7 v : Nat) (h0 : q0 ≤ 32) (h1 : q1 ≤ 32) (h2 : q2 ≤ 32) (h3 : q3 ≤ 32) (h4 : q4 ≤ 32) (h5 : q5 ≤ 32) (h6 : q6 ≤ 32) (h7 : q7 ≤ 32)
    (e : v = q0 + 256 * (q1 + 256 * (q2 + 256 * (q3 + 256 * (q4 + 256 * (q5 + 256 * (q6 + 256 * q7))))))) :
    (v + v / 4294967296) % 18446744073709551616 = (q0 + q4) + 256 * ((q1 + q5) + 256 * ((q2 + q6) + 256 * ((q3 + q7) + 256 * (q4 + 256 * (q5 + 256 * (q6 + 256 * q7)))))) := by
  have e' : v = (q0 + 256 * (q1 + 256 * (q2 + 256 * q3))) + 4294967296 * (q4 + 256 * (q5 + 256 * (q6 + 256 * q7))) := by omega
  have d : v / 4294967296 = q4 + 256 * (q5 + 256 * (q6 + 256 * q7)) := by
    rw [e', Nat.add_mul_div_left _ _ (by decide), Nat.div_eq_of_lt (by omega)]; omega
  rw [d, e]
  rw [Nat.mod_eq_of_lt (by omega)]
  omega
def onesEnd (u : Nat) : Nat :=
  let v := (u + u / 256) % 18446744073709551616
  let t := (v + v / 65536) % 18446744073709551616
  (t + t / 4294967296) % 18446744073709551616
theorem tail_end (A R : Nat) (h : A ≤ 64) : (A + 256 * R) % 128 = A := by omega
theorem tail_lt (p0 p1 p2 p3 p4 p5 p6 p7 : Nat) (h0 : p0 ≤ 64) (h1 : p1 ≤ 64) (h2 : p2 ≤ 64) (h3 : p3 ≤ 64) (h4 : p4 ≤ 64) (h5 : p5 ≤ 64) (h6 : p6 ≤ 64) (h7 : p7 ≤ 64) :
    p0 + 256 * (p1 + 256 * (p2 + 256 * (p3 + 256 * (p4 + 256 * (p5 + 256 * (p6 + 256 * p7)))))) < 9223372036854775808 := by omega
theorem tail_all (p0 p1 p2 p3 p4 p5 p6 p7 : Nat) (h0 : p0 ≤ 8) (h1 : p1 ≤ 8) (h2 : p2 ≤ 8) (h3 : p3 ≤ 8) (h4 : p4 ≤ 8) (h5 : p5 ≤ 8) (h6 : p6 ≤ 8) (h7 : p7 ≤ 8) :
    ∀ u, u = p0 + 256 * (p1 + 256 * (p2 + 256 * (p3 + 256 * (p4 + 256 * (p5 + 256 * (p6 + 256 * p7)))))) → u < 18446744073709551616 ∧ onesEnd u % 128 = p0 + p1 + p2 + p3 + p4 + p5 + p6 + p7 ∧ onesEnd u < 9223372036854775808 := by
  have b0 : p0 + p1 ≤ 16 := Nat.add_le_add h0 h1
  have b1 : p1 + p2 ≤ 16 := Nat.add_le_add h1 h2
  have b2 : p2 + p3 ≤ 16 := Nat.add_le_add h2 h3
  have b3 : p3 + p4 ≤ 16 := Nat.add_le_add h3 h4
  have b4 : p4 + p5 ≤ 16 := Nat.add_le_add h4 h5
  have b5 : p5 + p6 ≤ 16 := Nat.add_le_add h5 h6
  have b6 : p6 + p7 ≤ 16 := Nat.add_le_add h6 h7
  have b7 : p7 ≤ 16 := Nat.le_trans h7 (by decide)
  have c0 : p0 + p1 + (p2 + p3) ≤ 32 := Nat.add_le_add b0 b2
  have c1 : p1 + p2 + (p3 + p4) ≤ 32 := Nat.add_le_add b1 b3
  have c2 : p2 + p3 + (p4 + p5) ≤ 32 := Nat.add_le_add b2 b4
  have c3 : p3 + p4 + (p5 + p6) ≤ 32 := Nat.add_le_add b3 b5
  have c4 : p4 + p5 + (p6 + p7) ≤ 32 := Nat.add_le_add b4 b6
  have c5 : p5 + p6 + p7 ≤ 32 := Nat.add_le_add b5 b7
  have c6 : p6 + p7 ≤ 32 := Nat.le_trans b6 (by decide)
  have c7 : p7 ≤ 32 := Nat.le_trans h7 (by decide)
  have up : ∀ {p : Nat}, p ≤ 8 → p ≤ 64 := fun h => Nat.le_trans h (by decide)
  have up2 : ∀ {p : Nat}, p ≤ 32 → p ≤ 64 := fun h => Nat.le_trans h (by decide)
  have l1 := tail_lt p0 p1 p2 p3 p4 p5 p6 p7 (up h0) (up h1) (up h2) (up h3) (up h4) (up h5) (up h6) (up h7)
  have s64 : p0 + p1 + (p2 + p3) + (p4 + p5 + (p6 + p7)) ≤ 64 := Nat.add_le_add c0 c4
  have l2 := tail_lt (p0 + p1 + (p2 + p3) + (p4 + p5 + (p6 + p7))) (p1 + p2 + (p3 + p4) + (p5 + p6 + p7)) (p2 + p3 + (p4 + p5) + (p6 + p7)) (p3 + p4 + (p5 + p6) + p7) (p4 + p5 + (p6 + p7)) (p5 + p6 + p7) (p6 + p7) p7 s64 (Nat.add_le_add c1 c5) (Nat.add_le_add c2 c6) (Nat.add_le_add c3 c7) (up2 c4) (up2 c5) (up2 c6) (up2 c7)
  have se : p0 + p1 + (p2 + p3) + (p4 + p5 + (p6 + p7)) = p0 + p1 + p2 + p3 + p4 + p5 + p6 + p7 := by simp only [Nat.add_assoc]
  intro u e
  have a1 := tail1 p0 p1 p2 p3 p4 p5 p6 p7 u h0 h1 h2 h3 h4 h5 h6 h7 e
  have a2 := tail2 (p0 + p1) (p1 + p2) (p2 + p3) (p3 + p4) (p4 + p5) (p5 + p6) (p6 + p7) p7 _ b0 b1 b2 b3 b4 b5 b6 b7 a1
  have a3 := tail3 (p0 + p1 + (p2 + p3)) (p1 + p2 + (p3 + p4)) (p2 + p3 + (p4 + p5)) (p3 + p4 + (p5 + p6)) (p4 + p5 + (p6 + p7)) (p5 + p6 + p7) (p6 + p7) p7 _ c0 c1 c2 c3 c4 c5 c6 c7 a2
  have a4 : onesEnd u = p0 + p1 + (p2 + p3) + (p4 + p5 + (p6 + p7)) + 256 * (p1 + p2 + (p3 + p4) + (p5 + p6 + p7) + 256 * (p2 + p3 + (p4 + p5) + (p6 + p7) + 256 * (p3 + p4 + (p5 + p6) + p7 + 256 * (p4 + p5 + (p6 + p7) + 256 * (p5 + p6 + p7 + 256 * (p6 + p7 + 256 * p7)))))) := by unfold onesEnd; exact a3
  refine ⟨?_, ?_, ?_⟩
  · rw [e]; exact Nat.lt_trans l1 (by decide)
  · rw [a4, tail_end _ _ s64, se]
  · rw [a4]; exact l2
theorem ones_end (x : Nat) : ones x < 18446744073709551616 ∧ onesEnd (ones x) % 128 = cnt x ∧ onesEnd (ones x) < 9223372036854775808 := by
  obtain ⟨p0, p1, p2, p3, p4, p5, p6, p7, h0, h1, h2, h3, h4, h5, h6, h7, e, ec⟩ := ones_sum x
  rw [ec]
  exact tail_all p0 p1 p2 p3 p4 p5 p6 p7 h0 h1 h2 h3 h4 h5 h6 h7 _ e
theorem cnt_le (x : Nat) : cnt x ≤ 64 := by
  unfold cnt ids
  exact Nat.le_trans (List.length_filter_le _ _) (by simp)

end Go.Proofs.YtmhldbanjlccmaaDoor.M
