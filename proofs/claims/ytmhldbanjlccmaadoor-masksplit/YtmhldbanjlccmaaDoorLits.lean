/- The calls of the variadic functions of package mask with one, two or three arguments, and with none: the list is laid in new memory, and nothing that was there is written. -/
import Derived.Test.YtmhldbanjlccmaaDoorIds
namespace Go.Proofs.YtmhldbanjlccmaaDoor
open Go.RowKit M

theorem rd_lit {k : IntKind} {e : TypeId} (w : World) (zs : List Int) (hl : zs.length ≤ 1000) : Rd k (w.alloc (.cells (zs.map (Value.int k)).toArray e)) (.slice (some ⟨w.heap.size, 0, none⟩) zs.length zs.length) zs := by
  have h := World.ownsRow_lit (base := w.heap.size) (e := e) (size := 1) w (zs.map (Value.int k)).toArray zs.length (Nat.le_refl _) (by unfold maxLen; omega) (by simp)
  exact rd_own (by simpa using h)

theorem below_alloc (w : World) (o : Obj) : Below w.heap.size w (w.alloc o) := (Below.refl _ _).alloc (Nat.le_refl _) o
theorem below_drewN {B : Nat} {a w : World} (h : Below B a w) : ∀ n, Below B a (w.drewN n)
  | 0 => h
  | n + 1 => (below_drewN h n).drew

theorem join2 (w : World) (a b : Nat) (n : Int) (ha : a < 18446744073709551616) (hb : b < 18446744073709551616) (hn : ((a ||| b : Nat) : Int) = n) :
    Calls Tryd.prog 11 #[.slice (some ⟨w.heap.size, 0, none⟩) 2 2] (w.alloc (.cells #[.int .u64 a, .int .u64 b] 24)) fun e w' => e = .returned (.int .u64 n) ∧ Below w.heap.size w w' := by
  refine (join_any _ [a, b] _ (rd_lit (e := 24) w [(a : Int), (b : Int)] (by simp)) (by simp; omega)).mono ?_
  rintro e w' ⟨rfl, rfl⟩
  refine ⟨ret_int ?_, below_alloc _ _⟩
  rw [← hn]; simp [joinL]
theorem join3 (w : World) (a b c : Nat) (n : Int) (ha : a < 18446744073709551616) (hb : b < 18446744073709551616) (hc : c < 18446744073709551616) (hn : ((a ||| b ||| c : Nat) : Int) = n) :
    Calls Tryd.prog 11 #[.slice (some ⟨w.heap.size, 0, none⟩) 3 3] (w.alloc (.cells #[.int .u64 a, .int .u64 b, .int .u64 c] 24)) fun e w' => e = .returned (.int .u64 n) ∧ Below w.heap.size w w' := by
  refine (join_any _ [a, b, c] _ (rd_lit (e := 24) w [(a : Int), (b : Int), (c : Int)] (by simp)) (by simp; omega)).mono ?_
  rintro e w' ⟨rfl, rfl⟩
  refine ⟨ret_int ?_, below_alloc _ _⟩
  rw [← hn]; simp [joinL]
theorem meet2 (w : World) (a b : Nat) (n : Int) (ha : a < 18446744073709551616) (hb : b < 18446744073709551616) (hn : ((a &&& b : Nat) : Int) = n) :
    Calls Tryd.prog 12 #[.slice (some ⟨w.heap.size, 0, none⟩) 2 2] (w.alloc (.cells #[.int .u64 a, .int .u64 b] 24)) fun e w' => e = .returned (.int .u64 n) ∧ Below w.heap.size w w' := by
  refine (meet_any _ [a, b] _ (rd_lit (e := 24) w [(a : Int), (b : Int)] (by simp)) (by simp; omega)).mono ?_
  rintro e w' ⟨rfl, rfl⟩
  refine ⟨ret_int ?_, below_alloc _ _⟩
  rw [← hn]; simp [meetL, and_max a ha]
theorem meet3 (w : World) (a b c : Nat) (n : Int) (ha : a < 18446744073709551616) (hb : b < 18446744073709551616) (hc : c < 18446744073709551616) (hn : ((a &&& b &&& c : Nat) : Int) = n) :
    Calls Tryd.prog 12 #[.slice (some ⟨w.heap.size, 0, none⟩) 3 3] (w.alloc (.cells #[.int .u64 a, .int .u64 b, .int .u64 c] 24)) fun e w' => e = .returned (.int .u64 n) ∧ Below w.heap.size w w' := by
  refine (meet_any _ [a, b, c] _ (rd_lit (e := 24) w [(a : Int), (b : Int), (c : Int)] (by simp)) (by simp; omega)).mono ?_
  rintro e w' ⟨rfl, rfl⟩
  refine ⟨ret_int ?_, below_alloc _ _⟩
  rw [← hn]; simp [meetL, and_max a ha]
theorem rd_nil (k : IntKind) (w : World) : Rd k w (.slice none 0 0) [] := ⟨by simp, none, 0, rfl, by simp, fun h => absurd rfl h⟩
theorem join0 (w : World) : Calls Tryd.prog 11 #[.slice none 0 0] w fun e w' => e = .returned (.int .u64 0) ∧ w' = w :=
  (join_any _ [] _ (rd_nil _ w) (by simp)).mono fun _ _ h => h
theorem meet0 (w : World) : Calls Tryd.prog 12 #[.slice none 0 0] w fun e w' => e = .returned (.int .u64 18446744073709551615) ∧ w' = w :=
  (meet_any _ [] _ (rd_nil _ w) (by simp)).mono fun _ _ h => h
theorem of1 (w : World) (i : Int) (n : Int) (hn : ((bitN i : Nat) : Int) = n) :
    Calls Tryd.prog 10 #[.slice (some ⟨w.heap.size, 0, none⟩) 1 1] (w.alloc (.cells #[.int .i64 i] 3)) fun e w' => e = .returned (.int .u64 n) ∧ Below w.heap.size w w' := by
  refine (of_any _ [i] _ (rd_lit (e := 3) w [i] (by simp))).mono ?_
  rintro e w' ⟨rfl, rfl⟩
  refine ⟨ret_int ?_, below_alloc _ _⟩
  rw [← hn]; simp [ofL]
theorem of2 (w : World) (i j : Int) (n : Int) (hn : ((bitN i ||| bitN j : Nat) : Int) = n) :
    Calls Tryd.prog 10 #[.slice (some ⟨w.heap.size, 0, none⟩) 2 2] (w.alloc (.cells #[.int .i64 i, .int .i64 j] 3)) fun e w' => e = .returned (.int .u64 n) ∧ Below w.heap.size w w' := by
  refine (of_any _ [i, j] _ (rd_lit (e := 3) w [i, j] (by simp))).mono ?_
  rintro e w' ⟨rfl, rfl⟩
  refine ⟨ret_int ?_, below_alloc _ _⟩
  rw [← hn]; simp [ofL]
theorem of3 (w : World) (i j k : Int) (n : Int) (hn : ((bitN i ||| bitN j ||| bitN k : Nat) : Int) = n) :
    Calls Tryd.prog 10 #[.slice (some ⟨w.heap.size, 0, none⟩) 3 3] (w.alloc (.cells #[.int .i64 i, .int .i64 j, .int .i64 k] 3)) fun e w' => e = .returned (.int .u64 n) ∧ Below w.heap.size w w' := by
  refine (of_any _ [i, j, k] _ (rd_lit (e := 3) w [i, j, k] (by simp))).mono ?_
  rintro e w' ⟨rfl, rfl⟩
  refine ⟨ret_int ?_, below_alloc _ _⟩
  rw [← hn]; simp [ofL]
/-- Below, Has and Count with their answers given. -/
theorem below_is (w : World) (a b : Nat) (p : Bool) (ha : a < 18446744073709551616) (hb : b < 18446744073709551616) (hp : decide (a &&& b = a) = p) :
    Calls Tryd.prog 20 #[.int .u64 a, .int .u64 b] w fun e w' => e = .returned (.bool p) ∧ w' = w := by
  rw [← hp]; exact below_any a b w ha hb
theorem has_is (w : World) (m : Nat) (i : Int) (p : Bool) (hm : m < 18446744073709551616) (hp : (decide (0 ≤ i ∧ i < 64) && m.testBit i.toNat) = p) :
    Calls Tryd.prog 19 #[.int .u64 m, .int .i64 i] w fun e w' => e = .returned (.bool p) ∧ w' = w := by
  rw [← hp]; exact has_any m i w hm
theorem count_is (w : World) (a : Nat) (n : Int) (ha : a < 18446744073709551616) (hn : ((cnt a : Nat) : Int) = n) :
    Calls Tryd.prog 18 #[.int .u64 a] w fun e w' => e = .returned (.int .i64 n) ∧ w' = w := by
  rw [← hn]; exact count_any a w ha
theorem only_is (w : World) (a : Nat) (n : Int) (ha : a < 18446744073709551616) (h0 : a ≠ 0) (h1 : wl a = 0) (hT : Tab w) (hn : ((Lib.ctz 64 a : Nat) : Int) = n) :
    Calls Tryd.prog 9 #[.int .u64 a] w fun e w' => e = .returned (.tuple #[.int .i64 n, .bool true]) ∧ w' = w := by
  rw [← hn]; exact only_yes a w ha h0 h1 hT
end Go.Proofs.YtmhldbanjlccmaaDoor
