/- Slices read as lists of integers; lists that the call itself lays. -/
import Derived.Test.YtimeglhoiibhdaaLen
import Derived.Deep.QuietTactic
import Derived.BigQuiet
import Derived.OpenShut
import Derived.Laws.AppendOwnNone
namespace Go.Proofs.Ytimeglhoiibhdaa
open Go.RowKit M

def toI (l : List Nat) : List Int := l.map fun (n : Nat) => (n : Int)
theorem toI_len (l : List Nat) : (toI l).length = l.length := by simp [toI]
theorem toI_getD (l : List Nat) (j : Nat) : (toI l).getD j 0 = ((l.getD j 0 : Nat) : Int) := by
  simp only [toI, List.getD_eq_getElem?_getD, List.getElem?_map]
  cases l[j]? <;> simp
theorem toI_append (a b : List Nat) : toI (a ++ b) = toI a ++ toI b := by simp [toI]
theorem toI_take (a : List Nat) (k : Nat) : toI (a.take k) = (toI a).take k := by simp [toI]
theorem toI_drop (a : List Nat) (k : Nat) : toI (a.drop k) = (toI a).drop k := by simp [toI]
theorem toI_inj {a b : List Nat} (h : toI a = toI b) : a = b := by
  unfold toI at h
  exact (List.map_inj_right (fun x y e => Int.ofNat.inj e)).1 h
/-- The cells of a list of ints, of a list of bytes. -/
def iv (zs : List Int) : List Value := zs.map (Value.int .i64)
def bv (l : List Nat) : List Value := (toI l).map (Value.int .u8)
theorem iv_len (zs : List Int) : (iv zs).length = zs.length := by simp [iv]
theorem bv_len (l : List Nat) : (bv l).length = l.length := by simp [bv, toI]
theorem iv_append (a b : List Int) : iv (a ++ b) = iv a ++ iv b := by simp [iv]
theorem bv_append (a b : List Nat) : bv (a ++ b) = bv a ++ bv b := by simp [bv, toI]
theorem iv_one (zs : List Int) : ∀ u ∈ iv zs, u.oneCell' = true := ints_oneCell _ _
theorem bv_one (l : List Nat) : ∀ u ∈ bv l, u.oneCell' = true := ints_oneCell _ _
theorem iv_single (x : Int) : iv [x] = [.int .i64 x] := rfl
theorem bv_single (x : Nat) : bv [x] = [.int .u8 (x : Int)] := rfl

/-- A slice value whose elements are these integers. -/
def Rd (k : IntKind) (w : World) (v : Value) (zs : List Int) : Prop :=
  zs.length ≤ 9223372036854775807 ∧ ∃ ao cap, v = .slice ao zs.length cap ∧ zs.length ≤ cap ∧ cap ≤ 9223372036854775807 ∧ (zs.length ≠ 0 → ∃ b off, ao = some ⟨b, off, none⟩ ∧ ∀ j, j < zs.length → w.cell? ⟨b, off + j, none⟩ = some (.int k (zs.getD j 0)))
theorem rd_nil (k : IntKind) (w : World) : Rd k w (.slice none 0 0) [] := ⟨by simp, none, 0, rfl, by simp, by simp, fun h => absurd rfl h⟩
/-- A row of the call's own, read as a slice of integers. -/
theorem rd_own {w : World} {base : Nat} {v : Value} {zs : List Int} {k : IntKind} {e : TypeId} (h : w.ownsRow base e 1 v zs.length (zs.map (Value.int k))) : Rd k w v zs := by
  obtain ⟨_, h | ⟨g, cap, cur, rfl, hb, hh, hn, hm, hs, ht⟩⟩ := h
  · obtain ⟨rfl, h0⟩ := h
    have : zs = [] := List.eq_nil_of_length_eq_zero h0
    subst this
    exact rd_nil _ _
  · refine ⟨by unfold maxLen at hm; omega, some ⟨g, 0, none⟩, cap, rfl, hn, by unfold maxLen at hm; omega, fun _ => ⟨g, 0, rfl, fun j hj => ?_⟩⟩
    have h2 : w.ownsRow base e 1 (.slice (some ⟨g, 0, none⟩) zs.length cap) zs.length (zs.map (Value.int k)) := ⟨by simp, .inr ⟨g, cap, cur, rfl, hb, hh, hn, hm, hs, ht⟩⟩
    have := h2.cellAt j (by omega)
    rw [Nat.zero_add, this]
    simp [List.getD_eq_getElem?_getD, hj]
theorem rd_iv {w : World} {base : Nat} {v : Value} {zs : List Int} {e : TypeId} (h : w.ownsRow base e 1 v zs.length (iv zs)) : Rd .i64 w v zs := rd_own h
theorem rd_bv {w : World} {base : Nat} {v : Value} {l : List Nat} {e : TypeId} (h : w.ownsRow base e 1 v l.length (bv l)) : Rd .u8 w v (toI l) :=
  rd_own (zs := toI l) (by rw [toI_len]; exact h)
/-- What is read is read the same where nothing that was there has been written. -/
theorem Rd.below {k : IntKind} {w w' : World} {v : Value} {zs : List Int} {B : Nat} (h : Rd k w v zs) (hb : Below B w w') (hB : w.heap.size ≤ B) : Rd k w' v zs := by
  obtain ⟨h1, ao, cap, rfl, h2, h3, hc⟩ := h
  refine ⟨h1, ao, cap, rfl, h2, h3, fun hn => ?_⟩
  obtain ⟨b, off, rfl, hcell⟩ := hc hn
  refine ⟨b, off, rfl, fun j hj => ?_⟩
  have hlt : b < w.heap.size := World.block_lt_of_cell? w _ (hcell j hj)
  rw [hb.cell (p := ⟨b, off + j, none⟩) (Nat.lt_of_lt_of_le hlt hB)]
  exact hcell j hj
theorem own_below {w w' : World} {base : Nat} {e : TypeId} {size : Nat} {v : Value} {n : Nat} {xs : List Value} (h : w.ownsRow base e size v n xs) (hb : Below w.heap.size w w') : w'.ownsRow base e size v n xs := by
  obtain ⟨h1, h | ⟨g, cap, cur, rfl, h2, hh, r⟩⟩ := h
  · exact ⟨h1, .inl h⟩
  · have hg : g < w.heap.size := (Array.getElem?_eq_some_iff.1 hh).1
    exact ⟨h1, .inr ⟨g, cap, cur, rfl, h2, (hb.block g hg).trans hh, r⟩⟩
theorem rd_lit {k : IntKind} {e : TypeId} (w : World) (zs : List Int) (hl : zs.length ≤ 1000) : Rd k (w.alloc (.cells (zs.map (Value.int k)).toArray e)) (.slice (some ⟨w.heap.size, 0, none⟩) zs.length zs.length) zs := by
  have h := World.ownsRow_lit (base := w.heap.size) (e := e) (size := 1) w (zs.map (Value.int k)).toArray zs.length (Nat.le_refl _) (by unfold maxLen; omega) (by simp)
  exact rd_own (by simpa using h)
theorem below_alloc (w : World) (o : Obj) : Below w.heap.size w (w.alloc o) := (Below.refl _ _).alloc (Nat.le_refl _) o
theorem below_drewN {B : Nat} {a w : World} (h : Below B a w) : ∀ n, Below B a (w.drewN n)
  | 0 => h
  | n + 1 => (below_drewN h n).drew

theorem Try.info3 : (Try.prog.info? 3).map (fun i => (i.zero, i.size, i.bytes)) = some (some (.int .i64 0), 1, 8) := by kernel_rfl
theorem Try.info5 : (Try.prog.info? 5).map (fun i => (i.zero, i.size, i.bytes)) = some (some (.int .u8 0), 1, 1) := by kernel_rfl
theorem take_snoc' {α : Type} (l : List α) (d : α) (k : Nat) (h : k < l.length) : l.take (k + 1) = l.take k ++ [l.getD k d] := by
  rw [List.take_succ_eq_append_getElem h]
  simp [List.getD_eq_getElem?_getD, h]
theorem put_len_le : ∀ l : List Int, (∀ n ∈ l, Fits n) → (put l).length ≤ 10 * l.length
  | [], _ => by simp [put]
  | n :: l, h => by
    have h1 := put_len_le l fun x hx => h x (List.mem_cons_of_mem _ hx)
    have h2 := leb_ten (zz n) (zz_lt n (h n (List.mem_cons_self ..)))
    rw [put_cons, List.length_append, List.length_cons]
    omega
theorem fits_take {l : List Int} (h : ∀ n ∈ l, Fits n) (k : Nat) : ∀ n ∈ l.take k, Fits n := fun n hn => h n (List.mem_of_mem_take hn)
theorem fits_drop {l : List Int} (h : ∀ n ∈ l, Fits n) (k : Nat) : ∀ n ∈ l.drop k, Fits n := fun n hn => h n (List.mem_of_mem_drop hn)
theorem fits_at {l : List Int} (h : ∀ n ∈ l, Fits n) (k : Nat) (hk : k < l.length) : Fits (l.getD k 0) := by
  have : l.getD k 0 = l[k] := by simp [List.getD_eq_getElem?_getD, hk]
  rw [this]; exact h _ (List.getElem_mem hk)
end Go.Proofs.Ytimeglhoiibhdaa
