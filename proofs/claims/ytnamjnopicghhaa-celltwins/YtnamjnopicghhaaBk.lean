/- A Cell's blocks as things; what its quota's and its queue's methods do to them. -/
import Derived.Test.YtnamjnopicghhaaKit
import Derived.Test.YtnamjnopicghhaaRTwin
namespace Go.Proofs.Ytnamjnopicghhaa
open Go.RowKit M
open O.MO (Oq Pq)
set_option linter.unusedVariables false
set_option linter.unusedSimpArgs false
attribute [local go_sem ↓] Go.wp_at_zero Go.wp_at_succ

def okl (m : Int) : List Int → Bool
  | [] => true
  | n :: r => decide (0 ≤ n ∧ n ≤ m) && okl (m - n) r
theorem okl_append (m : Int) (a b : List Int) : okl m (a ++ b) = (okl m a && okl (m - a.sum) b) := by
  induction a generalizing m with
  | nil => simp [okl]
  | cons x r ih =>
    show (decide (0 ≤ x ∧ x ≤ m) && okl (m - x) (r ++ b)) = _
    rw [ih, List.sum_cons, show m - (x + r.sum) = m - x - r.sum by omega, ← Bool.and_assoc]
    rfl
theorem okl_snoc (m : Int) (l : List Int) (n : Int) : okl m (l ++ [n]) = (okl m l && decide (0 ≤ n ∧ n ≤ m - l.sum)) := by
  rw [okl_append]; simp [okl]
theorem okl_bd (m : Int) (l : List Int) (h : okl m l = true) (hm : 0 ≤ m) : 0 ≤ l.sum ∧ l.sum ≤ m := by
  induction l generalizing m with
  | nil => simpa using hm
  | cons x r ih =>
    have h : (decide (0 ≤ x ∧ x ≤ m) && okl (m - x) r) = true := h
    simp only [Bool.and_eq_true, decide_eq_true_eq] at h
    have := ih (m - x) h.2 (by omega)
    rw [List.sum_cons]
    omega
theorem okl_no (m : Int) (l : List Int) (k : Nat) (h : okl m (l.take k) = false) : okl m l = false := by
  have e := okl_append m (l.take k) (l.drop k)
  rw [List.take_append_drop, h, Bool.false_and] at e
  exact e

/-- What together tells. -/
def Tog (m : Int) (zs : List Int) (x : Int) (p : Bool) : Prop := okl m zs = p ∧ (p = true ∧ x = zs.sum ∨ p = false ∧ x = 0)
set_option maxHeartbeats 1000000 in
set_option maxRecDepth 100000 in
theorem together_any (m : Int) (v : Value) (zs : List Int) (w : World) (x : Int) (p : Bool) (hr : Rd .i64 w v zs) (hm0 : 0 ≤ m) (hm1 : m ≤ 9223372036854775807) (hp : Tog m zs x p) :
    Calls Try.prog 54 #[.int .i64 m, v] w fun e w' => e = .returned (.tuple #[.int .i64 x, .bool p]) ∧ w' = w := by
  obtain ⟨hl, ao, cap, rfl, _, _, hcs⟩ := hr
  have hcell : Hid (∀ j, j < zs.length → ∃ bb off, ao = some ⟨bb, off, none⟩ ∧ w.cell? ⟨bb, off + j, none⟩ = some (.int .i64 (zs.getD j 0))) := by
    intro j hj
    obtain ⟨bb, off, rfl, hcc⟩ := hcs (by omega)
    exact ⟨bb, off, rfl, hcc j hj⟩
  have hp' : Hid (Tog m zs x p) := hp
  clear hcs hp
  obtain ⟨n, hn⟩ : ∃ n, Hid (zs.length = n) := ⟨_, rfl⟩
  rw [hn.out] at hl hcell ⊢
  go_enter Try.func54, Try.ntmps54
  go_wp2_with fail
  go_loopw [6, 11] (fun av iv wr => ∃ (j : Nat) (S : Int), j ≤ n ∧ av = .int .i64 S ∧ iv = .int .i64 j ∧ 0 ≤ S ∧ S ≤ m ∧ Hid ((zs.take j).sum = S) ∧ Hid (okl m (zs.take j) = true) ∧ wr = w) (fun _ i _ => n - (intOf i).toNat)
  case atStart => exact ⟨0, 0, Nat.zero_le _, rfl, rfl, Int.le_refl _, hm0, rfl, rfl, rfl⟩
  case round =>
    obtain ⟨j, S, hj, rfl, rfl, hS0, hS1, hS, hok, rfl⟩ := hrel
    by_cases hlt : j < n
    · obtain ⟨bb, off, rfl, g⟩ := hcell.out j hlt
      obtain ⟨y, hy⟩ : ∃ y, Hid (zs.getD j 0 = y) := ⟨_, rfl⟩
      rw [hy.out] at g
      have hnx : Hid (zs.take (j + 1) = zs.take j ++ [y]) := by
        have h : zs.take (j + 1) = zs.take j ++ [y] := by rw [take_snoc' zs 0 j (by have := hn.out; omega), hy.out]
        exact h
      have hno : Hid (¬ (0 ≤ y ∧ y ≤ m - S) → p = false ∧ x = 0) := by
        intro h
        have h1 : okl m (zs.take (j + 1)) = false := by rw [hnx.out, okl_snoc, hS.out, decide_eq_false h, Bool.and_false]
        have h2 := okl_no m zs (j + 1) h1
        obtain ⟨h3, h4⟩ := hp'.out
        rw [h2] at h3
        subst h3
        rcases h4 with h4 | h4
        · exact absurd h4.1 (by decide)
        · exact h4
      by_cases h0 : y < 0
      · obtain ⟨rfl, rfl⟩ := hno.out (by omega)
        clear hno hnx hcell hy hp'
        go_wp2_with fail
        exact bodyPost_ret (v := .tuple #[.int .i64 0, .bool false]) (by simp [results, Try.results54, go_sem]) rfl ⟨rfl, rfl⟩
      · by_cases h1 : y ≤ m - S
        · have hS2 : Hid ((zs.take (j + 1)).sum = S + y) := by
            have h : (zs.take (j + 1)).sum = S + y := by rw [hnx.out, List.sum_append, hS.out]; simp
            exact h
          have hok2 : Hid (okl m (zs.take (j + 1)) = true) := by
            have h : okl m (zs.take (j + 1)) = true := by rw [hnx.out, okl_snoc, hS.out, hok.out, decide_eq_true ⟨by omega, h1⟩]; rfl
            exact h
          clear hno hnx hy hp' hS hok
          go_wp2_with fail
          go_roundw
          case rel => exact ⟨j + 1, S + y, by omega, rfl, by go_num, by omega, by omega, hS2, hok2, trivial⟩
          case measure => simp [intOf]; omega
        · obtain ⟨rfl, rfl⟩ := hno.out (by omega)
          clear hno hnx hcell hy hp'
          go_wp2_with fail
          exact bodyPost_ret (v := .tuple #[.int .i64 0, .bool false]) (by simp [results, Try.results54, go_sem]) rfl ⟨rfl, rfl⟩
    · have hfin : p = true ∧ x = S := by
        obtain ⟨h3, h4⟩ := hp'.out
        have e1 := hok.out
        have e2 := hS.out
        rw [List.take_of_length_le (by have := hn.out; omega)] at e1 e2
        rw [e1] at h3
        subst h3
        rcases h4 with h4 | h4
        · exact ⟨rfl, by rw [h4.2, e2]⟩
        · exact absurd h4.1 (by decide)
      obtain ⟨rfl, rfl⟩ := hfin
      clear hp' hS hok hcell
      go_wp2_with fail
      exact bodyPost_ret (v := .tuple #[.int .i64 x, .bool true]) (by simp [results, Try.results54, go_sem]) rfl ⟨rfl, rfl⟩

/-- quota.Of. -/
theorem qof_is (m x : Int) (w : World) (hx : 0 ≤ m ∧ x = m ∨ m < 0 ∧ x = 0) : Calls Try.prog 32 #[.int .i64 m] w fun e w' => e = .returned (.agg #[.int .i64 x, .int .i64 0, .int .i64 0]) ∧ Below w.heap.size w w' := by
  rcases hx with ⟨h, rfl⟩ | ⟨h, rfl⟩
  · by_cases h0 : x = 0
    · subst h0
      go_enter Try.func32, Try.ntmps32
      go_wp2
      exact bodyPost_ret (v := .agg #[.int .i64 0, .int .i64 0, .int .i64 0]) (by simp [results, Try.results32, go_sem]) rfl ⟨rfl, (Below.refl _ _).alloc (Nat.le_refl _) _⟩
    · have h1 : ¬ x ≤ 0 := by omega
      go_enter Try.func32, Try.ntmps32
      go_wp2
      exact bodyPost_ret (v := .agg #[.int .i64 x, .int .i64 0, .int .i64 0]) (by simp [results, Try.results32, go_sem]) rfl ⟨rfl, (Below.refl _ _).alloc (Nat.le_refl _) _⟩
  · have h1 : m ≤ 0 := by omega
    go_enter Try.func32, Try.ntmps32
    go_wp2
    exact bodyPost_ret (v := .agg #[.int .i64 0, .int .i64 0, .int .i64 0]) (by simp [results, Try.results32, go_sem]) rfl ⟨rfl, (Below.refl _ _).alloc (Nat.le_refl _) _⟩
theorem qleft_is (l s f : Int) (w : World) : Calls Try.prog 14 #[.agg #[.int .i64 l, .int .i64 s, .int .i64 f]] w fun e w' => e = .returned (.int .i64 l) ∧ Below w.heap.size w w' := by
  go_enter Try.func14, Try.ntmps14
  go_wp2
  go_ret
  exact ⟨rfl, (Below.refl _ _).alloc (Nat.le_refl _) _⟩
theorem qspent_is (l s f : Int) (w : World) : Calls Try.prog 24 #[.agg #[.int .i64 l, .int .i64 s, .int .i64 f]] w fun e w' => e = .returned (.int .i64 s) ∧ Below w.heap.size w w' := by
  go_enter Try.func24, Try.ntmps24
  go_wp2
  go_ret
  exact ⟨rfl, (Below.refl _ _).alloc (Nat.le_refl _) _⟩
theorem qrefused_is (l s f : Int) (w : World) : Calls Try.prog 15 #[.agg #[.int .i64 l, .int .i64 s, .int .i64 f]] w fun e w' => e = .returned (.int .i64 f) ∧ Below w.heap.size w w' := by
  go_enter Try.func15, Try.ntmps15
  go_wp2
  go_ret
  exact ⟨rfl, (Below.refl _ _).alloc (Nat.le_refl _) _⟩
/-- A Cell's block: its quota (left, spent, refused), its queue's slice, its Run, its Id, its rows, what it has taken. -/
def ck (l s f : Int) (v : Value) (b : Nat) (i : Int) (vr vt : Value) : Array Value := #[.int .i64 l, .int .i64 s, .int .i64 f, v, .pointer (some ⟨b, 0, none⟩), .int .i64 i, vr, vt]
def Ckb (w : World) (c : Nat) (l s f : Int) (v : Value) (b : Nat) (i : Int) (vr vt : Value) : Prop := w.heap[c]? = some (.cells (ck l s f v b i vr vt) 49 (0, 0))
section
variable {w w' : World} {c : Nat} {l s f : Int} {v : Value} {b : Nat} {i : Int} {vr vt : Value}
theorem Ckb.c0 (h : Ckb w c l s f v b i vr vt) : w.cell? ⟨c, 0, none⟩ = some (.int .i64 l) := by unfold Ckb ck at h; simp [World.cell?, h]
theorem Ckb.c1 (h : Ckb w c l s f v b i vr vt) : w.cell? ⟨c, 1, none⟩ = some (.int .i64 s) := by unfold Ckb ck at h; simp [World.cell?, h]
theorem Ckb.c2 (h : Ckb w c l s f v b i vr vt) : w.cell? ⟨c, 2, none⟩ = some (.int .i64 f) := by unfold Ckb ck at h; simp [World.cell?, h]
theorem Ckb.c3 (h : Ckb w c l s f v b i vr vt) : w.cell? ⟨c, 3, none⟩ = some (v) := by unfold Ckb ck at h; simp [World.cell?, h]
theorem Ckb.c4 (h : Ckb w c l s f v b i vr vt) : w.cell? ⟨c, 4, none⟩ = some (.pointer (some ⟨b, 0, none⟩)) := by unfold Ckb ck at h; simp [World.cell?, h]
theorem Ckb.c5 (h : Ckb w c l s f v b i vr vt) : w.cell? ⟨c, 5, none⟩ = some (.int .i64 i) := by unfold Ckb ck at h; simp [World.cell?, h]
theorem Ckb.c6 (h : Ckb w c l s f v b i vr vt) : w.cell? ⟨c, 6, none⟩ = some (vr) := by unfold Ckb ck at h; simp [World.cell?, h]
theorem Ckb.c7 (h : Ckb w c l s f v b i vr vt) : w.cell? ⟨c, 7, none⟩ = some (vt) := by unfold Ckb ck at h; simp [World.cell?, h]
theorem Ckb.free (h : Ckb w c l s f v b i vr vt) (j : Nat) : w.frozen? ⟨c, j, none⟩ = false := by unfold Ckb at h; simp [World.frozen?, h]
theorem Ckb.lt (h : Ckb w c l s f v b i vr vt) : c < w.heap.size := (Array.getElem?_eq_some_iff.1 h).1
theorem Ckb.call (h : Ckb w c l s f v b i vr vt) (hb : Below w.heap.size w w') : Ckb w' c l s f v b i vr vt := (hb.block c h.lt).trans h
theorem Ckb.set0 (h : Ckb w c l s f v b i vr vt) (x : Int) : Ckb (w.setCell ⟨c, 0, none⟩ (.int .i64 x)) c x s f v b i vr vt := by
  unfold Ckb ck at *; simp [World.setCell, Array.getElem?_modify, h]
theorem Ckb.set1 (h : Ckb w c l s f v b i vr vt) (x : Int) : Ckb (w.setCell ⟨c, 1, none⟩ (.int .i64 x)) c l x f v b i vr vt := by
  unfold Ckb ck at *; simp [World.setCell, Array.getElem?_modify, h]
theorem Ckb.set2 (h : Ckb w c l s f v b i vr vt) (x : Int) : Ckb (w.setCell ⟨c, 2, none⟩ (.int .i64 x)) c l s x v b i vr vt := by
  unfold Ckb ck at *; simp [World.setCell, Array.getElem?_modify, h]
theorem Ckb.set3 (h : Ckb w c l s f v b i vr vt) (x : Value) : Ckb (w.setCell ⟨c, 3, none⟩ x) c l s f x b i vr vt := by
  unfold Ckb ck at *; simp [World.setCell, Array.getElem?_modify, h]
theorem Ckb.set6 (h : Ckb w c l s f v b i vr vt) (x : Value) : Ckb (w.setCell ⟨c, 6, none⟩ x) c l s f v b i x vt := by
  unfold Ckb ck at *; simp [World.setCell, Array.getElem?_modify, h]
theorem Ckb.set7 (h : Ckb w c l s f v b i vr vt) (x : Value) : Ckb (w.setCell ⟨c, 7, none⟩ x) c l s f v b i vr x := by
  unfold Ckb ck at *; simp [World.setCell, Array.getElem?_modify, h]
theorem ckb_new (w : World) (l s f : Int) (v : Value) (b : Nat) (i : Int) (vr vt : Value) : Ckb (w.alloc (.cells #[.int .i64 l, .int .i64 s, .int .i64 f, v, .pointer (some ⟨b, 0, none⟩), .int .i64 i, vr, vt] 49)) w.heap.size l s f v b i vr vt := by
  show (w.heap.push _)[w.heap.size]? = _
  simp [ck]
end
def cb (c : Nat) (l s f : Int) (v : Value) (b : Nat) (i : Int) (vr vt : Value) : Th := blkT c (.cells (ck l s f v b i vr vt) 49)
/-- A list of inputs of the call's own. -/
def inl (v : Value) (is : List Inp) : Th where
  P w F := Qv w v is ∧ Labl is ∧ ∀ k, F k ↔ v.ownBlock = some k
  lt h k hk := h.1.lt k ((h.2.2 k).1 hk)
  keep h hz hk := ⟨h.1.keep (fun k x => hk k ((h.2.2 k).2 x)), h.2.1, h.2.2⟩
theorem own_hold {w w' : World} {B : Nat} {e : TypeId} {size : Nat} {v : Value} {n : Nat} {xs : List Value} (h : w.ownsRow B e size v n xs) (hb : ∀ k, v.ownBlock = some k → w'.heap[k]? = w.heap[k]?) : w'.ownsRow B e size v n xs := by
  obtain ⟨h1, h | ⟨g, cap, cur, rfl, h2, hh, r⟩⟩ := h
  · exact ⟨h1, .inl h⟩
  · exact ⟨h1, .inr ⟨g, cap, cur, rfl, h2, (hb g rfl).trans hh, r⟩⟩
theorem own_mono {w : World} {B B' : Nat} {e : TypeId} {size : Nat} {v : Value} {n : Nat} {xs : List Value} (h : w.ownsRow B e size v n xs) (hB : B' ≤ B) : w.ownsRow B' e size v n xs := by
  obtain ⟨h1, h | ⟨g, cap, cur, rfl, h2, r⟩⟩ := h
  · exact ⟨h1, .inl h⟩
  · exact ⟨h1, .inr ⟨g, cap, cur, rfl, Nat.le_trans hB h2, r⟩⟩
/-- A list of rows of the call's own. -/
def rwl (v : Value) (R : List Pn) : Th where
  P w F := w.ownsRow 0 39 5 v R.length (rcs R) ∧ ∀ k, F k ↔ v.ownBlock = some k
  lt h k hk := (h.1.lt k ((h.2 k).1 hk)).2
  keep h hz hk := ⟨own_hold h.1 (fun k x => hk k ((h.2 k).2 x)), h.2⟩
theorem Rnr.hold {w w' : World} {b q o g : Nat} {p : Pq} {r : Rs} (h : Rnr w b q o g p r) (hz : w.heap.size ≤ w'.heap.size) (hk : ∀ k, k = b ∨ k = q ∨ k = o ∨ k = g → w'.heap[k]? = w.heap[k]?) : Rnr w' b q o g p r := by
  obtain ⟨u, h1, h2, h3, h4, h5, h6, h7, h8, h9, h10, h11⟩ := h
  refine ⟨u, h1.keep (hk b (.inl rfl)), ?_, h3.keep (fun k hk2 hl => hk k (.inr (.inr (.inr (h4 k hk2))))), h4, h5, h6, h7, h8, h9, by omega, h11.keep (hk o (by simp))⟩
  obtain ⟨v, hh, hs, hkk, ho⟩ := h2
  refine ⟨v, (hk q (by simp)).trans hh, ?_, hkk, by omega⟩
  rcases hs with hs | ⟨cap, rfl, hp⟩
  · exact .inl hs
  · exact .inr ⟨cap, rfl, hp.keep (hk o (by simp))⟩
/-- A runner. -/
def rnt (b : Nat) (p : Pq) (r : Rs) : Th where
  P w F := ∃ q o g, Rnr w b q o g p r ∧ ∀ k, F k ↔ k = b ∨ k = q ∨ k = o ∨ k = g
  lt h k hk := by
    obtain ⟨q, o, g, h1, h2⟩ := h
    obtain ⟨l1, l2, l3, l4⟩ := h1.lt
    rcases (h2 k).1 hk with rfl | rfl | rfl | rfl <;> assumption
  keep h hz hk := by
    obtain ⟨q, o, g, h1, h2⟩ := h
    exact ⟨q, o, g, h1.hold hz (fun k x => hk k ((h2 k).2 x)), h2⟩
section
variable {W0 w w' w1 : World} {us : List Th} {c : Nat} {l s f : Int} {v : Value} {b : Nat} {i : Int} {vr vt : Value} {L L' L1 : List Inp}
theorem St.ck (h : St W0 w (cb c l s f v b i vr vt :: us)) : Ckb w c l s f v b i vr vt := h.blk
/-- A store into a block. -/
theorem St.setB {o o' : Obj} (h : St W0 w (blkT c o :: us)) (j : Nat) (u : Value) (hn : (w.setCell ⟨c, j, none⟩ u).heap[c]? = some o') : St W0 (w.setCell ⟨c, j, none⟩ u) (blkT c o' :: us) := by
  obtain ⟨F, h1, _, h2⟩ := h.act
  exact h2 _ (blkT c o') F ⟨hn, h1.2⟩ (fun k hk => .inl hk) ⟨rfl, rfl, rfl, by simp [World.setCell], fun g hl hg => Below.heap_setCell _ _ _ _ (fun e => hg ((h1.2 g).2 e))⟩
theorem St.setC {l' s' f' : Int} {v' : Value} {b' : Nat} {i' : Int} {vr' vt' : Value} (h : St W0 w (cb c l s f v b i vr vt :: us)) (j : Nat) (u : Value) (hn : Ckb (w.setCell ⟨c, j, none⟩ u) c l' s' f' v' b' i' vr' vt') : St W0 (w.setCell ⟨c, j, none⟩ u) (cb c l' s' f' v' b' i' vr' vt' :: us) := St.setB h j u hn
theorem St.qv (h : St W0 w (inl v L :: us)) : Qv w v L ∧ Labl L := by
  obtain ⟨F, h1, _⟩ := h.get
  exact ⟨h1.1, h1.2.1⟩
/-- A list grows. -/
theorem St.grow {v1 : Value} (h : St W0 w (inl v L :: us)) (hq : Qv w1 v1 L1) (hl : Labl L1) (hg : w.grownBy w1 v.ownBlock) (hf : ∀ k, v1.ownBlock = some k → v.ownBlock = some k ∨ w.heap.size ≤ k) : St W0 w1 (inl v1 L1 :: us) := by
  obtain ⟨F, h1, _, h2⟩ := h.act
  refine h2 w1 (inl v1 L1) (fun k => v1.ownBlock = some k) ⟨hq, hl, fun k => Iff.rfl⟩ (fun k hk => ?_) ((Chf.grown hg).mono (fun k hk => (h1.2.2 k).2 hk))
  rcases hf k hk with h | h
  · exact .inl ((h1.2.2 k).2 h)
  · exact .inr h
/-- The same list told otherwise: another part of it. -/
theorem St.part {v1 : Value} (h : St W0 w (inl v L :: us)) (hq : Qv w v1 L1) (hl : Labl L1) (hf : ∀ k, v1.ownBlock = some k → v.ownBlock = some k) : St W0 w (inl v1 L1 :: us) :=
  h.grow hq hl ⟨rfl, rfl, rfl, Nat.le_refl _, fun _ _ _ => rfl⟩ (fun k hk => .inl (hf k hk))
/-- A list more, in new memory. -/
theorem St.newl (h : St W0 w us) (hb : Below w.heap.size w w') (hq : Qv w' v L) (hl : Labl L) (hf : ∀ k, v.ownBlock = some k → w.heap.size ≤ k) : St W0 w' (inl v L :: us) :=
  h.new (F := fun k => v.ownBlock = some k) hb ⟨hq, hl, fun k => Iff.rfl⟩ hf
theorem St.newr {R : List Pn} {B : Nat} (h : St W0 w us) (hb : Below w.heap.size w w') (hq : w'.ownsRow B 39 5 v R.length (rcs R)) (hB : w.heap.size ≤ B) : St W0 w' (rwl v R :: us) :=
  h.new (F := fun k => v.ownBlock = some k) hb ⟨own_mono hq (Nat.zero_le _), fun k => Iff.rfl⟩ (fun k hk => Nat.le_trans hB (hq.lt k hk).1)
end
/-- Quota.Refuse, of a Cell. -/
theorem refuse_is {W0 : World} {us : List Th} {c : Nat} {l s f : Int} {v : Value} {b : Nat} {i : Int} {vr vt : Value} (w : World) (hS : St W0 w (cb c l s f v b i vr vt :: us)) (hf : 0 ≤ f ∧ f ≤ 1000000) :
    Calls Try.prog 53 #[.pointer (some ⟨c, 0, none⟩)] w fun e w' => e = .returned (.tuple #[]) ∧ St W0 w' (cb c l s (f + 1) v b i vr vt :: us) := by
  have hk := hS.ck
  have c2 := hk.c2
  have f2 := hk.free 2
  obtain ⟨hf1, hf2⟩ := hf
  have hS' : Hid (St W0 (w.setCell ⟨c, 2, none⟩ (.int .i64 (f + 1))) (cb c l s (f + 1) v b i vr vt :: us)) := hS.setC _ _ (hk.set2 _)
  clear hS hk
  go_enter Try.func53, Try.ntmps53
  go_wp2
  go_end0
  exact ⟨rfl, hS'.out⟩
/-- Quota.Spend of one, of a Cell that has one left. -/
theorem spend_is {W0 : World} {us : List Th} {c : Nat} {l s f : Int} {v : Value} {b : Nat} {i : Int} {vr vt : Value} (u : Value) (w : World) (hS : St W0 w (cb c l s f v b i vr vt :: us)) (hu : Rd .i64 w u [1]) (hl : 1 ≤ l ∧ l ≤ 1000000) (hs : 0 ≤ s ∧ s ≤ 1000000) :
    Calls Try.prog 36 #[.pointer (some ⟨c, 0, none⟩), u] w fun e w' => e = .returned (.bool true) ∧ St W0 w' (cb c (l - 1) (s + 1) f v b i vr vt :: us) := by
  have hk := hS.ck
  have c0 := hk.c0
  have c1 := hk.c1
  have f0 := hk.free 0
  have f1 := hk.free 1
  obtain ⟨hl1, hl2⟩ := hl
  obtain ⟨hs1, hs2⟩ := hs
  have k0 := hk.set0 (l - 1)
  have d1 := k0.c1
  have e1 := k0.free 1
  have hS' : Hid (St W0 ((w.setCell ⟨c, 0, none⟩ (.int .i64 (l - 1))).setCell ⟨c, 1, none⟩ (.int .i64 (s + 1))) (cb c (l - 1) (s + 1) f v b i vr vt :: us)) := (hS.setC _ _ k0).setC _ _ (k0.set1 _)
  clear hS hk k0
  go_enter Try.func36, Try.ntmps36
  go_wp2_with fail
  refine (together_any l u [1] _ 1 true hu (by omega) (by omega) ⟨by simp [okl]; omega, .inl ⟨rfl, by simp⟩⟩).mono ?_
  rintro e w1 ⟨rfl, he⟩; obtain rfl := he.symm; clear he
  go_wp2_with fail
  go_ret
  exact ⟨rfl, hS'.out⟩
/-- A Queue's block. -/
def Qb (w : World) (b : Nat) (v : Value) : Prop := w.heap[b]? = some (.cells #[v] 46 (0, 0))
theorem Qb.c {w : World} {b : Nat} {v : Value} (h : Qb w b v) : w.cell? ⟨b, 0, none⟩ = some v := by unfold Qb at h; simp [World.cell?, h]
theorem Qb.free {w : World} {b : Nat} {v : Value} (h : Qb w b v) (i : Nat) : w.frozen? ⟨b, i, none⟩ = false := by unfold Qb at h; simp [World.frozen?, h]
theorem Qb.lt {w : World} {b : Nat} {v : Value} (h : Qb w b v) : b < w.heap.size := (Array.getElem?_eq_some_iff.1 h).1
theorem Qb.set {w : World} {b : Nat} {v : Value} (h : Qb w b v) (u : Value) : Qb (w.setCell ⟨b, 0, none⟩ u) b u := by
  unfold Qb at h ⊢
  simp [World.setCell, Array.getElem?_modify, h]
theorem qb_new (w : World) (v : Value) : Qb (w.alloc (.cells #[v] 46)) w.heap.size v := by
  show (w.heap.push _)[w.heap.size]? = _
  simp
theorem Qv.typ {w : World} {v : Value} {is : List Inp} (h : Qv w v is) : ∀ k, v.ownBlock = some k → ∃ cur, w.heap[k]? = some (.cells cur 31 (0, 0)) := by
  intro k hk
  rcases h with ⟨rfl, _⟩ | ⟨g, off, cap, cur, rfl, hh, _⟩
  · cases hk
  · simp only [Value.ownBlock, Option.some.injEq] at hk
    subst hk
    exact ⟨cur, hh⟩
theorem Qb.ne {w : World} {b k : Nat} {v u : Value} {is : List Inp} (h : Qb w b v) (hq : Qv w u is) (hk : u.ownBlock = some k) : k ≠ b := by
  rintro rfl
  obtain ⟨cur, hc⟩ := hq.typ _ hk
  unfold Qb at h
  rw [hc] at h
  simp at h
abbrev Qt := Nat × Value × List Inp
abbrev Lt := Value × List Inp
theorem qcopy_is (u : Value) (qb : Nat) (is : List Inp) (w : World) (hu : RdI w u qb is) (hl : is.length ≤ 1000000) :
    Calls Try.prog 47 #[u] w fun e w' => ∃ v, e = .returned v ∧ Qv w' v is ∧ Below w.heap.size w w' ∧ ∀ k, v.ownBlock = some k → w.heap.size ≤ k := by
  go_enter Try.func47, Try.ntmps47
  go_wp2_with (refine wpList_append_q (by rfl) _ _ rfl (.slice none 0 0) [] rfl (qv_nil _) u qb is rfl hu (by simpa using hl) ?_; rintro v1 w1 hq1 hg1 hf1)
  go_ret
  refine ⟨_, rfl, hq1, (Below.refl _ _).grown hg1 (Nat.le_refl _) (fun k hk => by cases hk), fun k hk => ?_⟩
  rcases hf1 k hk with h | h
  · cases h
  · exact h
theorem ccopy_is (u : Value) (qb : Nat) (is : List Inp) (w : World) (hu : RdI w u qb is) (hl : is.length ≤ 1000000) :
    Calls Try.prog 46 #[u] w fun e w' => ∃ v, e = .returned v ∧ Qv w' v is ∧ Below w.heap.size w w' ∧ ∀ k, v.ownBlock = some k → w.heap.size ≤ k := by
  go_enter Try.func46, Try.ntmps46
  go_wp2_with (refine wpList_append_q (by rfl) _ _ rfl (.slice none 0 0) [] rfl (qv_nil _) u qb is rfl hu (by simpa using hl) ?_; rintro v1 w1 hq1 hg1 hf1)
  go_ret
  refine ⟨_, rfl, hq1, (Below.refl _ _).grown hg1 (Nat.le_refl _) (fun k hk => by cases hk), fun k hk => ?_⟩
  rcases hf1 k hk with h | h
  · cases h
  · exact h
theorem qwaiting_is (v : Value) (is : List Inp) (w : World) (hq : Qv w v is) :
    Calls Try.prog 21 #[.agg #[v]] w fun e w' => e = .returned (.int .i64 (is.length : Nat)) ∧ Below w.heap.size w w' := by
  obtain ⟨ao, cap, rfl, h1, h2, h3⟩ := hq.len
  generalize is.length = n at *
  go_enter Try.func21, Try.ntmps21
  go_wp2
  go_ret
  exact ⟨rfl, below_alloc _ _⟩
theorem qall_is (v : Value) (is : List Inp) (w : World) (hq : Qv w v is) (hlab : Labl is) (hl : is.length ≤ 1000000) :
    Calls Try.prog 23 #[.agg #[v]] w fun e w' => ∃ u, e = .returned u ∧ Qv w' u is ∧ Below w.heap.size w w' ∧ ∀ k, u.ownBlock = some k → w.heap.size ≤ k := by
  have hb := below_alloc w (.cells #[v] 46)
  obtain ⟨qb, hr, _, _⟩ := (hq.below hb).rdi hlab 0
  have hz : w.heap.size ≤ (w.alloc (.cells #[v] 46)).heap.size := by simp
  have c0 := (qb_new w v).c
  go_enter Try.func23, Try.ntmps23
  go_upto_region 1 with fail
  generalize w.alloc (.cells #[v] 46) = w1 at *
  go_wp2_with fail
  refine (qcopy_is v qb is _ hr hl).mono ?_
  rintro e w2 ⟨u, rfl, hu, b2, hf⟩
  go_wp2
  go_ret
  exact ⟨_, rfl, hu, below_call hb b2, fun k hk => Nat.le_trans hz (hf k hk)⟩
theorem qsplit_is (v : Value) (is : List Inp) (w : World) (hq : Qv w v is) (hlab : Labl is) (hl : is.length ≤ 1000000) :
    Calls Try.prog 44 #[.agg #[v]] w fun e w' => ∃ u, e = .returned (.agg #[u]) ∧ Qv w' u is ∧ Below w.heap.size w w' ∧ ∀ k, u.ownBlock = some k → w.heap.size ≤ k := by
  have hb : Below w.heap.size w ((w.alloc (.cells #[v] 46)).alloc (.cells #[.slice none 0 0] 46)) := (below_alloc w _).trans ((below_alloc _ _).mono (by simp))
  have hb1 := below_alloc w (.cells #[v] 46)
  obtain ⟨qb, hr, _, _⟩ := (hq.below hb).rdi hlab 0
  have hz : w.heap.size + 1 < ((w.alloc (.cells #[v] 46)).alloc (.cells #[.slice none 0 0] 46)).heap.size := by simp
  have k0 : Hid (Qb ((w.alloc (.cells #[v] 46)).alloc (.cells #[.slice none 0 0] 46)) (w.heap.size + 1) (.slice none 0 0)) := by
    have h1 := qb_new (w.alloc (.cells #[v] 46)) (.slice none 0 0)
    have h2 : Qb ((w.alloc (.cells #[v] 46)).alloc (.cells #[.slice none 0 0] 46)) (w.heap.size + 1) (.slice none 0 0) := by simpa using h1
    exact h2
  have c0 : ((w.alloc (.cells #[v] 46)).alloc (.cells #[.slice none 0 0] 46)).cell? ⟨w.heap.size, 0, none⟩ = some v := by
    have h1 := (below_alloc (w.alloc (.cells #[v] 46)) (.cells #[.slice none 0 0] 46)).cell (p := ⟨w.heap.size, 0, none⟩) (by simp)
    rw [h1]
    exact (qb_new w v).c
  clear hb1
  go_enter Try.func44, Try.ntmps44
  go_upto_region 1 with fail
  generalize (w.alloc (.cells #[v] 46)).alloc (.cells #[.slice none 0 0] 46) = w1 at *
  go_wp2_with fail
  refine (qcopy_is v qb is _ hr hl).mono ?_
  rintro e w2 ⟨u, rfl, hu, b2, hf⟩
  have k2 : Qb w2 (w.heap.size + 1) (.slice none 0 0) := (b2.block _ k0.out.lt).trans k0.out
  have f2 := k2.free 0
  have c2 := k2.c
  have hs : Hid (Qb (w2.setCell ⟨w.heap.size + 1, 0, none⟩ u) (w.heap.size + 1) u) := k2.set u
  have hu' : Hid (Qv (w2.setCell ⟨w.heap.size + 1, 0, none⟩ u) u is) := hu.keep fun k hk => Below.heap_setCell _ _ _ _ (k2.ne hu hk)
  have hB : Hid (Below w.heap.size w (w2.setCell ⟨w.heap.size + 1, 0, none⟩ u)) := (below_call hb b2).setCell (Nat.le_succ _) u
  obtain ⟨ao, cap, rfl, _, _, _⟩ := hu.len
  clear k0 k2 hu b2 hb hq
  go_wp2
  have c3 := hs.out.c
  refine bodyPost_ret (v := .agg #[.slice ao is.length cap]) (by simp [results, Try.results44, go_sem, c3]) rfl ⟨_, rfl, hu'.out, hB.out, fun k hk => ?_⟩
  have := hf k hk
  omega
theorem push_mid {W0 w w1 : World} {us : List Th} {c : Nat} {l s f : Int} {v v1 : Value} {b : Nat} {i : Int} {vr vt : Value} {L L1 : List Inp} (h : St W0 w (cb c l s f v b i vr vt :: inl v L :: us)) (hq1 : Qv w1 v1 L1) (hl1 : Labl L1) (hg1 : w.grownBy w1 v.ownBlock) (hf1 : ∀ k, v1.ownBlock = some k → v.ownBlock = some k ∨ w.heap.size ≤ k) :
    ∃ a1 n1 x1, v1 = .slice a1 n1 x1 ∧ w1.cell? ⟨c, 3, none⟩ = some v ∧ w1.frozen? ⟨c, 3, none⟩ = false ∧ Hid (St W0 (w1.setCell ⟨c, 3, none⟩ v1) (cb c l s f v1 b i vr vt :: inl v1 L1 :: us)) := by
  have h1 : St W0 w1 (inl v1 L1 :: cb c l s f v b i vr vt :: us) := h.sw.grow hq1 hl1 hg1 hf1
  have h2 := h1.sw
  obtain ⟨a1, x1, e, _⟩ := hq1.len
  exact ⟨a1, _, x1, e, h2.ck.c3, h2.ck.free 3, h2.setC _ _ (h2.ck.set3 _)⟩
set_option maxHeartbeats 1000000 in
/-- Queue.Push, of a Cell: where there is room, and where there is none. -/
theorem push_is {W0 : World} {us : List Th} {c : Nat} {l s f : Int} {v : Value} {b : Nat} {i : Int} {vr vt : Value} {L : List Inp} (room : Int) (u : Value) (qb : Nat) (js : List Inp) (w : World) (hS : St W0 w (cb c l s f v b i vr vt :: inl v L :: us)) (hu : RdI w u qb js) (hl : L.length + js.length ≤ 1000000) (L' : List Inp) (ok : Bool)
    (hL : (room < ((L.length + js.length : Nat) : Int) ∧ ok = false ∧ L' = L) ∨ (((L.length + js.length : Nat) : Int) ≤ room ∧ ok = true ∧ L' = L ++ js)) :
    Calls Try.prog 35 #[.pointer (some ⟨c, 3, none⟩), .int .i64 room, u] w fun e w' => e = .returned (.bool ok) ∧ ∃ v', St W0 w' (cb c l s f v' b i vr vt :: inl v' L' :: us) := by
  have hS' : Hid (St W0 w (cb c l s f v b i vr vt :: inl v L :: us)) := hS
  have hu' : Hid (RdI w u qb js) := hu
  have c0 := hS.ck.c3
  obtain ⟨k2, hlab⟩ := hS.sw.qv
  obtain ⟨ao, cap, rfl, h1, h2, h3⟩ := k2.len
  obtain ⟨hm, hlab2, ao2, cap2, rfl, h4, h5, _⟩ := hu
  have hlab3 : Hid (Labl (L ++ js)) := hlab.app hlab2
  clear hS k2 h3 hlab hlab2
  obtain ⟨n, hn⟩ : ∃ n, Hid (L.length = n) := ⟨_, rfl⟩
  obtain ⟨m, hmm⟩ : ∃ m, Hid (js.length = m) := ⟨_, rfl⟩
  have hl' : n + m ≤ 1000000 := by rw [hn.out, hmm.out] at hl; exact hl
  have hLh : Hid ((room < ((n + m : Nat) : Int) ∧ ok = false ∧ L' = L) ∨ (((n + m : Nat) : Int) ≤ room ∧ ok = true ∧ L' = L ++ js)) := by rw [hn.out, hmm.out] at hL; exact hL
  rw [hn.out] at c0 h1
  rw [hmm.out] at h4 ⊢
  clear hL hl
  by_cases hr : room < ((n + m : Nat) : Int)
  · obtain ⟨rfl, rfl⟩ : ok = false ∧ L' = L := by
      rcases hLh.out with h | h
      · exact h.2
      · exfalso; omega
    clear hLh
    go_enter Try.func35, Try.ntmps35
    go_wp2
    go_ret
    exact ⟨rfl, _, hS'.out⟩
  · obtain ⟨rfl, rfl⟩ : ok = true ∧ L' = L ++ js := by
      rcases hLh.out with h | h
      · exfalso; omega
      · exact h.2
    clear hLh
    go_enter Try.func35, Try.ntmps35
    go_upto_region 3 with fail
    go_wp2_with (refine wpList_append_q (by rfl) _ _ rfl (.slice ao n cap) L rfl (by have := hS'.out.sw.qv.1; rw [hn.out] at this; exact this) (.slice ao2 m cap2) qb js rfl (by have := hu'.out; rw [hmm.out] at this; exact this) (by rw [hn.out, hmm.out]; exact hl') ?_; rintro v1 w1 hq1 hg1 hf1; obtain ⟨a1, n1, x1, rfl, d0, f0, hfin⟩ := push_mid (by have := hS'.out; rw [hn.out] at this; exact this) hq1 hlab3.out hg1 hf1; clear hq1 hg1 hf1 c0)
    go_ret
    exact ⟨rfl, _, hfin.out⟩
theorem qv_cut {w : World} {ao : Option Addr} {n cap : Nat} {is : List Inp} (h : Qv w (.slice ao n cap) is) (m : Nat) (hm : m ≤ is.length) (ao' : Option Addr) (ha : ao' = if cap - m = 0 then ao else ao.map (fun x => x.add (m * 5))) :
    Qv w (.slice ao' (n - m) (cap - m)) (is.drop m) ∧ ∀ k, (Value.slice ao' (n - m) (cap - m)).ownBlock = some k → (Value.slice ao n cap).ownBlock = some k := by
  subst ha
  cases ao with
  | none =>
    rcases h with ⟨h, rfl⟩ | ⟨g', off', cap', cur, e, _⟩
    · cases h
      obtain rfl : m = 0 := by simpa using hm
      exact ⟨.inl ⟨by simp, by simp⟩, fun k hk => by simp [Value.ownBlock] at hk⟩
    · cases e
  | some a =>
    have h' := h
    rcases h' with ⟨h', _⟩ | ⟨g', off', cap', cur, e, hh, h1, _⟩
    · cases h'
    · cases e
      by_cases hc : cap - m = 0
      · rw [if_pos hc]
        exact ⟨h.dropAll m (by omega) (by omega), fun k hk => hk⟩
      · rw [if_neg hc]
        have e : (some (⟨g', off', none⟩ : Addr)).map (fun x => x.add (m * 5)) = some ⟨g', off' + m * 5, none⟩ := by simp [Addr.add_lit]
        rw [e]
        exact ⟨h.drop m hm, fun k hk => by simpa [Value.ownBlock] using hk⟩
theorem perm_pop (a b c : Th) (us : List Th) : (a :: b :: c :: us).Perm (b :: c :: a :: us) := (List.Perm.swap b a _).trans ((List.Perm.swap c a us).cons b)
theorem perm_pop2 (a b c : Th) (us : List Th) : (b :: c :: a :: us).Perm (a :: b :: c :: us) := (perm_pop a b c us).symm
theorem pop_fin {W0 w : World} {us : List Th} {c : Nat} {l s f : Int} {b : Nat} {i : Int} {vr vt : Value} {n cap : Nat} {ao : Option Addr} {L : List Inp} (h : St W0 w (cb c l s f (.slice ao n cap) b i vr vt :: inl (.slice ao n cap) L :: us)) (k : Nat) (hk : k ≤ L.length) (ao' : Option Addr) (c' : Nat)
    (ha : ao' = if cap - k = 0 then ao else ao.map (fun x => x.add (k * 5))) (hc : c' = cap - k) : St W0 (w.setCell ⟨c, 3, none⟩ (.slice ao' (n - k) c')) (cb c l s f (.slice ao' (n - k) c') b i vr vt :: inl (.slice ao' (n - k) c') (L.drop k) :: us) := by
  subst hc
  obtain ⟨h1, h2⟩ := h.sw.qv
  obtain ⟨q1, q2⟩ := qv_cut h1 k hk ao' ha
  have h3 := (h.sw.part q1 (h2.drop k) q2).sw
  exact h3.setC _ _ (h3.ck.set3 _)
set_option maxHeartbeats 1000000 in
/-- Queue.Pop, of a Cell. -/
theorem pop_is {W0 : World} {us : List Th} {c : Nat} {l s f : Int} {v : Value} {b : Nat} {i : Int} {vr vt : Value} {L : List Inp} (nn : Int) (w : World) (hS : St W0 w (cb c l s f v b i vr vt :: inl v L :: us)) (hl : L.length ≤ 1000000) (k : Nat)
    (hk : (nn < 0 ∧ k = 0) ∨ (0 ≤ nn ∧ nn ≤ ((L.length : Nat) : Int) ∧ nn = (k : Nat)) ∨ (((L.length : Nat) : Int) < nn ∧ k = L.length)) :
    Calls Try.prog 37 #[.pointer (some ⟨c, 3, none⟩), .int .i64 nn] w fun e w' => ∃ u v', e = .returned u ∧ St W0 w' (inl u (L.take k) :: cb c l s f v' b i vr vt :: inl v' (L.drop k) :: us) := by
  have hS' : Hid (St W0 w (cb c l s f v b i vr vt :: inl v L :: us)) := hS
  have c0 := hS.ck.c3
  obtain ⟨k2, hlab⟩ := hS.sw.qv
  obtain ⟨ao, cap, rfl, h1, h2, h3⟩ := k2.len
  have hkl : k ≤ L.length := by omega
  have hrd : Hid (Qv w (.slice ao k cap) (L.take k)) := k2.take k hkl
  have hlab1 : Hid (Labl (L.take k)) := hlab.take k
  clear hS k2 h3 hlab
  obtain ⟨n, hn⟩ : ∃ n, Hid (L.length = n) := ⟨_, rfl⟩
  rw [hn.out] at c0 h1 hk hkl hl
  go_enter Try.func37, Try.ntmps37
  go_upto_region 1 with fail
  go_cut [1] (fun x wx => x = .int .i64 ((k : Nat) : Int) ∧ wx = w)
  case first =>
    rcases hk with ⟨h4, rfl⟩ | ⟨h4, h5, rfl⟩ | ⟨h4, rfl⟩
    · go_wp2_with fail
      go_meet
      exact ⟨rfl, rfl⟩
    · go_wp2_with fail
      go_meet
      exact ⟨rfl, rfl⟩
    · go_wp2_with fail
      go_meet
      exact ⟨rfl, rfl⟩
  obtain ⟨rfl, he⟩ := hcut
  obtain rfl := he.symm
  clear hk
  obtain ⟨qb, hrd2, hx1, hx2⟩ := hrd.out.rdi hlab1.out 0
  clear hx1 hx2
  have hlk : (L.take k).length = k := by rw [List.length_take, hn.out]; omega
  go_wp2_with fail
  refine (qcopy_is (.slice ao k cap) qb (L.take k) _ hrd2 (by omega)).mono ?_
  rintro e w2 ⟨u, rfl, hu, b2, hf⟩
  have hS2 : Hid (St W0 w2 (inl u (L.take k) :: cb c l s f (.slice ao n cap) b i vr vt :: inl (.slice ao n cap) L :: us)) := by
    have := hS'.out.newl b2 hu hlab1.out hf
    rwa [hn.out] at this
  have d0 := hS2.out.sw.ck.c3
  have f0 := hS2.out.sw.ck.free 3
  clear hrd hrd2 hlk hS' c0 hf
  go_upto_region 3 with fail
  have hfin : Hid (∀ ao' c', (ao' = if cap - k = 0 then ao else ao.map (fun x => x.add (k * 5))) → c' = cap - k → ∃ v', St W0 (w2.setCell ⟨c, 3, none⟩ (.slice ao' (n - k) c')) (inl u (L.take k) :: cb c l s f v' b i vr vt :: inl v' (L.drop k) :: us)) := by
    intro ao' c' h1 h2
    exact ⟨_, (St.perm (pop_fin (St.perm hS2.out (perm_pop _ _ _ _)) k (by have := hn.out; omega) ao' c' h1 h2) (perm_pop2 _ _ _ _))⟩
  clear hS2
  go_wp2_with fail
  · go_ret
    obtain ⟨v', h1⟩ := hfin.out ao 0 (by rw [if_pos (by omega)]) (by omega)
    exact ⟨u, rfl, v', h1⟩
  · go_ret
    obtain ⟨v', h1⟩ := hfin.out _ (cap - k) (by rw [if_neg (by omega)]) rfl
    exact ⟨u, rfl, v', h1⟩
end Go.Proofs.Ytnamjnopicghhaa
