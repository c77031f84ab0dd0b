/- Pipes: what may be; what the small functions of packages window, agg and pipe tell; lists of operations; cordonbook.Same of operations, cordonkeep.Pipes. -/
import Derived.Test.YtnamjnopicghhaaOFold
import Derived.Test.YtnamjnopicghhaaFind
import Derived.Test.YtnamjnopicghhaaRws
import Derived.Deep.RegionHeld3
import Derived.Deep.DrawnRows
import Derived.Deep.Cut
import Derived.Deep.CutBlock
import Derived.Deep.DeepCutAuto
import Derived.RangeFuncBox
import Derived.BigQuiet
namespace Go.Proofs.Ytnamjnopicghhaa.O
open Go.RowKit MO
open Go.Proofs.Ytnamjnopicghhaa.M (rightB most right_of right_no' right_iff right_mk)
set_option linter.unusedVariables false
set_option linter.unusedSimpArgs false
attribute [local go_sem ↓] Go.wp_at_zero Go.wp_at_succ
def opCells (o : Oq) : List Value := [.int .i64 o.k, .int .i64 o.n]
def opl (os : List Oq) : List Value := os.flatMap opCells
theorem opl_len (os : List Oq) : (opl os).length = os.length * 2 := by
  induction os with
  | nil => rfl
  | cons x r ih => simp only [opl, List.flatMap_cons, List.length_append, List.length_cons] at *; rw [ih]; simp [opCells]; omega
theorem opl_one (os : List Oq) : ∀ u ∈ opl os, u.oneCell' = true := by
  intro u hu
  simp only [opl, List.mem_flatMap] at hu
  obtain ⟨e, _, he⟩ := hu
  simp only [opCells, List.mem_cons, List.not_mem_nil, or_false] at he
  rcases he with rfl | rfl <;> rfl
theorem opl_append (a b : List Oq) : opl (a ++ b) = opl a ++ opl b := by simp [opl]
theorem opl_at (os : List Oq) : ∀ (i r : Nat), r < 2 → i < os.length → (opl os)[i * 2 + r]? = (opCells (opAt os i))[r]? := by
  induction os with
  | nil => intro i r _ hi; simp at hi
  | cons x s ih =>
    intro i r hr hi
    have hc : (opCells x).length = 2 := rfl
    show (opCells x ++ opl s)[i * 2 + r]? = _
    cases i with
    | zero => rw [List.getElem?_append_left (by omega)]; simp
    | succ i =>
      rw [List.getElem?_append_right (by omega), hc, show (i + 1) * 2 + r - 2 = i * 2 + r by omega, ih i r hr (by simpa using hi)]
      simp
theorem opl_some {os : List Oq} {j : Nat} {u : Value} (h : (opl os)[j]? = some u) : j / 2 < os.length ∧ (opCells (opAt os (j / 2)))[j % 2]? = some u := by
  have hl := (List.getElem?_eq_some_iff.1 h).1
  rw [opl_len] at hl
  have h1 : j / 2 < os.length := by omega
  refine ⟨h1, ?_⟩
  rw [← opl_at os (j / 2) (j % 2) (by omega) h1, show j / 2 * 2 + j % 2 = j by omega]
  exact h
theorem own_form {w : World} {base : Nat} {e : TypeId} {v : Value} {n : Nat} {xs : List Value} (h : w.ownsRow base e 2 v n xs) (hne : ¬ v = .slice none 0 0) :
    ∃ g cp, v = .slice (some ⟨g, 0, none⟩) n cp ∧ n ≤ cp ∧ cp ≤ 9223372036854775807 ∧ base ≤ g := by
  obtain ⟨_, h | ⟨g, cap, cur, rfl, h2, hh, hn, hm, _⟩⟩ := h
  · exact absurd h.1 hne
  · exact ⟨g, cap, rfl, hn, by unfold maxLen at hm; omega, h2⟩
/-- The cells of a list of the call's own. -/
theorem own_cells {w : World} {base : Nat} {g cap : Nat} {os : List Oq} {e : TypeId} (h : w.ownsRow base e 2 (.slice (some ⟨g, 0, none⟩) os.length cap) os.length (opl os)) (j : Nat) (hj : j < os.length) : OpAt w g (0 + j * 2) (opAt os j) := by
  have hc : ∀ r, r < 2 → w.cell? ⟨g, 0 + j * 2 + r, none⟩ = (opCells (opAt os j))[r]? := by
    intro r hr
    rw [Nat.zero_add, h.cellAt (j * 2 + r) (by omega), opl_at os j r hr hj]
  exact ⟨hc 0 (by decide), hc 1 (by decide)⟩
theorem rd_part {w : World} {base g cp : Nat} {ns : List Oq} {e : TypeId} (hown : w.ownsRow base e 2 (.slice (some ⟨g, 0, none⟩) ns.length cp) ns.length (opl ns)) (hlt : ∀ x ∈ ns, x.n ≤ 9223372036854775807) (ps : List Oq) (i off m cq : Nat) (hi : i + ps.length ≤ ns.length)
    (hps : ∀ j, j < ps.length → opAt ps j = opAt ns (i + j)) (hoff : ps.length ≠ 0 → off = i * 2) (hm : ps.length = m) (hm2 : m ≤ cq) (hq : cq ≤ 9223372036854775807) (hmem : ∀ x ∈ ps, x ∈ ns) : RdO w (.slice (some ⟨g, off, none⟩) m cq) ps := by
  subst hm
  refine ⟨by omega, fun x hx => hlt x (hmem x hx), _, cq, rfl, hm2, hq, fun h0 => ⟨g, off, rfl, ?_, fun j hj => ?_⟩⟩
  · have := own_cells hown i (by omega)
    exact World.block_lt_of_cell? w _ this.1
  · have := own_cells hown (i + j) (by omega)
    rw [hps j hj, hoff h0, show i * 2 + j * 2 = 0 + (i + j) * 2 by omega]
    exact this
theorem drop_at (ns : List Oq) (C : Nat) : ∀ j, j < (ns.drop C).length → opAt (ns.drop C) j = opAt ns (C + j) := by
  intro j _
  simp [List.getD_eq_getElem?_getD, List.getElem?_drop]
theorem take_part (ns : List Oq) (C : Nat) : ∀ j, j < (ns.take C).length → opAt (ns.take C) j = opAt ns (0 + j) := by
  intro j hj
  have : j < C := by rw [List.length_take] at hj; omega
  simp [List.getD_eq_getElem?_getD, List.getElem?_take_of_lt this]
/-- window.most. -/
theorem wmost_is (n s k : Int) (w : World) (hs : 1 ≤ s) (h1 : s ≤ n) (h2 : n ≤ 1048576) (hk : most n s = k) :
    Calls Try.prog 77 #[.int .i64 n, .int .i64 s] w fun e w' => e = .returned (.int .i64 k) ∧ w' = w := by
  have hk' : Hid (most n s = k) := hk
  clear hk
  go_enter Try.func77, Try.ntmps77
  go_wp2
  go_ret
  exact ⟨ret_int hk'.out, rfl⟩
/-- window.Right. -/
theorem wright_is (n s : Int) (p : Bool) (w : World) (hp : rightB n s = p) :
    Calls Try.prog 64 #[.int .i64 n, .int .i64 s] w fun e w' => e = .returned (.bool p) ∧ w' = w := by
  have hp' : Hid (rightB n s = p) := hp
  clear hp
  by_cases h1 : s < 1
  · have hf : Hid (p = false) := by
      have h : p = false := by
        rw [← hp'.out, Bool.eq_false_iff]
        intro h
        have := right_of h
        omega
      exact h
    go_enter Try.func64, Try.ntmps64
    go_wp2
    go_ret
    exact ⟨ret_bool hf.out.symm, rfl⟩
  by_cases h2 : n < s
  · have hf : Hid (p = false) := by
      have h : p = false := by
        rw [← hp'.out]
        exact right_no' h2
      exact h
    go_enter Try.func64, Try.ntmps64
    go_wp2
    go_ret
    exact ⟨ret_bool hf.out.symm, rfl⟩
  by_cases h3 : 1048576 < n
  · have hf : Hid (p = false) := by
      have h : p = false := by
        rw [← hp'.out, Bool.eq_false_iff]
        intro h
        have := right_of h
        omega
      exact h
    go_enter Try.func64, Try.ntmps64
    go_wp2
    go_ret
    exact ⟨ret_bool hf.out.symm, rfl⟩
  obtain ⟨k, hk⟩ : ∃ k, Hid (most n s = k) := ⟨_, rfl⟩
  have hd : Hid (decide (k ≤ 8) = p) := by
    have h : decide (k ≤ 8) = p := by
      rw [← hp'.out, ← hk.out, Bool.eq_iff_iff, right_iff]
      simp
      omega
    exact h
  go_enter Try.func64, Try.ntmps64
  go_wp2_with fail
  refine (wmost_is n s k _ (by omega) (by omega) (by omega) hk.out).mono ?_
  rintro e w' ⟨rfl, he⟩; obtain rfl := he.symm; clear he
  go_wp2_with fail
  go_ret
  exact ⟨ret_bool hd.out, rfl⟩
/-- agg.Right. -/
theorem aright_is (k : Int) (p : Bool) (w : World) (hp : decide (1 ≤ k ∧ k ≤ 4) = p) : Calls Try.prog 65 #[.int .i64 k] w fun e w' => e = .returned (.bool p) ∧ w' = w := by
  subst hp
  by_cases h1 : 1 ≤ k
  · by_cases h2 : k ≤ 4
    · go_enter Try.func65, Try.ntmps65
      go_wp2
      go_ret
      exact ⟨ret_bool (by simp [h1, h2]), rfl⟩
    · go_enter Try.func65, Try.ntmps65
      go_wp2
      go_ret
      exact ⟨ret_bool (by simp [h2]), rfl⟩
  · go_enter Try.func65, Try.ntmps65
    go_wp2
    go_ret
    exact ⟨ret_bool (by simp; omega), rfl⟩

theorem new_cell {w : World} {b j : Nat} {cs : Array Value} {T : TypeId} {v : Value} (hb : b = w.heap.size) (h : cs[j]? = some v) : (w.alloc (.cells cs T)).cell? ⟨b, j, none⟩ = some v := by
  subst hb; simp [h]
theorem bstep {a w w1 : World} {o : Obj} (h : Below a.heap.size a w) (b : Below (w.alloc o).heap.size (w.alloc o) w1) : Below a.heap.size a w1 :=
  (h.alloc h.size o).trans (b.mono (Nat.le_trans h.size (by simp)))
theorem bcall {a w w1 : World} (h : Below a.heap.size a w) (b : Below w.heap.size w w1) : Below a.heap.size a w1 := h.trans (b.mono h.size)
theorem bnew {a w : World} (h : Below a.heap.size a w) (o : Obj) : Below a.heap.size a (w.alloc o) := h.alloc h.size o
theorem RdO.call {w w' : World} {v : Value} {os : List Oq} (h : RdO w v os) (hb : Below w.heap.size w w') : RdO w' v os := h.below hb (Nat.le_refl _) hb.size
abbrev pv (v : Value) (n s a k f : Int) : Value := .agg #[v, .int .i64 n, .int .i64 s, .int .i64 a, .int .i64 k, .int .i64 f]
/-- A pipe's block whole. -/
def Pik (w : World) (b : Nat) (v : Value) (n s a k f : Int) : Prop := w.heap[b]? = some (.cells #[v, .int .i64 n, .int .i64 s, .int .i64 a, .int .i64 k, .int .i64 f] 26 (0, 0))
section
variable {w w' : World} {b : Nat} {v : Value} {n s a k f : Int}
theorem Pik.c0 (h : Pik w b v n s a k f) : w.cell? ⟨b, 0, none⟩ = some v := by unfold Pik at h; simp [World.cell?, h]
theorem Pik.c1 (h : Pik w b v n s a k f) : w.cell? ⟨b, 1, none⟩ = some (.int .i64 n) := by unfold Pik at h; simp [World.cell?, h]
theorem Pik.c2 (h : Pik w b v n s a k f) : w.cell? ⟨b, 2, none⟩ = some (.int .i64 s) := by unfold Pik at h; simp [World.cell?, h]
theorem Pik.c3 (h : Pik w b v n s a k f) : w.cell? ⟨b, 3, none⟩ = some (.int .i64 a) := by unfold Pik at h; simp [World.cell?, h]
theorem Pik.c4 (h : Pik w b v n s a k f) : w.cell? ⟨b, 4, none⟩ = some (.int .i64 k) := by unfold Pik at h; simp [World.cell?, h]
theorem Pik.c5 (h : Pik w b v n s a k f) : w.cell? ⟨b, 5, none⟩ = some (.int .i64 f) := by unfold Pik at h; simp [World.cell?, h]
theorem Pik.free (h : Pik w b v n s a k f) (i : Nat) : w.frozen? ⟨b, i, none⟩ = false := by unfold Pik at h; simp [World.frozen?, h]
theorem Pik.lt (h : Pik w b v n s a k f) : b < w.heap.size := (Array.getElem?_eq_some_iff.1 h).1
theorem Pik.below {B : Nat} (h : Pik w b v n s a k f) (hb : Below B w w') (hB : b < B) : Pik w' b v n s a k f := (hb.block b hB).trans h
theorem Pik.call (h : Pik w b v n s a k f) (hb : Below w.heap.size w w') : Pik w' b v n s a k f := h.below hb h.lt
theorem Pik.alloc (h : Pik w b v n s a k f) (o : Obj) : Pik (w.alloc o) b v n s a k f := h.below (below_alloc w o) h.lt
end
theorem pik_new (w : World) (v : Value) (n s a k f : Int) : Pik (w.alloc (.cells #[v, .int .i64 n, .int .i64 s, .int .i64 a, .int .i64 k, .int .i64 f] 26)) w.heap.size v n s a k f := by
  show (w.heap.push _)[w.heap.size]? = _
  simp
/-- pipe.sinkOrNone. -/
theorem sink_is (x : Int) (p : Bool) (w : World) (hp : sinkB x = p) :
    Calls Try.prog 66 #[.int .i64 x] w fun e w' => e = .returned (.bool p) ∧ w' = w := by
  subst hp
  by_cases h1 : x = -1
  · subst h1
    go_enter Try.func66, Try.ntmps66
    go_wp2
    go_ret
    exact ⟨rfl, rfl⟩
  · have h1' : (x == -1) = false := by simpa using h1
    by_cases h0 : 0 ≤ x
    · go_enter Try.func66, Try.ntmps66
      go_wp2
      go_ret
      exact ⟨ret_bool (by unfold sinkB; rw [Bool.eq_iff_iff]; simp; omega), rfl⟩
    · go_enter Try.func66, Try.ntmps66
      go_wp2
      go_ret
      exact ⟨ret_bool (by unfold sinkB; simp; omega), rfl⟩
set_option maxHeartbeats 1000000 in
set_option maxRecDepth 100000 in
/-- pipe.Right. -/
theorem pright_is (v : Value) (os : List Oq) (n s a k f : Int) (r : Bool) (w : World) (hv : RdO w v os) (hr : rightP ⟨os, n, s, a, k, f⟩ = r) :
    Calls Try.prog 49 #[pv v n s a k f] w fun e w' => e = .returned (.bool r) ∧ Below w.heap.size w w' := by
  obtain ⟨r1, h1⟩ : ∃ r1, Hid (rightL os = r1) := ⟨_, rfl⟩
  obtain ⟨r2, h2⟩ : ∃ r2, Hid (rightB n s = r2) := ⟨_, rfl⟩
  obtain ⟨r3, h3⟩ : ∃ r3, Hid (decide (1 ≤ a ∧ a ≤ 4) = r3) := ⟨_, rfl⟩
  obtain ⟨r4, h4⟩ : ∃ r4, Hid (sinkB k = r4) := ⟨_, rfl⟩
  obtain ⟨r5, h5⟩ : ∃ r5, Hid (sinkB f = r5) := ⟨_, rfl⟩
  have hR : Hid ((r1 && (r2 && (r3 && (r4 && r5)))) = r) := by
    have h : (r1 && (r2 && (r3 && (r4 && r5)))) = r := by
      rw [← hr, ← h1.out, ← h2.out, ← h3.out, ← h4.out, ← h5.out]; rfl
    exact h
  clear hr
  go_enter Try.func49, Try.ntmps49
  go_upto_region 1 with fail
  refine world_gen (fun W => Pik W w.heap.size v n s a k f ∧ RdO W v os ∧ Below w.heap.size w W) ⟨pik_new _ _ _ _ _ _ _, hv.call (below_alloc _ _), below_alloc _ _⟩ ?_
  clear hv
  rintro W0 ⟨k0, hv, b0⟩
  obtain ⟨g, hg⟩ : ∃ g, Hid (w.heap.size = g) := ⟨_, rfl⟩
  rw [hg.out] at k0 ⊢
  have c0 := k0.c0
  go_wp2_with fail
  refine (right_any v os r1 _ hv h1.out).mono ?_
  rintro e w1 ⟨rfl, b1⟩
  have k1 := k0.call b1
  have bb := bcall b0 b1
  clear c0 hv k0 b0 b1
  cases r1
  · go_wp2
    go_ret
    exact ⟨ret_bool hR.out, hg.out ▸ bb⟩
  have c1 := k1.c1
  have c2 := k1.c2
  have c3 := k1.c3
  have c4 := k1.c4
  have c5 := k1.c5
  go_wp2_with fail
  refine (wright_is n s r2 _ h2.out).mono ?_
  rintro e w' ⟨rfl, he⟩; obtain rfl := he.symm; clear he
  cases r2
  · go_wp2
    go_ret
    exact ⟨ret_bool hR.out, hg.out ▸ bb⟩
  go_wp2_with fail
  refine (aright_is a r3 _ h3.out).mono ?_
  rintro e w' ⟨rfl, he⟩; obtain rfl := he.symm; clear he
  cases r3
  · go_wp2
    go_ret
    exact ⟨ret_bool hR.out, hg.out ▸ bb⟩
  go_wp2_with fail
  refine (sink_is k r4 _ h4.out).mono ?_
  rintro e w' ⟨rfl, he⟩; obtain rfl := he.symm; clear he
  cases r4
  · go_wp2
    go_ret
    exact ⟨ret_bool hR.out, hg.out ▸ bb⟩
  go_wp2_with fail
  refine (sink_is f r5 _ h5.out).mono ?_
  rintro e w' ⟨rfl, he⟩; obtain rfl := he.symm; clear he
  go_wp2
  go_ret
  exact ⟨ret_bool hR.out, hg.out ▸ bb⟩

theorem Try.info90 : (Try.prog.info? 90).map (fun i => (i.zero, i.size, i.bytes)) = some (some (.agg #[.int .i64 0, .int .i64 0]), 2, 16) := by kernel_rfl
theorem lit_cells (V : World) (x y : Int) : ∀ j u, (opCells ⟨x, y⟩)[j]? = some u → (V.alloc (.cells #[.int .i64 x, .int .i64 y] 90)).cell? ((⟨V.heap.size, 0, none⟩ : Addr).add j) = some u := by
  intro j u h
  have h2 := World.ownsRow_lit (base := V.heap.size) (e := 90) (size := 2) V #[.int .i64 x, .int .i64 y] 1 (Nat.le_refl _) (by unfold maxLen; omega) (by rfl)
  have hj : j < 2 := (List.getElem?_eq_some_iff.1 h).1
  have h3 := h2.cellAt j (by omega)
  have e : ((⟨V.heap.size, 0, none⟩ : Addr).add j) = ⟨V.heap.size, j, none⟩ := by
    unfold Addr.add; split <;> simp_all
  rw [e, h3]
  exact h

theorem own_base {w : World} {a b : Nat} {e : TypeId} {size : Nat} {v : Value} {n : Nat} {xs : List Value} (h : w.ownsRow a e size v n xs) (hb : b ≤ a) : w.ownsRow b e size v n xs := by
  obtain ⟨h1, h | ⟨g, cap, cur, rfl, h2, r⟩⟩ := h
  · exact ⟨h1, .inl h⟩
  · exact ⟨h1, .inr ⟨g, cap, cur, rfl, Nat.le_trans hb h2, r⟩⟩

theorem own_heap {w w' : World} {base : Nat} {e : TypeId} {size : Nat} {v : Value} {n : Nat} {xs : List Value} (h : w.ownsRow base e size v n xs) (hh : ∀ k, base ≤ k → w'.heap[k]? = w.heap[k]?) : w'.ownsRow base e size v n xs := by
  obtain ⟨h1, h | ⟨g, cap, cur, rfl, h2, h3, r⟩⟩ := h
  · exact ⟨h1, .inl h⟩
  · exact ⟨h1, .inr ⟨g, cap, cur, rfl, h2, (hh g h2).trans h3, r⟩⟩
abbrev set6 (w : World) (b : Nat) (v : Value) (n s a k f : Int) : World := (((((w.setCell ⟨b, 0, none⟩ v).setCell ⟨b, 1, none⟩ (.int .i64 n)).setCell ⟨b, 2, none⟩ (.int .i64 s)).setCell ⟨b, 3, none⟩ (.int .i64 a)).setCell ⟨b, 4, none⟩ (.int .i64 k)).setCell ⟨b, 5, none⟩ (.int .i64 f)
theorem Pik.set6 {w : World} {b : Nat} {v : Value} {n s a k f : Int} (h : Pik w b v n s a k f) (v' : Value) (n' s' a' k' f' : Int) : Pik (set6 w b v' n' s' a' k' f') b v' n' s' a' k' f' := by
  unfold Pik at *
  simp [World.setCell, Array.getElem?_modify, h]
theorem below_set6 {a w : World} {b B : Nat} (h : Below B a w) (hb : B ≤ b) (v : Value) (n s x k f : Int) : Below B a (set6 w b v n s x k f) :=
  (((((h.setCell hb _).setCell hb _).setCell hb _).setCell hb _).setCell hb _).setCell hb _

theorem take_sameO (z1 z2 : List Oq) (k : Nat) (h1 : k < z1.length) (h2 : k < z2.length) (a : Oq) (e1 : opAt z1 k = a) (e2 : opAt z2 k = a) (h : z1.take k = z2.take k) : z1.take (k + 1) = z2.take (k + 1) := by
  rw [take_snoc' z1 ⟨0, 0⟩ k h1, take_snoc' z2 ⟨0, 0⟩ k h2]
  show _ ++ [opAt z1 k] = _ ++ [opAt z2 k]
  rw [e1, e2, h]
theorem pq_eq {p q : Pq} : p = q ↔ p.os = q.os ∧ p.n = q.n ∧ p.s = q.s ∧ p.a = q.a ∧ p.k = q.k ∧ p.f = q.f := by
  obtain ⟨o1, n1, s1, a1, k1, f1⟩ := p
  obtain ⟨o2, n2, s2, a2, k2, f2⟩ := q
  simp
theorem bool_of (P : Prop) : ∃ r : Bool, r = true ↔ P := by
  by_cases h : P
  · exact ⟨true, by simp [h]⟩
  · exact ⟨false, by simp [h]⟩
theorem beq_no {a b : Int} (h : ¬ a = b) : (a == b) = false := by simpa using h
end Go.Proofs.Ytnamjnopicghhaa.O
