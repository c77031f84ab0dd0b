/- The document's own Runner: New and Take. -/
import Derived.Test.YtnamjnopicghhaaRefPut
import Derived.Test.YtnamjnopicghhaaRIn
import Derived.Test.YtnamjnopicghhaaOFold
import Derived.Test.YtnamjnopicghhaaRHelp
import Derived.Test.YtnamjnopicghhaaMathQ
import Derived.Test.YtnamjnopicghhaaMathL
import Derived.Deep.QuietTactic
import Derived.BigQuiet
namespace Go.Proofs.Ytnamjnopicghhaa
open Go.RowKit M
open O (RdO Kpk Pik Small Ints)
open O.MO (Oq Pq rightP)
set_option linter.unusedVariables false
set_option linter.unusedSimpArgs false
attribute [local go_sem ↓] Go.wp_at_zero Go.wp_at_succ

theorem own_blk {w w' : World} {B : Nat} {e : TypeId} {size : Nat} {v : Value} {n : Nat} {xs : List Value} (h : w.ownsRow B e size v n xs) (hs : w.heap.size ≤ w'.heap.size) (hk : ∀ k, v.ownBlock = some k → w'.heap[k]? = w.heap[k]?) : w'.ownsRow B e size v n xs := by
  obtain ⟨h1, h | ⟨g, cap, cur, rfl, h2, hh, r⟩⟩ := h
  · exact ⟨h1, .inl h⟩
  · exact ⟨h1, .inr ⟨g, cap, cur, rfl, h2, (hk g (by rfl)).trans hh, r⟩⟩
/-- The cells of the document's Runner. -/
def wcs (u : Value) (n s a k f m l sn : Int) (v : Value) : List Value := [u, .int .i64 n, .int .i64 s, .int .i64 a, .int .i64 k, .int .i64 f, .int .i64 m, .int .i64 l, .int .i64 sn, .int .i64 n, .int .i64 s, .int .i64 a, v]
def Wk (w : World) (b : Nat) (u : Value) (n s a k f m l sn : Int) (v : Value) : Prop := w.heap[b]? = some (.cells (wcs u n s a k f m l sn v).toArray 96 (0, 0))
abbrev wval (u : Value) (n s a k f m l sn : Int) (v : Value) : Value := .agg #[u, .int .i64 n, .int .i64 s, .int .i64 a, .int .i64 k, .int .i64 f, .int .i64 m, .int .i64 l, .int .i64 sn, .int .i64 n, .int .i64 s, .int .i64 a, v]
theorem Wk.c {w : World} {b : Nat} {u v : Value} {n s a k f m l sn : Int} (h : Wk w b u n s a k f m l sn v) : w.cell? ⟨b, 0, none⟩ = some u ∧ w.cell? ⟨b, 1, none⟩ = some (.int .i64 n) ∧ w.cell? ⟨b, 2, none⟩ = some (.int .i64 s) ∧ w.cell? ⟨b, 3, none⟩ = some (.int .i64 a) ∧ w.cell? ⟨b, 4, none⟩ = some (.int .i64 k) ∧ w.cell? ⟨b, 5, none⟩ = some (.int .i64 f) ∧ w.cell? ⟨b, 6, none⟩ = some (.int .i64 m) ∧ w.cell? ⟨b, 7, none⟩ = some (.int .i64 l) ∧ w.cell? ⟨b, 8, none⟩ = some (.int .i64 sn) ∧ w.cell? ⟨b, 9, none⟩ = some (.int .i64 n) ∧ w.cell? ⟨b, 10, none⟩ = some (.int .i64 s) ∧ w.cell? ⟨b, 11, none⟩ = some (.int .i64 a) ∧ w.cell? ⟨b, 12, none⟩ = some v := by
  unfold Wk wcs at h; exact ⟨by simp [World.cell?, h], by simp [World.cell?, h], by simp [World.cell?, h], by simp [World.cell?, h], by simp [World.cell?, h], by simp [World.cell?, h], by simp [World.cell?, h], by simp [World.cell?, h], by simp [World.cell?, h], by simp [World.cell?, h], by simp [World.cell?, h], by simp [World.cell?, h], by simp [World.cell?, h]⟩
theorem Wk.free {w : World} {b : Nat} {u v : Value} {n s a k f m l sn : Int} (h : Wk w b u n s a k f m l sn v) (j : Nat) : w.frozen? ⟨b, j, none⟩ = false := by unfold Wk at h; simp [World.frozen?, h]
theorem Wk.keep {w w' : World} {b : Nat} {u v : Value} {n s a k f m l sn : Int} (h : Wk w b u n s a k f m l sn v) (hb : w'.heap[b]? = w.heap[b]?) : Wk w' b u n s a k f m l sn v := hb.trans h
theorem Wk.lt {w : World} {b : Nat} {u v : Value} {n s a k f m l sn : Int} (h : Wk w b u n s a k f m l sn v) : b < w.heap.size := by
  unfold Wk at h
  exact (Array.getElem?_eq_some_iff.1 h).1
theorem Wk.call {w w' : World} {b : Nat} {u v : Value} {n s a k f m l sn : Int} (h : Wk w b u n s a k f m l sn v) (hb : Below w.heap.size w w') : Wk w' b u n s a k f m l sn v := h.keep (hb.block b h.lt)
theorem Wk.m' {w : World} {b : Nat} {u v : Value} {n s a k f m l sn : Int} (h : Wk w b u n s a k f m l sn v) (x : Int) : Wk (w.setCell ⟨b, 6, none⟩ (.int .i64 x)) b u n s a k f x l sn v := by
  unfold Wk wcs at *; simp [World.setCell, Array.getElem?_modify, h]
theorem Wk.l' {w : World} {b : Nat} {u v : Value} {n s a k f m l sn : Int} (h : Wk w b u n s a k f m l sn v) (x : Int) : Wk (w.setCell ⟨b, 7, none⟩ (.int .i64 x)) b u n s a k f m x sn v := by
  unfold Wk wcs at *; simp [World.setCell, Array.getElem?_modify, h]
theorem Wk.s' {w : World} {b : Nat} {u v : Value} {n s a k f m l sn : Int} (h : Wk w b u n s a k f m l sn v) (x : Int) : Wk (w.setCell ⟨b, 8, none⟩ (.int .i64 x)) b u n s a k f m l x v := by
  unfold Wk wcs at *; simp [World.setCell, Array.getElem?_modify, h]
theorem Wk.p' {w : World} {b : Nat} {u v : Value} {n s a k f m l sn : Int} (h : Wk w b u n s a k f m l sn v) (x : Value) : Wk ((((w.setCell ⟨b, 9, none⟩ (.int .i64 n)).setCell ⟨b, 10, none⟩ (.int .i64 s)).setCell ⟨b, 11, none⟩ (.int .i64 a)).setCell ⟨b, 12, none⟩ x) b u n s a k f m l sn x := by
  unfold Wk wcs at *; simp [World.setCell, Array.getElem?_modify, h]
/-- A cell set of a block turns no other one. -/
theorem keep_set {w : World} {b g o : Nat} {v : Value} (h : b ≠ g) : (w.setCell ⟨g, o, none⟩ v).heap[b]? = w.heap[b]? := by
  have h2 : ¬ g = b := fun e => h e.symm
  simp [World.setCell, Array.getElem?_modify, h2]
theorem size_set {w : World} {g o : Nat} {v : Value} : (w.setCell ⟨g, o, none⟩ v).heap.size = w.heap.size := by simp [World.setCell]
theorem keep_set4 {w : World} {b g : Nat} {v0 v1 v2 v3 : Value} {o0 o1 o2 o3 : Nat} (h : b ≠ g) : ((((w.setCell ⟨g, o0, none⟩ v0).setCell ⟨g, o1, none⟩ v1).setCell ⟨g, o2, none⟩ v2).setCell ⟨g, o3, none⟩ v3).heap[b]? = w.heap[b]? := by
  rw [keep_set h, keep_set h, keep_set h, keep_set h]

theorem wk_all {X : World} {g : Nat} {u0 v0 : Value} {n0 s0 a0 k0 f0 m0 l0 sn0 : Int} (hz : Wk X g u0 n0 s0 a0 k0 f0 m0 l0 sn0 v0) (u v : Value) (n s a k f m l sn : Int) :
    Wk (((((((((((((X.setCell ⟨g, 0, none⟩ u).setCell ⟨g, 1, none⟩ (.int .i64 n)).setCell ⟨g, 2, none⟩ (.int .i64 s)).setCell ⟨g, 3, none⟩ (.int .i64 a)).setCell ⟨g, 4, none⟩ (.int .i64 k)).setCell ⟨g, 5, none⟩ (.int .i64 f)).setCell ⟨g, 6, none⟩ (.int .i64 m)).setCell ⟨g, 7, none⟩ (.int .i64 l)).setCell ⟨g, 8, none⟩ (.int .i64 sn)).setCell ⟨g, 9, none⟩ (.int .i64 n)).setCell ⟨g, 10, none⟩ (.int .i64 s)).setCell ⟨g, 11, none⟩ (.int .i64 a)).setCell ⟨g, 12, none⟩ v) g u n s a k f m l sn v ∧ (∀ j, j ≠ g → (((((((((((((X.setCell ⟨g, 0, none⟩ u).setCell ⟨g, 1, none⟩ (.int .i64 n)).setCell ⟨g, 2, none⟩ (.int .i64 s)).setCell ⟨g, 3, none⟩ (.int .i64 a)).setCell ⟨g, 4, none⟩ (.int .i64 k)).setCell ⟨g, 5, none⟩ (.int .i64 f)).setCell ⟨g, 6, none⟩ (.int .i64 m)).setCell ⟨g, 7, none⟩ (.int .i64 l)).setCell ⟨g, 8, none⟩ (.int .i64 sn)).setCell ⟨g, 9, none⟩ (.int .i64 n)).setCell ⟨g, 10, none⟩ (.int .i64 s)).setCell ⟨g, 11, none⟩ (.int .i64 a)).setCell ⟨g, 12, none⟩ v).heap[j]? = X.heap[j]?) ∧ (((((((((((((X.setCell ⟨g, 0, none⟩ u).setCell ⟨g, 1, none⟩ (.int .i64 n)).setCell ⟨g, 2, none⟩ (.int .i64 s)).setCell ⟨g, 3, none⟩ (.int .i64 a)).setCell ⟨g, 4, none⟩ (.int .i64 k)).setCell ⟨g, 5, none⟩ (.int .i64 f)).setCell ⟨g, 6, none⟩ (.int .i64 m)).setCell ⟨g, 7, none⟩ (.int .i64 l)).setCell ⟨g, 8, none⟩ (.int .i64 sn)).setCell ⟨g, 9, none⟩ (.int .i64 n)).setCell ⟨g, 10, none⟩ (.int .i64 s)).setCell ⟨g, 11, none⟩ (.int .i64 a)).setCell ⟨g, 12, none⟩ v).heap.size = X.heap.size ∧ (∀ B, B ≤ g → Below B X (((((((((((((X.setCell ⟨g, 0, none⟩ u).setCell ⟨g, 1, none⟩ (.int .i64 n)).setCell ⟨g, 2, none⟩ (.int .i64 s)).setCell ⟨g, 3, none⟩ (.int .i64 a)).setCell ⟨g, 4, none⟩ (.int .i64 k)).setCell ⟨g, 5, none⟩ (.int .i64 f)).setCell ⟨g, 6, none⟩ (.int .i64 m)).setCell ⟨g, 7, none⟩ (.int .i64 l)).setCell ⟨g, 8, none⟩ (.int .i64 sn)).setCell ⟨g, 9, none⟩ (.int .i64 n)).setCell ⟨g, 10, none⟩ (.int .i64 s)).setCell ⟨g, 11, none⟩ (.int .i64 a)).setCell ⟨g, 12, none⟩ v)) := by
  refine ⟨?_, ?_, ?_, ?_⟩
  · unfold Wk wcs at *; simp [World.setCell, Array.getElem?_modify, hz]
  · intro j hj
    have hj2 : ¬ g = j := fun h => hj h.symm
    simp [World.setCell, Array.getElem?_modify, hj2]
  · simp [World.setCell]
  · intro B hB
    exact (((((((((((((Below.refl B X).setCell (p := ⟨g, 0, none⟩) hB _).setCell (p := ⟨g, 1, none⟩) hB _).setCell (p := ⟨g, 2, none⟩) hB _).setCell (p := ⟨g, 3, none⟩) hB _).setCell (p := ⟨g, 4, none⟩) hB _).setCell (p := ⟨g, 5, none⟩) hB _).setCell (p := ⟨g, 6, none⟩) hB _).setCell (p := ⟨g, 7, none⟩) hB _).setCell (p := ⟨g, 8, none⟩) hB _).setCell (p := ⟨g, 9, none⟩) hB _).setCell (p := ⟨g, 10, none⟩) hB _).setCell (p := ⟨g, 11, none⟩) hB _).setCell (p := ⟨g, 12, none⟩) hB _

theorem wk_new (w : World) (u v : Value) (n s a k f m l sn : Int) : Wk (w.alloc (.cells #[u, .int .i64 n, .int .i64 s, .int .i64 a, .int .i64 k, .int .i64 f, .int .i64 m, .int .i64 l, .int .i64 sn, .int .i64 n, .int .i64 s, .int .i64 a, v] 96)) w.heap.size u n s a k f m l sn v := by
  show (w.heap.push _)[w.heap.size]? = _
  simp [wcs]
theorem wk_new' (w : World) (u v : Value) (n s a k f m l sn : Int) (g : Nat) (hg : w.heap.size = g) : Wk (w.alloc (.cells #[u, .int .i64 n, .int .i64 s, .int .i64 a, .int .i64 k, .int .i64 f, .int .i64 m, .int .i64 l, .int .i64 sn, .int .i64 n, .int .i64 s, .int .i64 a, v] 96)) g u n s a k f m l sn v := by subst hg; exact wk_new w u v n s a k f m l sn
/-- The zero Runner in a block. -/
theorem wk_zero (w : World) (g : Nat) (hg : w.heap.size = g) : Wk (w.alloc (.cells #[.slice none 0 0, .int .i64 0, .int .i64 0, .int .i64 0, .int .i64 0, .int .i64 0, .int .i64 0, .int .i64 0, .int .i64 0, .int .i64 0, .int .i64 0, .int .i64 0, .slice none 0 0] 96)) g (.slice none 0 0) 0 0 0 0 0 0 0 0 (.slice none 0 0) := wk_new' w _ _ 0 0 0 0 0 0 0 0 g hg
theorem ink_new' (w : World) (i : Inp) (g : Nat) (hg : w.heap.size = g) : Ink (w.alloc (.cells #[.bool i.mrk, .int .i64 i.e.t, .int .i64 i.e.k, .int .i64 i.e.v, .int .u64 i.e.l] 31)) g i := by subst hg; exact ink_new w i
/-- The parameter's block, the result's, the panes' list. -/
structure RT (w X : World) (g0 gz Bv : Nat) (U : Value) (n s a k f m l sn : Int) (v : Value) (L : List Pn) : Prop where
  W : Wk X g0 U n s a k f m l sn v
  Z : Wk X gz (.slice none 0 0) 0 0 0 0 0 0 0 0 (.slice none 0 0)
  B : Below g0 w X
  V : X.ownsRow Bv 141 5 v L.length (qcs L)
  lt : g0 < gz
section
variable {w X X' : World} {g0 gz Bv : Nat} {U v v' : Value} {n s a k f m l sn : Int} {L L' : List Pn}
theorem RT.call (h : RT w X g0 gz Bv U n s a k f m l sn v L) (hb : Below X.heap.size X X') : RT w X' g0 gz Bv U n s a k f m l sn v L :=
  ⟨h.W.call hb, h.Z.call hb, h.B.trans (hb.mono (Nat.le_of_lt h.W.lt)), own_below h.V hb, h.lt⟩
theorem RT.alloc (h : RT w X g0 gz Bv U n s a k f m l sn v L) (o : Obj) : RT w (X.alloc o) g0 gz Bv U n s a k f m l sn v L := h.call (below_alloc _ _)
theorem RT.m' (h : RT w X g0 gz Bv U n s a k f m l sn v L) (x : Int) : RT w (X.setCell ⟨g0, 6, none⟩ (.int .i64 x)) g0 gz Bv U n s a k f x l sn v L :=
  ⟨h.W.m' x, h.Z.keep (keep_set (by have := h.lt; omega)), h.B.setCell (Nat.le_refl g0) _, own_blk h.V (Nat.le_of_eq size_set.symm) (fun q hq => keep_set (own_typed h.V h.W (by decide) q hq)), h.lt⟩
theorem RT.l' (h : RT w X g0 gz Bv U n s a k f m l sn v L) (x : Int) : RT w (X.setCell ⟨g0, 7, none⟩ (.int .i64 x)) g0 gz Bv U n s a k f m x sn v L :=
  ⟨h.W.l' x, h.Z.keep (keep_set (by have := h.lt; omega)), h.B.setCell (Nat.le_refl g0) _, own_blk h.V (Nat.le_of_eq size_set.symm) (fun q hq => keep_set (own_typed h.V h.W (by decide) q hq)), h.lt⟩
theorem RT.s' (h : RT w X g0 gz Bv U n s a k f m l sn v L) (x : Int) : RT w (X.setCell ⟨g0, 8, none⟩ (.int .i64 x)) g0 gz Bv U n s a k f m l x v L :=
  ⟨h.W.s' x, h.Z.keep (keep_set (by have := h.lt; omega)), h.B.setCell (Nat.le_refl g0) _, own_blk h.V (Nat.le_of_eq size_set.symm) (fun q hq => keep_set (own_typed h.V h.W (by decide) q hq)), h.lt⟩
theorem RT.p' (h : RT w X g0 gz Bv U n s a k f m l sn v L) (hv : X.ownsRow Bv 141 5 v' L'.length (qcs L')) : RT w ((((X.setCell ⟨g0, 9, none⟩ (.int .i64 n)).setCell ⟨g0, 10, none⟩ (.int .i64 s)).setCell ⟨g0, 11, none⟩ (.int .i64 a)).setCell ⟨g0, 12, none⟩ v') g0 gz Bv U n s a k f m l sn v' L' :=
  ⟨h.W.p' v', h.Z.keep (keep_set4 (by have := h.lt; omega)), (((h.B.setCell (p := ⟨g0, 9, none⟩) (Nat.le_refl g0) _).setCell (p := ⟨g0, 10, none⟩) (Nat.le_refl g0) _).setCell (p := ⟨g0, 11, none⟩) (Nat.le_refl g0) _).setCell (p := ⟨g0, 12, none⟩) (Nat.le_refl g0) _, own_blk hv (by simp [World.setCell]) (fun q hq => keep_set4 (own_typed hv h.W (by decide) q hq)), h.lt⟩
end
/-- Another list of the call's own stays, too. -/
theorem own_set4 {X : World} {g0 Bx : Nat} {e : TypeId} {sz : Nat} {x v0 v1 v2 v3 : Value} {nx : Nat} {xs : List Value} {cs : Array Value} (h : X.ownsRow Bx e sz x nx xs) (hW : X.heap[g0]? = some (.cells cs 96 (0, 0))) (he : e ≠ 96) : ((((X.setCell ⟨g0, 9, none⟩ v0).setCell ⟨g0, 10, none⟩ v1).setCell ⟨g0, 11, none⟩ v2).setCell ⟨g0, 12, none⟩ v3).ownsRow Bx e sz x nx xs :=
  own_blk h (by simp [World.setCell]) (fun q hq => keep_set4 (own_typed h hW he q hq))

/-- What Take hands out: the runner behind the input, its rows. -/
def WOut (w : World) (B : Nat) (u : Value) (p : Pq) (r : Rs) (i : Inp) (e : Ending) (w' : World) : Prop :=
  ∃ r' v' x, stepR p r i = r' ∧ e = .returned (.tuple #[wval u p.n p.s p.a p.k p.f r'.m r'.l r'.s v', x]) ∧ w'.ownsRow B 141 5 v' r'.L.length (qcs r'.L) ∧ w'.ownsRow w.heap.size 39 5 x (rowR p r i).length (rcs (rowR p r i)) ∧ Below w.heap.size w w'

set_option maxHeartbeats 8000000 in
set_option maxRecDepth 100000 in
theorem wtake_is (u v : Value) (os : List Oq) (n s a k f m l sn : Int) (L : List Pn) (i : Inp) (B : Nat) (w : World) (hO : OpsIn w u os) (hv : w.ownsRow B 141 5 v L.length (qcs L)) (hB : B ≤ w.heap.size) (hK : Okl n s L) (hl : L.length ≤ 100000) (hcn : ∀ p ∈ L, 0 ≤ p.c ∧ p.c ≤ 900 ∧ p.l < 18446744073709551616) (hnb : -1099511627776 ≤ n ∧ n ≤ 1099511627776)
    (hel : i.e.l < 18446744073709551616) (hlt : 0 ≤ l ∧ l ≤ 1000000) (hsn : 0 ≤ sn ∧ sn ≤ 1000000) :
    Calls Try.prog 43 #[wval u n s a k f m l sn v, .agg #[.bool i.mrk, .int .i64 i.e.t, .int .i64 i.e.k, .int .i64 i.e.v, .int .u64 i.e.l]] w fun e w' => WOut w B u ⟨os, n, s, a, k, f⟩ ⟨m, l, sn, L⟩ i e w' := by
  obtain ⟨mk, ⟨et, ek, ev, el⟩⟩ := i
  obtain ⟨va, vc, rfl⟩ := own_len hv
  obtain ⟨ua, uc, rfl⟩ := own_len hO.1
  have hO' : Hid (OpsIn w (.slice ua os.length uc) os) := hO
  have hv' : Hid (w.ownsRow B 141 5 (.slice va L.length vc) L.length (qcs L)) := hv
  have hK' : Hid (Okl n s L) := hK
  have hcn' : Hid (∀ p ∈ L, 0 ≤ p.c ∧ p.c ≤ 900 ∧ p.l < 18446744073709551616) := hcn
  have hel' : Hid (el < 18446744073709551616) := hel
  clear hv hK hcn hel hO
  go_enter Try.func43, Try.ntmps43
  go_upto_region 1 with fail
  obtain ⟨g0, hg0⟩ : ∃ g, Hid (w.heap.size = g) := ⟨_, rfl⟩
  refine world_gen (fun X => Hid (RT w X w.heap.size (w.heap.size + 1 + 1) B (.slice ua os.length uc) n s a k f m l sn (.slice va L.length vc) L) ∧ Hid (Ink X (w.heap.size + 1) ⟨mk, ⟨et, ek, ev, el⟩⟩) ∧ Hid (OpsIn X (.slice ua os.length uc) os)) ⟨⟨?g1, ?g2, ?g3, ?g4, by omega⟩, ?g5, ?g6⟩ ?_
  case g1 => exact ((wk_new w _ _ n s a k f m l sn).call (below_alloc _ _)).call (below_alloc _ _)
  case g2 => exact wk_zero _ _ (by simp)
  case g3 => exact ((below_alloc w _).alloc (by simp) _).alloc (by simp; omega) _
  case g4 => exact ((hv'.out.alloc _).alloc _).alloc _
  case g5 => exact (ink_new' _ ⟨mk, ⟨et, ek, ev, el⟩⟩ _ (by simp)).call (below_alloc _ _)
  case g6 => exact ((hO'.out.below (below_alloc _ _)).below (below_alloc _ _)).below (below_alloc _ _)
  clear hv' hO'
  rintro X ⟨hR, hI, hO⟩
  rw [hg0.out] at hR hI hB ⊢
  obtain ⟨gz, hgz⟩ : ∃ g, g0 + 1 + 1 = g := ⟨_, rfl⟩
  obtain ⟨gi, hgi⟩ : ∃ g, g0 + 1 = g := ⟨_, rfl⟩
  rw [hgz] at hR ⊢
  rw [hgi] at hI ⊢
  have hlt1 : g0 < gi ∧ gi < gz := by omega
  clear hgz hgi
  obtain ⟨c0, c1, c2, c3, c4⟩ := hI.out.c
  simp only at c0 c1 c2 c3 c4
  obtain ⟨d0, d1, d2, d3, d4, d5, d6, d7, d8, d9, d10, d11, d12⟩ := hR.out.W.c
  cases mk with
  | true =>
    by_cases h1 : et ≤ m
    · have hd1 : decide (et ≤ m) = true := decide_eq_true h1
      have hg : goes m et = false := decide_eq_false (by omega)
      have hst : Hid _ := step_still (p := ⟨os, n, s, a, k, f⟩) (r := ⟨m, l, sn, L⟩) (i := ⟨true, ⟨et, ek, ev, el⟩⟩) rfl hg
      go_upto_region 3 with fail
      clear d0 d1 d2 d3 d4 d5 d6 d7 d8 d9 d10 d11 d12
      obtain ⟨d0, d1, d2, d3, d4, d5, d6, d7, d8, d9, d10, d11, d12⟩ := hR.out.W.c
      obtain ⟨e0, e1, e2, e3, e4, e5, e6, e7, e8, e9, e10, e11, e12⟩ := hR.out.Z.c
      have f0 := hR.out.Z.free 0
      have f1 := hR.out.Z.free 1
      have f2 := hR.out.Z.free 2
      have f3 := hR.out.Z.free 3
      have f4 := hR.out.Z.free 4
      have f5 := hR.out.Z.free 5
      have f6 := hR.out.Z.free 6
      have f7 := hR.out.Z.free 7
      have f8 := hR.out.Z.free 8
      have f9 := hR.out.Z.free 9
      have f10 := hR.out.Z.free 10
      have f11 := hR.out.Z.free 11
      have f12 := hR.out.Z.free 12
      go_wp2_with fail
      have hall := wk_all hR.out.Z (.slice ua os.length uc) (.slice va L.length vc) n s a k f m l sn
      clear d0 d1 d2 d3 d4 d5 d6 d7 d8 d9 d10 d11 d12 e0 e1 e2 e3 e4 e5 e6 e7 e8 e9 e10 e11 e12 f0 f1 f2 f3 f4 f5 f6 f7 f8 f9 f10 f11 f12
      generalize ((((((((((((X.setCell ⟨gz, 0, none⟩ (.slice ua os.length uc)).setCell ⟨gz, 1, none⟩ (.int .i64 n)).setCell ⟨gz, 2, none⟩ (.int .i64 s)).setCell ⟨gz, 3, none⟩ (.int .i64 a)).setCell ⟨gz, 4, none⟩ (.int .i64 k)).setCell ⟨gz, 5, none⟩ (.int .i64 f)).setCell ⟨gz, 6, none⟩ (.int .i64 m)).setCell ⟨gz, 7, none⟩ (.int .i64 l)).setCell ⟨gz, 8, none⟩ (.int .i64 sn)).setCell ⟨gz, 9, none⟩ (.int .i64 n)).setCell ⟨gz, 10, none⟩ (.int .i64 s)).setCell ⟨gz, 11, none⟩ (.int .i64 a)).setCell ⟨gz, 12, none⟩ (.slice va L.length vc) = Z at hall ⊢
      obtain ⟨hz1, hz2, hz3, hz4⟩ := hall
      obtain ⟨e0, e1, e2, e3, e4, e5, e6, e7, e8, e9, e10, e11, e12⟩ := hz1.c
      have hgz := hR.out.lt
      have hv9 := own_blk hR.out.V (Nat.le_of_eq hz3.symm) (fun q hq => hz2 q (own_typed hR.out.V hR.out.Z (by decide) q hq))
      have hx9 := own_blk (World.ownsRow_nil X g0 39 5) (Nat.le_of_eq hz3.symm) (fun q hq => hz2 q (own_typed (World.ownsRow_nil X g0 39 5) hR.out.Z (by decide) q hq))
      have hbz : Below g0 w Z := hR.out.B.trans (hz4 _ (Nat.le_of_lt hgz))
      exact bodyPost_ret (v := .tuple #[wval (.slice ua os.length uc) n s a k f m l sn (.slice va L.length vc), (.slice none 0 0)]) (by simp [results, Try.results43, go_sem, e0, e1, e2, e3, e4, e5, e6, e7, e8, e9, e10, e11, e12]) rfl ⟨_, _, _, hst.out.1, rfl, hv9, by rw [hst.out.2, hg0.out]; exact hx9, by rw [hg0.out]; exact hbz⟩
    · have hd1 : decide (et ≤ m) = false := decide_eq_false h1
      by_cases h2 : 1099512676352 < et
      · have hd2 : decide (1099512676352 < et) = true := decide_eq_true h2
        have hg : goes m et = false := decide_eq_false (by omega)
        have hst : Hid _ := step_still (p := ⟨os, n, s, a, k, f⟩) (r := ⟨m, l, sn, L⟩) (i := ⟨true, ⟨et, ek, ev, el⟩⟩) rfl hg
        go_upto_region 3 with fail
        clear d0 d1 d2 d3 d4 d5 d6 d7 d8 d9 d10 d11 d12
        obtain ⟨d0, d1, d2, d3, d4, d5, d6, d7, d8, d9, d10, d11, d12⟩ := hR.out.W.c
        obtain ⟨e0, e1, e2, e3, e4, e5, e6, e7, e8, e9, e10, e11, e12⟩ := hR.out.Z.c
        have f0 := hR.out.Z.free 0
        have f1 := hR.out.Z.free 1
        have f2 := hR.out.Z.free 2
        have f3 := hR.out.Z.free 3
        have f4 := hR.out.Z.free 4
        have f5 := hR.out.Z.free 5
        have f6 := hR.out.Z.free 6
        have f7 := hR.out.Z.free 7
        have f8 := hR.out.Z.free 8
        have f9 := hR.out.Z.free 9
        have f10 := hR.out.Z.free 10
        have f11 := hR.out.Z.free 11
        have f12 := hR.out.Z.free 12
        go_wp2_with fail
        have hall := wk_all hR.out.Z (.slice ua os.length uc) (.slice va L.length vc) n s a k f m l sn
        clear d0 d1 d2 d3 d4 d5 d6 d7 d8 d9 d10 d11 d12 e0 e1 e2 e3 e4 e5 e6 e7 e8 e9 e10 e11 e12 f0 f1 f2 f3 f4 f5 f6 f7 f8 f9 f10 f11 f12
        generalize ((((((((((((X.setCell ⟨gz, 0, none⟩ (.slice ua os.length uc)).setCell ⟨gz, 1, none⟩ (.int .i64 n)).setCell ⟨gz, 2, none⟩ (.int .i64 s)).setCell ⟨gz, 3, none⟩ (.int .i64 a)).setCell ⟨gz, 4, none⟩ (.int .i64 k)).setCell ⟨gz, 5, none⟩ (.int .i64 f)).setCell ⟨gz, 6, none⟩ (.int .i64 m)).setCell ⟨gz, 7, none⟩ (.int .i64 l)).setCell ⟨gz, 8, none⟩ (.int .i64 sn)).setCell ⟨gz, 9, none⟩ (.int .i64 n)).setCell ⟨gz, 10, none⟩ (.int .i64 s)).setCell ⟨gz, 11, none⟩ (.int .i64 a)).setCell ⟨gz, 12, none⟩ (.slice va L.length vc) = Z at hall ⊢
        obtain ⟨hz1, hz2, hz3, hz4⟩ := hall
        obtain ⟨e0, e1, e2, e3, e4, e5, e6, e7, e8, e9, e10, e11, e12⟩ := hz1.c
        have hgz := hR.out.lt
        have hv9 := own_blk hR.out.V (Nat.le_of_eq hz3.symm) (fun q hq => hz2 q (own_typed hR.out.V hR.out.Z (by decide) q hq))
        have hx9 := own_blk (World.ownsRow_nil X g0 39 5) (Nat.le_of_eq hz3.symm) (fun q hq => hz2 q (own_typed (World.ownsRow_nil X g0 39 5) hR.out.Z (by decide) q hq))
        have hbz : Below g0 w Z := hR.out.B.trans (hz4 _ (Nat.le_of_lt hgz))
        exact bodyPost_ret (v := .tuple #[wval (.slice ua os.length uc) n s a k f m l sn (.slice va L.length vc), (.slice none 0 0)]) (by simp [results, Try.results43, go_sem, e0, e1, e2, e3, e4, e5, e6, e7, e8, e9, e10, e11, e12]) rfl ⟨_, _, _, hst.out.1, rfl, hv9, by rw [hst.out.2, hg0.out]; exact hx9, by rw [hg0.out]; exact hbz⟩
      · have hd2 : decide (1099512676352 < et) = false := decide_eq_false h2
        have hg : goes m et = true := decide_eq_true (by omega)
        have hst : Hid _ := step_mark (p := ⟨os, n, s, a, k, f⟩) (r := ⟨m, l, sn, L⟩) (i := ⟨true, ⟨et, ek, ev, el⟩⟩) rfl hg
        have htf : Hid _ := take_filter n et L hK'.out.1
        have f6 := hR.out.W.free 6
        go_upto_region 6 with fail
        refine world_gen (fun Y => Hid (RT w Y g0 gz B (.slice ua os.length uc) n s a k f et l sn (.slice va L.length vc) L)) (hR.out.m' et) ?_
        clear d0 d1 d2 d3 d4 d5 d6 d7 d8 d9 d10 d11 d12 f6 hR hI hO c0 c1 c2 c3 c4
        rintro Y hR
        obtain ⟨d0, d1, d2, d3, d4, d5, d6, d7, d8, d9, d10, d11, d12⟩ := hR.out.W.c
        go_wp2_with fail
        refine (rclose_is n s a et (.slice va L.length vc) L _ (rdq_own hR.out.V) (by omega) (fun p hp => by have := (hK'.out.2 p hp).1; omega)).mono ?_
        rintro e W5 ⟨u5, x5, rfl, hu5, hx5, b5⟩
        obtain ⟨q5, c5, rfl⟩ := own_len hu5
        obtain ⟨xa, xc, rfl⟩ := own_len hx5
        have hR5 : Hid (RT w W5 g0 gz B (.slice ua os.length uc) n s a k f et l sn (.slice va L.length vc) L) := hR.out.call b5
        have hYz : g0 ≤ Y.heap.size := Nat.le_of_lt hR.out.W.lt
        have hu6 : Hid (W5.ownsRow B 141 5 (.slice q5 (stay n et L).length c5) (stay n et L).length (qcs (stay n et L))) := O.own_base hu5 (by omega)
        have hx6 : Hid (W5.ownsRow g0 39 5 (.slice xa (done n et L).length xc) (done n et L).length (rcs (done n et L))) := O.own_base hx5 hYz
        clear d0 d1 d2 d3 d4 d5 d6 d7 d8 d9 d10 d11 d12 hR hu5 hx5 b5
        obtain ⟨d0, d1, d2, d3, d4, d5, d6, d7, d8, d9, d10, d11, d12⟩ := hR5.out.W.c
        have f9 := hR5.out.W.free 9
        have f10 := hR5.out.W.free 10
        have f11 := hR5.out.W.free 11
        have f12 := hR5.out.W.free 12
        go_upto_region 7 with fail
        refine world_gen (fun Y => Hid (RT w Y g0 gz B (.slice ua os.length uc) n s a k f et l sn (.slice q5 (stay n et L).length c5) (stay n et L)) ∧ Hid (Y.ownsRow g0 39 5 (.slice xa (done n et L).length xc) (done n et L).length (rcs (done n et L)))) ⟨hR5.out.p' hu6.out, own_set4 hx6.out hR5.out.W (by decide)⟩ ?_
        clear d0 d1 d2 d3 d4 d5 d6 d7 d8 d9 d10 d11 d12 f9 f10 f11 f12 hR5 hu6 hx6
        rintro Y7 ⟨hR, hx7⟩
        have hr' : Hid (stepR ⟨os, n, s, a, k, f⟩ ⟨m, l, sn, L⟩ ⟨true, ⟨et, ek, ev, el⟩⟩ = ⟨et, l, sn, stay n et L⟩) := by
          have h : stepR ⟨os, n, s, a, k, f⟩ ⟨m, l, sn, L⟩ ⟨true, ⟨et, ek, ev, el⟩⟩ = ⟨et, l, sn, stay n et L⟩ := by rw [hst.out.1]; show (⟨et, l, sn, L.drop (endN n et L)⟩ : Rs) = _; rw [htf.out.2]; rfl
          exact h
        have hrr : Hid (rowR ⟨os, n, s, a, k, f⟩ ⟨m, l, sn, L⟩ ⟨true, ⟨et, ek, ev, el⟩⟩ = done n et L) := by
          have h : rowR ⟨os, n, s, a, k, f⟩ ⟨m, l, sn, L⟩ ⟨true, ⟨et, ek, ev, el⟩⟩ = done n et L := by rw [hst.out.2]; show L.take (endN n et L) = _; rw [htf.out.1]; rfl
          exact h
        obtain ⟨d0, d1, d2, d3, d4, d5, d6, d7, d8, d9, d10, d11, d12⟩ := hR.out.W.c
        obtain ⟨e0, e1, e2, e3, e4, e5, e6, e7, e8, e9, e10, e11, e12⟩ := hR.out.Z.c
        have f0 := hR.out.Z.free 0
        have f1 := hR.out.Z.free 1
        have f2 := hR.out.Z.free 2
        have f3 := hR.out.Z.free 3
        have f4 := hR.out.Z.free 4
        have f5 := hR.out.Z.free 5
        have f6 := hR.out.Z.free 6
        have f7 := hR.out.Z.free 7
        have f8 := hR.out.Z.free 8
        have f9 := hR.out.Z.free 9
        have f10 := hR.out.Z.free 10
        have f11 := hR.out.Z.free 11
        have f12 := hR.out.Z.free 12
        go_wp2_with fail
        have hall := wk_all hR.out.Z (.slice ua os.length uc) (.slice q5 (stay n et L).length c5) n s a k f et l sn
        clear d0 d1 d2 d3 d4 d5 d6 d7 d8 d9 d10 d11 d12 e0 e1 e2 e3 e4 e5 e6 e7 e8 e9 e10 e11 e12 f0 f1 f2 f3 f4 f5 f6 f7 f8 f9 f10 f11 f12
        generalize ((((((((((((Y7.setCell ⟨gz, 0, none⟩ (.slice ua os.length uc)).setCell ⟨gz, 1, none⟩ (.int .i64 n)).setCell ⟨gz, 2, none⟩ (.int .i64 s)).setCell ⟨gz, 3, none⟩ (.int .i64 a)).setCell ⟨gz, 4, none⟩ (.int .i64 k)).setCell ⟨gz, 5, none⟩ (.int .i64 f)).setCell ⟨gz, 6, none⟩ (.int .i64 et)).setCell ⟨gz, 7, none⟩ (.int .i64 l)).setCell ⟨gz, 8, none⟩ (.int .i64 sn)).setCell ⟨gz, 9, none⟩ (.int .i64 n)).setCell ⟨gz, 10, none⟩ (.int .i64 s)).setCell ⟨gz, 11, none⟩ (.int .i64 a)).setCell ⟨gz, 12, none⟩ (.slice q5 (stay n et L).length c5) = Z at hall ⊢
        obtain ⟨hz1, hz2, hz3, hz4⟩ := hall
        obtain ⟨e0, e1, e2, e3, e4, e5, e6, e7, e8, e9, e10, e11, e12⟩ := hz1.c
        have hgz := hR.out.lt
        have hv9 := own_blk hR.out.V (Nat.le_of_eq hz3.symm) (fun q hq => hz2 q (own_typed hR.out.V hR.out.Z (by decide) q hq))
        have hx9 := own_blk (hx7.out) (Nat.le_of_eq hz3.symm) (fun q hq => hz2 q (own_typed (hx7.out) hR.out.Z (by decide) q hq))
        have hbz : Below g0 w Z := hR.out.B.trans (hz4 _ (Nat.le_of_lt hgz))
        exact bodyPost_ret (v := .tuple #[wval (.slice ua os.length uc) n s a k f et l sn (.slice q5 (stay n et L).length c5), (.slice xa (done n et L).length xc)]) (by simp [results, Try.results43, go_sem, e0, e1, e2, e3, e4, e5, e6, e7, e8, e9, e10, e11, e12]) rfl ⟨_, _, _, hr'.out, rfl, hv9, by rw [hrr.out, hg0.out]; exact hx9, by rw [hg0.out]; exact hbz⟩
  | false =>
    go_upto_region 9 with fail
    refine world_gen (fun Y => Hid (RT w Y g0 gz B (.slice ua os.length uc) n s a k f m l sn (.slice va L.length vc) L) ∧ Hid (Evk Y X.heap.size ⟨et, ek, ev, el⟩) ∧ Hid (OpsIn Y (.slice ua os.length uc) os)) ⟨hR.out.alloc _, evk_new X ⟨et, ek, ev, el⟩, hO.out.below (below_alloc _ _)⟩ ?_
    clear d0 d1 d2 d3 d4 d5 d6 d7 d8 d9 d10 d11 d12 hR hI hO c0 c1 c2 c3 c4
    rintro Y ⟨hR, hE, hO⟩
    generalize X.heap.size = ge at hE ⊢
    have hrow := row_event (p := ⟨os, n, s, a, k, f⟩) (r := ⟨m, l, sn, L⟩) (i := ⟨false, ⟨et, ek, ev, el⟩⟩) rfl
    have hrow' : Hid (rowR ⟨os, n, s, a, k, f⟩ ⟨m, l, sn, L⟩ ⟨false, ⟨et, ek, ev, el⟩⟩ = []) := hrow
    clear hrow
    obtain ⟨c0, c1, c2, c3⟩ := hE.out.c
    simp only at c0 c1 c2 c3
    obtain ⟨d0, d1, d2, d3, d4, d5, d6, d7, d8, d9, d10, d11, d12⟩ := hR.out.W.c
    by_cases h1 : et < 0
    · have hd1 : decide (et < 0) = true := decide_eq_true h1
      have hst : Hid _ := step_none (p := ⟨os, n, s, a, k, f⟩) (r := ⟨m, l, sn, L⟩) (i := ⟨false, ⟨et, ek, ev, el⟩⟩) rfl (decide_eq_false (by show ¬ (0 ≤ et ∧ et ≤ 1099511627776); omega))
      go_upto_region 10 with fail
      clear d0 d1 d2 d3 d4 d5 d6 d7 d8 d9 d10 d11 d12
      obtain ⟨d0, d1, d2, d3, d4, d5, d6, d7, d8, d9, d10, d11, d12⟩ := hR.out.W.c
      obtain ⟨e0, e1, e2, e3, e4, e5, e6, e7, e8, e9, e10, e11, e12⟩ := hR.out.Z.c
      have f0 := hR.out.Z.free 0
      have f1 := hR.out.Z.free 1
      have f2 := hR.out.Z.free 2
      have f3 := hR.out.Z.free 3
      have f4 := hR.out.Z.free 4
      have f5 := hR.out.Z.free 5
      have f6 := hR.out.Z.free 6
      have f7 := hR.out.Z.free 7
      have f8 := hR.out.Z.free 8
      have f9 := hR.out.Z.free 9
      have f10 := hR.out.Z.free 10
      have f11 := hR.out.Z.free 11
      have f12 := hR.out.Z.free 12
      go_wp2_with fail
      have hall := wk_all hR.out.Z (.slice ua os.length uc) (.slice va L.length vc) n s a k f m l sn
      clear d0 d1 d2 d3 d4 d5 d6 d7 d8 d9 d10 d11 d12 e0 e1 e2 e3 e4 e5 e6 e7 e8 e9 e10 e11 e12 f0 f1 f2 f3 f4 f5 f6 f7 f8 f9 f10 f11 f12
      generalize ((((((((((((Y.setCell ⟨gz, 0, none⟩ (.slice ua os.length uc)).setCell ⟨gz, 1, none⟩ (.int .i64 n)).setCell ⟨gz, 2, none⟩ (.int .i64 s)).setCell ⟨gz, 3, none⟩ (.int .i64 a)).setCell ⟨gz, 4, none⟩ (.int .i64 k)).setCell ⟨gz, 5, none⟩ (.int .i64 f)).setCell ⟨gz, 6, none⟩ (.int .i64 m)).setCell ⟨gz, 7, none⟩ (.int .i64 l)).setCell ⟨gz, 8, none⟩ (.int .i64 sn)).setCell ⟨gz, 9, none⟩ (.int .i64 n)).setCell ⟨gz, 10, none⟩ (.int .i64 s)).setCell ⟨gz, 11, none⟩ (.int .i64 a)).setCell ⟨gz, 12, none⟩ (.slice va L.length vc) = Z at hall ⊢
      obtain ⟨hz1, hz2, hz3, hz4⟩ := hall
      obtain ⟨e0, e1, e2, e3, e4, e5, e6, e7, e8, e9, e10, e11, e12⟩ := hz1.c
      have hgz := hR.out.lt
      have hv9 := own_blk hR.out.V (Nat.le_of_eq hz3.symm) (fun q hq => hz2 q (own_typed hR.out.V hR.out.Z (by decide) q hq))
      have hx9 := own_blk (World.ownsRow_nil Y g0 39 5) (Nat.le_of_eq hz3.symm) (fun q hq => hz2 q (own_typed (World.ownsRow_nil Y g0 39 5) hR.out.Z (by decide) q hq))
      have hbz : Below g0 w Z := hR.out.B.trans (hz4 _ (Nat.le_of_lt hgz))
      exact bodyPost_ret (v := .tuple #[wval (.slice ua os.length uc) n s a k f m l sn (.slice va L.length vc), (.slice none 0 0)]) (by simp [results, Try.results43, go_sem, e0, e1, e2, e3, e4, e5, e6, e7, e8, e9, e10, e11, e12]) rfl ⟨_, _, _, hst.out, rfl, hv9, by rw [hrow'.out, hg0.out]; exact hx9, by rw [hg0.out]; exact hbz⟩
    · have hd1 : decide (et < 0) = false := decide_eq_false h1
      by_cases h2 : 1099511627776 < et
      · have hd2 : decide (1099511627776 < et) = true := decide_eq_true h2
        have hst : Hid _ := step_none (p := ⟨os, n, s, a, k, f⟩) (r := ⟨m, l, sn, L⟩) (i := ⟨false, ⟨et, ek, ev, el⟩⟩) rfl (decide_eq_false (by show ¬ (0 ≤ et ∧ et ≤ 1099511627776); omega))
        go_upto_region 10 with fail
        clear d0 d1 d2 d3 d4 d5 d6 d7 d8 d9 d10 d11 d12
        obtain ⟨d0, d1, d2, d3, d4, d5, d6, d7, d8, d9, d10, d11, d12⟩ := hR.out.W.c
        obtain ⟨e0, e1, e2, e3, e4, e5, e6, e7, e8, e9, e10, e11, e12⟩ := hR.out.Z.c
        have f0 := hR.out.Z.free 0
        have f1 := hR.out.Z.free 1
        have f2 := hR.out.Z.free 2
        have f3 := hR.out.Z.free 3
        have f4 := hR.out.Z.free 4
        have f5 := hR.out.Z.free 5
        have f6 := hR.out.Z.free 6
        have f7 := hR.out.Z.free 7
        have f8 := hR.out.Z.free 8
        have f9 := hR.out.Z.free 9
        have f10 := hR.out.Z.free 10
        have f11 := hR.out.Z.free 11
        have f12 := hR.out.Z.free 12
        go_wp2_with fail
        have hall := wk_all hR.out.Z (.slice ua os.length uc) (.slice va L.length vc) n s a k f m l sn
        clear d0 d1 d2 d3 d4 d5 d6 d7 d8 d9 d10 d11 d12 e0 e1 e2 e3 e4 e5 e6 e7 e8 e9 e10 e11 e12 f0 f1 f2 f3 f4 f5 f6 f7 f8 f9 f10 f11 f12
        generalize ((((((((((((Y.setCell ⟨gz, 0, none⟩ (.slice ua os.length uc)).setCell ⟨gz, 1, none⟩ (.int .i64 n)).setCell ⟨gz, 2, none⟩ (.int .i64 s)).setCell ⟨gz, 3, none⟩ (.int .i64 a)).setCell ⟨gz, 4, none⟩ (.int .i64 k)).setCell ⟨gz, 5, none⟩ (.int .i64 f)).setCell ⟨gz, 6, none⟩ (.int .i64 m)).setCell ⟨gz, 7, none⟩ (.int .i64 l)).setCell ⟨gz, 8, none⟩ (.int .i64 sn)).setCell ⟨gz, 9, none⟩ (.int .i64 n)).setCell ⟨gz, 10, none⟩ (.int .i64 s)).setCell ⟨gz, 11, none⟩ (.int .i64 a)).setCell ⟨gz, 12, none⟩ (.slice va L.length vc) = Z at hall ⊢
        obtain ⟨hz1, hz2, hz3, hz4⟩ := hall
        obtain ⟨e0, e1, e2, e3, e4, e5, e6, e7, e8, e9, e10, e11, e12⟩ := hz1.c
        have hgz := hR.out.lt
        have hv9 := own_blk hR.out.V (Nat.le_of_eq hz3.symm) (fun q hq => hz2 q (own_typed hR.out.V hR.out.Z (by decide) q hq))
        have hx9 := own_blk (World.ownsRow_nil Y g0 39 5) (Nat.le_of_eq hz3.symm) (fun q hq => hz2 q (own_typed (World.ownsRow_nil Y g0 39 5) hR.out.Z (by decide) q hq))
        have hbz : Below g0 w Z := hR.out.B.trans (hz4 _ (Nat.le_of_lt hgz))
        exact bodyPost_ret (v := .tuple #[wval (.slice ua os.length uc) n s a k f m l sn (.slice va L.length vc), (.slice none 0 0)]) (by simp [results, Try.results43, go_sem, e0, e1, e2, e3, e4, e5, e6, e7, e8, e9, e10, e11, e12]) rfl ⟨_, _, _, hst.out, rfl, hv9, by rw [hrow'.out, hg0.out]; exact hx9, by rw [hg0.out]; exact hbz⟩
      · have hd2 : decide (1099511627776 < et) = false := decide_eq_false h2
        have hok : okT et = true := decide_eq_true (by omega)
        have hwn : wrap64 (sn + 1) = sn + 1 := wrap_ok hsn.1 hsn.2
        have hwl : wrap64 (l + 1) = l + 1 := wrap_ok hlt.1 hlt.2
        have f8 := hR.out.W.free 8
        have hgeY : ge < Y.heap.size := hE.out.lt
        have hgne : ge ≠ g0 := by
          intro e; subst e
          have h1 := hE.out; have h2 := hR.out.W
          unfold Evk at h1; unfold Wk at h2
          rw [h1] at h2; simp at h2
        go_upto_region 12 with fail
        refine world_gen (fun Y2 => Hid (RT w Y2 g0 gz B (.slice ua os.length uc) n s a k f m l (sn + 1) (.slice va L.length vc) L) ∧ Hid (Evk Y2 ge ⟨et, ek, ev, el⟩) ∧ Hid (OpsIn Y2 (.slice ua os.length uc) os)) ⟨?h1, ?h2, ?h3⟩ ?_
        case h1 => first | exact hR.out.s' (sn + 1) | (rw [hwn]; exact hR.out.s' (sn + 1))
        case h2 => exact hE.out.keep (keep_set hgne)
        case h3 => exact hO.out.keep (fun q hq _ => keep_set (own_typed hO.out.1 hR.out.W (by decide) q hq))
        clear d0 d1 d2 d3 d4 d5 d6 d7 d8 d9 d10 d11 d12 f8 hR hE hO c0 c1 c2 c3
        rintro Y2 ⟨hR, hE, hO⟩
        obtain ⟨c0, c1, c2, c3⟩ := hE.out.c
        simp only at c0 c1 c2 c3
        obtain ⟨d0, d1, d2, d3, d4, d5, d6, d7, d8, d9, d10, d11, d12⟩ := hR.out.W.c
        by_cases h3 : et < m
        · have hd3 : decide (et < m) = true := decide_eq_true h3
          have hst : Hid _ := step_late (p := ⟨os, n, s, a, k, f⟩) (r := ⟨m, l, sn, L⟩) (i := ⟨false, ⟨et, ek, ev, el⟩⟩) rfl hok h3
          have f7 := hR.out.W.free 7
          go_upto_region 14 with fail
          refine world_gen (fun Y3 => Hid (RT w Y3 g0 gz B (.slice ua os.length uc) n s a k f m (l + 1) (sn + 1) (.slice va L.length vc) L)) ?_ ?_
          · first | exact hR.out.l' (l + 1) | (rw [hwl]; exact hR.out.l' (l + 1))
          clear d0 d1 d2 d3 d4 d5 d6 d7 d8 d9 d10 d11 d12 f7 hR hE hO c0 c1 c2 c3
          rintro Y3 hR
          obtain ⟨d0, d1, d2, d3, d4, d5, d6, d7, d8, d9, d10, d11, d12⟩ := hR.out.W.c
          obtain ⟨e0, e1, e2, e3, e4, e5, e6, e7, e8, e9, e10, e11, e12⟩ := hR.out.Z.c
          have f0 := hR.out.Z.free 0
          have f1 := hR.out.Z.free 1
          have f2 := hR.out.Z.free 2
          have f3 := hR.out.Z.free 3
          have f4 := hR.out.Z.free 4
          have f5 := hR.out.Z.free 5
          have f6 := hR.out.Z.free 6
          have f7 := hR.out.Z.free 7
          have f8 := hR.out.Z.free 8
          have f9 := hR.out.Z.free 9
          have f10 := hR.out.Z.free 10
          have f11 := hR.out.Z.free 11
          have f12 := hR.out.Z.free 12
          go_wp2_with fail
          have hall := wk_all hR.out.Z (.slice ua os.length uc) (.slice va L.length vc) n s a k f m (l + 1) (sn + 1)
          clear d0 d1 d2 d3 d4 d5 d6 d7 d8 d9 d10 d11 d12 e0 e1 e2 e3 e4 e5 e6 e7 e8 e9 e10 e11 e12 f0 f1 f2 f3 f4 f5 f6 f7 f8 f9 f10 f11 f12
          generalize ((((((((((((Y3.setCell ⟨gz, 0, none⟩ (.slice ua os.length uc)).setCell ⟨gz, 1, none⟩ (.int .i64 n)).setCell ⟨gz, 2, none⟩ (.int .i64 s)).setCell ⟨gz, 3, none⟩ (.int .i64 a)).setCell ⟨gz, 4, none⟩ (.int .i64 k)).setCell ⟨gz, 5, none⟩ (.int .i64 f)).setCell ⟨gz, 6, none⟩ (.int .i64 m)).setCell ⟨gz, 7, none⟩ (.int .i64 (l + 1))).setCell ⟨gz, 8, none⟩ (.int .i64 (sn + 1))).setCell ⟨gz, 9, none⟩ (.int .i64 n)).setCell ⟨gz, 10, none⟩ (.int .i64 s)).setCell ⟨gz, 11, none⟩ (.int .i64 a)).setCell ⟨gz, 12, none⟩ (.slice va L.length vc) = Z at hall ⊢
          obtain ⟨hz1, hz2, hz3, hz4⟩ := hall
          obtain ⟨e0, e1, e2, e3, e4, e5, e6, e7, e8, e9, e10, e11, e12⟩ := hz1.c
          have hgz := hR.out.lt
          have hv9 := own_blk hR.out.V (Nat.le_of_eq hz3.symm) (fun q hq => hz2 q (own_typed hR.out.V hR.out.Z (by decide) q hq))
          have hx9 := own_blk (World.ownsRow_nil Y3 g0 39 5) (Nat.le_of_eq hz3.symm) (fun q hq => hz2 q (own_typed (World.ownsRow_nil Y3 g0 39 5) hR.out.Z (by decide) q hq))
          have hbz : Below g0 w Z := hR.out.B.trans (hz4 _ (Nat.le_of_lt hgz))
          exact bodyPost_ret (v := .tuple #[wval (.slice ua os.length uc) n s a k f m (l + 1) (sn + 1) (.slice va L.length vc), (.slice none 0 0)]) (by simp [results, Try.results43, go_sem, e0, e1, e2, e3, e4, e5, e6, e7, e8, e9, e10, e11, e12]) rfl ⟨_, _, _, hst.out, rfl, hv9, by rw [hrow'.out, hg0.out]; exact hx9, by rw [hg0.out]; exact hbz⟩
        · have hd3 : decide (et < m) = false := decide_eq_false h3
          have hmo : Hid (¬ et < m) := h3
          clear h3
          cases hx : runE os ⟨et, ek, ev, el⟩ with
          | none =>
            have hst : Hid _ := step_drop (p := ⟨os, n, s, a, k, f⟩) (r := ⟨m, l, sn, L⟩) (i := ⟨false, ⟨et, ek, ev, el⟩⟩) rfl hok hmo.out hx
            have hrun := runE_none hx
            clear hx
            go_wp2_with fail
            refine (O.rrun_is et ek ev el (.slice ua os.length uc) os _ _ hO.out.rd hrun).mono ?_
            rintro e W6 ⟨rfl, b6⟩
            have hR6 : Hid (RT w W6 g0 gz B (.slice ua os.length uc) n s a k f m l (sn + 1) (.slice va L.length vc) L) := hR.out.call b6
            clear hR hE hO b6 hrun c0 c1 c2 c3 d0 d1 d2 d3 d4 d5 d6 d7 d8 d9 d10 d11 d12
            go_upto_region 18 with fail
            refine world_gen (fun Y3 => Hid (RT w Y3 g0 gz B (.slice ua os.length uc) n s a k f m l (sn + 1) (.slice va L.length vc) L)) (hR6.out.alloc _) ?_
            clear hR6
            rintro Y3 hR
            obtain ⟨d0, d1, d2, d3, d4, d5, d6, d7, d8, d9, d10, d11, d12⟩ := hR.out.W.c
            obtain ⟨e0, e1, e2, e3, e4, e5, e6, e7, e8, e9, e10, e11, e12⟩ := hR.out.Z.c
            have f0 := hR.out.Z.free 0
            have f1 := hR.out.Z.free 1
            have f2 := hR.out.Z.free 2
            have f3 := hR.out.Z.free 3
            have f4 := hR.out.Z.free 4
            have f5 := hR.out.Z.free 5
            have f6 := hR.out.Z.free 6
            have f7 := hR.out.Z.free 7
            have f8 := hR.out.Z.free 8
            have f9 := hR.out.Z.free 9
            have f10 := hR.out.Z.free 10
            have f11 := hR.out.Z.free 11
            have f12 := hR.out.Z.free 12
            go_wp2_with fail
            have hall := wk_all hR.out.Z (.slice ua os.length uc) (.slice va L.length vc) n s a k f m l (sn + 1)
            clear d0 d1 d2 d3 d4 d5 d6 d7 d8 d9 d10 d11 d12 e0 e1 e2 e3 e4 e5 e6 e7 e8 e9 e10 e11 e12 f0 f1 f2 f3 f4 f5 f6 f7 f8 f9 f10 f11 f12
            generalize ((((((((((((Y3.setCell ⟨gz, 0, none⟩ (.slice ua os.length uc)).setCell ⟨gz, 1, none⟩ (.int .i64 n)).setCell ⟨gz, 2, none⟩ (.int .i64 s)).setCell ⟨gz, 3, none⟩ (.int .i64 a)).setCell ⟨gz, 4, none⟩ (.int .i64 k)).setCell ⟨gz, 5, none⟩ (.int .i64 f)).setCell ⟨gz, 6, none⟩ (.int .i64 m)).setCell ⟨gz, 7, none⟩ (.int .i64 l)).setCell ⟨gz, 8, none⟩ (.int .i64 (sn + 1))).setCell ⟨gz, 9, none⟩ (.int .i64 n)).setCell ⟨gz, 10, none⟩ (.int .i64 s)).setCell ⟨gz, 11, none⟩ (.int .i64 a)).setCell ⟨gz, 12, none⟩ (.slice va L.length vc) = Z at hall ⊢
            obtain ⟨hz1, hz2, hz3, hz4⟩ := hall
            obtain ⟨e0, e1, e2, e3, e4, e5, e6, e7, e8, e9, e10, e11, e12⟩ := hz1.c
            have hgz := hR.out.lt
            have hv9 := own_blk hR.out.V (Nat.le_of_eq hz3.symm) (fun q hq => hz2 q (own_typed hR.out.V hR.out.Z (by decide) q hq))
            have hx9 := own_blk (World.ownsRow_nil Y3 g0 39 5) (Nat.le_of_eq hz3.symm) (fun q hq => hz2 q (own_typed (World.ownsRow_nil Y3 g0 39 5) hR.out.Z (by decide) q hq))
            have hbz : Below g0 w Z := hR.out.B.trans (hz4 _ (Nat.le_of_lt hgz))
            exact bodyPost_ret (v := .tuple #[wval (.slice ua os.length uc) n s a k f m l (sn + 1) (.slice va L.length vc), (.slice none 0 0)]) (by simp [results, Try.results43, go_sem, e0, e1, e2, e3, e4, e5, e6, e7, e8, e9, e10, e11, e12]) rfl ⟨_, _, _, hst.out, rfl, hv9, by rw [hrow'.out, hg0.out]; exact hx9, by rw [hg0.out]; exact hbz⟩
          | some x =>
            have hst : Hid _ := step_put (p := ⟨os, n, s, a, k, f⟩) (r := ⟨m, l, sn, L⟩) (i := ⟨false, ⟨et, ek, ev, el⟩⟩) rfl hok hmo.out hx
            obtain ⟨hrun, hxt, hxl⟩ := runE_some hx
            obtain ⟨xt, xk, xv, xl⟩ := x
            simp only at hrun hxt hxl
            have hxl' : Hid (xl < 18446744073709551616) := by
              have h : xl < 18446744073709551616 := by rw [hxl]; exact hel'.out
              exact h
            clear hx hxt hxl
            go_wp2_with fail
            refine (O.rrun_is et ek ev el (.slice ua os.length uc) os _ _ hO.out.rd hrun).mono ?_
            rintro e W6 ⟨rfl, b6⟩
            have hR6 : Hid (RT w W6 g0 gz B (.slice ua os.length uc) n s a k f m l (sn + 1) (.slice va L.length vc) L) := hR.out.call b6
            clear hR hE hO b6 hrun c0 c1 c2 c3 d0 d1 d2 d3 d4 d5 d6 d7 d8 d9 d10 d11 d12
            go_upto_region 17 with fail
            refine world_gen (fun Y3 => Hid (RT w Y3 g0 gz B (.slice ua os.length uc) n s a k f m l (sn + 1) (.slice va L.length vc) L) ∧ Hid (Evk Y3 W6.heap.size ⟨xt, xk, xv, xl⟩)) ⟨hR6.out.alloc _, evk_new W6 ⟨xt, xk, xv, xl⟩⟩ ?_
            clear hR6
            rintro Y3 ⟨hR, hE⟩
            generalize W6.heap.size = g8 at hE ⊢
            obtain ⟨c0, c1, c2, c3⟩ := hE.out.c
            simp only at c0 c1 c2 c3
            obtain ⟨d0, d1, d2, d3, d4, d5, d6, d7, d8, d9, d10, d11, d12⟩ := hR.out.W.c
            have hYz : B ≤ Y3.heap.size := by have h := hR.out.W.lt; omega
            go_wp2_with fail
            refine (rput_is n s a (.slice va L.length vc) L xt xk xv xl B _ hR.out.V hYz hl hcn'.out hxl'.out).mono ?_
            rintro e W7 ⟨u7, rfl, hu7, b7⟩
            obtain ⟨pa, pc, rfl⟩ := own_len hu7
            have hR7 : Hid (RT w W7 g0 gz B (.slice ua os.length uc) n s a k f m l (sn + 1) (.slice va L.length vc) L) := hR.out.call b7
            have hu8 : Hid (W7.ownsRow B 141 5 (.slice pa (putE n s a L ⟨xt, xk, xv, xl⟩).length pc) (putE n s a L ⟨xt, xk, xv, xl⟩).length (qcs (putE n s a L ⟨xt, xk, xv, xl⟩))) := hu7
            clear hR hE hu7 b7 c0 c1 c2 c3 d0 d1 d2 d3 d4 d5 d6 d7 d8 d9 d10 d11 d12
            have f9 := hR7.out.W.free 9
            have f10 := hR7.out.W.free 10
            have f11 := hR7.out.W.free 11
            have f12 := hR7.out.W.free 12
            obtain ⟨d0, d1, d2, d3, d4, d5, d6, d7, d8, d9, d10, d11, d12⟩ := hR7.out.W.c
            go_upto_region 18 with fail
            refine world_gen (fun Y4 => Hid (RT w Y4 g0 gz B (.slice ua os.length uc) n s a k f m l (sn + 1) (.slice pa (putE n s a L ⟨xt, xk, xv, xl⟩).length pc) (putE n s a L ⟨xt, xk, xv, xl⟩))) (hR7.out.p' hu8.out) ?_
            clear d0 d1 d2 d3 d4 d5 d6 d7 d8 d9 d10 d11 d12 f9 f10 f11 f12 hR7 hu8
            rintro Y4 hR
            obtain ⟨d0, d1, d2, d3, d4, d5, d6, d7, d8, d9, d10, d11, d12⟩ := hR.out.W.c
            obtain ⟨e0, e1, e2, e3, e4, e5, e6, e7, e8, e9, e10, e11, e12⟩ := hR.out.Z.c
            have f0 := hR.out.Z.free 0
            have f1 := hR.out.Z.free 1
            have f2 := hR.out.Z.free 2
            have f3 := hR.out.Z.free 3
            have f4 := hR.out.Z.free 4
            have f5 := hR.out.Z.free 5
            have f6 := hR.out.Z.free 6
            have f7 := hR.out.Z.free 7
            have f8 := hR.out.Z.free 8
            have f9 := hR.out.Z.free 9
            have f10 := hR.out.Z.free 10
            have f11 := hR.out.Z.free 11
            have f12 := hR.out.Z.free 12
            go_wp2_with fail
            have hall := wk_all hR.out.Z (.slice ua os.length uc) (.slice pa (putE n s a L ⟨xt, xk, xv, xl⟩).length pc) n s a k f m l (sn + 1)
            clear d0 d1 d2 d3 d4 d5 d6 d7 d8 d9 d10 d11 d12 e0 e1 e2 e3 e4 e5 e6 e7 e8 e9 e10 e11 e12 f0 f1 f2 f3 f4 f5 f6 f7 f8 f9 f10 f11 f12
            generalize ((((((((((((Y4.setCell ⟨gz, 0, none⟩ (.slice ua os.length uc)).setCell ⟨gz, 1, none⟩ (.int .i64 n)).setCell ⟨gz, 2, none⟩ (.int .i64 s)).setCell ⟨gz, 3, none⟩ (.int .i64 a)).setCell ⟨gz, 4, none⟩ (.int .i64 k)).setCell ⟨gz, 5, none⟩ (.int .i64 f)).setCell ⟨gz, 6, none⟩ (.int .i64 m)).setCell ⟨gz, 7, none⟩ (.int .i64 l)).setCell ⟨gz, 8, none⟩ (.int .i64 (sn + 1))).setCell ⟨gz, 9, none⟩ (.int .i64 n)).setCell ⟨gz, 10, none⟩ (.int .i64 s)).setCell ⟨gz, 11, none⟩ (.int .i64 a)).setCell ⟨gz, 12, none⟩ (.slice pa (putE n s a L ⟨xt, xk, xv, xl⟩).length pc) = Z at hall ⊢
            obtain ⟨hz1, hz2, hz3, hz4⟩ := hall
            obtain ⟨e0, e1, e2, e3, e4, e5, e6, e7, e8, e9, e10, e11, e12⟩ := hz1.c
            have hgz := hR.out.lt
            have hv9 := own_blk hR.out.V (Nat.le_of_eq hz3.symm) (fun q hq => hz2 q (own_typed hR.out.V hR.out.Z (by decide) q hq))
            have hx9 := own_blk (World.ownsRow_nil Y4 g0 39 5) (Nat.le_of_eq hz3.symm) (fun q hq => hz2 q (own_typed (World.ownsRow_nil Y4 g0 39 5) hR.out.Z (by decide) q hq))
            have hbz : Below g0 w Z := hR.out.B.trans (hz4 _ (Nat.le_of_lt hgz))
            exact bodyPost_ret (v := .tuple #[wval (.slice ua os.length uc) n s a k f m l (sn + 1) (.slice pa (putE n s a L ⟨xt, xk, xv, xl⟩).length pc), (.slice none 0 0)]) (by simp [results, Try.results43, go_sem, e0, e1, e2, e3, e4, e5, e6, e7, e8, e9, e10, e11, e12]) rfl ⟨_, _, _, hst.out, rfl, hv9, by rw [hrow'.out, hg0.out]; exact hx9, by rw [hg0.out]; exact hbz⟩
end Go.Proofs.Ytnamjnopicghhaa
