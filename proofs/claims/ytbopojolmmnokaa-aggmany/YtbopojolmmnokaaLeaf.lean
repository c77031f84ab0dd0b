/- What the methods of an aggregate do to its three cells; New, Right; cordonbook.Within. -/
import Derived.Test.YtbopojolmmnokaaRows
import Derived.Test.YtbopojolmmnokaaMath
import Derived.WalkKit
import Derived.WalkSpells
import Derived.WalkLawsBesides
import Derived.Below
namespace Go.Proofs.Ytbopojolmmnokaa
open Go.RowKit M
set_option linter.unusedVariables false

theorem ret_int {k : IntKind} {a b : Int} (h : a = b) : Ending.returned (.int k a) = .returned (.int k b) := by rw [h]
theorem ret_bool {a b : Bool} (h : a = b) : Ending.returned (.bool a) = .returned (.bool b) := by rw [h]
theorem val_int {k : IntKind} {a b : Int} (h : a = b) : Value.int k a = .int k b := by rw [h]

/-- An aggregate as a value: its Count (its Tally's), its Kind, its Value. -/
def av (c k v : Int) : Value := .agg #[.int .i64 c, .int .i64 k, .int .i64 v]
def ak (c k v : Int) : Array Value := #[.int .i64 c, .int .i64 k, .int .i64 v]
/-- An aggregate's block. -/
def Agk (w : World) (b : Nat) (c k v : Int) : Prop := w.heap[b]? = some (.cells (ak c k v) 25 (0, 0))
theorem Agk.c0 {w : World} {b : Nat} {c k v : Int} (h : Agk w b c k v) : w.cell? ⟨b, 0, none⟩ = some (.int .i64 c) := by
  unfold Agk ak at h; simp [World.cell?, h]
theorem Agk.c1 {w : World} {b : Nat} {c k v : Int} (h : Agk w b c k v) : w.cell? ⟨b, 1, none⟩ = some (.int .i64 k) := by
  unfold Agk ak at h; simp [World.cell?, h]
theorem Agk.c2 {w : World} {b : Nat} {c k v : Int} (h : Agk w b c k v) : w.cell? ⟨b, 2, none⟩ = some (.int .i64 v) := by
  unfold Agk ak at h; simp [World.cell?, h]
theorem Agk.free {w : World} {b : Nat} {c k v : Int} (h : Agk w b c k v) (i : Nat) : w.frozen? ⟨b, i, none⟩ = false := by
  unfold Agk at h; simp [World.frozen?, h]
theorem Agk.lt {w : World} {b : Nat} {c k v : Int} (h : Agk w b c k v) : b < w.heap.size := (Array.getElem?_eq_some_iff.1 h).1
theorem Agk.below {w w' : World} {b B : Nat} {c k v : Int} (h : Agk w b c k v) (hb : Below B w w') (hB : b < B) : Agk w' b c k v := (hb.block b hB).trans h
theorem agk_make (w : World) (c k v : Int) : Agk (w.alloc (.cells #[.int .i64 c, .int .i64 k, .int .i64 v] 25)) w.heap.size c k v := by
  show (w.heap.push _)[w.heap.size]? = _
  simp [ak]
theorem Agk.set0 {w : World} {b : Nat} {c k v : Int} (h : Agk w b c k v) (x : Int) : Agk (w.setCell ⟨b, 0, none⟩ (.int .i64 x)) b x k v := by
  unfold Agk at *; simp [World.setCell, Array.getElem?_modify, h, ak]
theorem Agk.set1 {w : World} {b : Nat} {c k v : Int} (h : Agk w b c k v) (x : Int) : Agk (w.setCell ⟨b, 1, none⟩ (.int .i64 x)) b c x v := by
  unfold Agk at *; simp [World.setCell, Array.getElem?_modify, h, ak]
theorem Agk.set2 {w : World} {b : Nat} {c k v : Int} (h : Agk w b c k v) (x : Int) : Agk (w.setCell ⟨b, 2, none⟩ (.int .i64 x)) b c k x := by
  unfold Agk at *; simp [World.setCell, Array.getElem?_modify, h, ak]

/-- Of what was there nothing but block b has turned. -/
structure But (b : Nat) (w w' : World) : Prop where
  below : Below b w w'
  size : w.heap.size ≤ w'.heap.size
  other : ∀ g, g < w.heap.size → g ≠ b → w'.heap[g]? = w.heap[g]?
theorem But.refl (b : Nat) (w : World) : But b w w := ⟨Below.refl _ _, Nat.le_refl _, fun _ _ _ => rfl⟩
theorem But.set {b : Nat} {a w : World} (h : But b a w) (i : Nat) (u : Value) : But b a (w.setCell ⟨b, i, none⟩ u) :=
  ⟨h.below.setCell (Nat.le_refl _) u, by simpa [World.setCell] using h.size, fun g hl hg => (Below.heap_setCell _ _ _ _ hg).trans (h.other g hl hg)⟩
theorem But.trans {b : Nat} {w w' w'' : World} (h : But b w w') (h2 : But b w' w'') : But b w w'' :=
  ⟨h.below.trans h2.below, Nat.le_trans h.size h2.size, fun g hl hg => (h2.other g (Nat.lt_of_lt_of_le hl h.size) hg).trans (h.other g hl hg)⟩
theorem But.cell {b : Nat} {w w' : World} (h : But b w w') {p : Addr} (hl : p.block < w.heap.size) (hp : p.block ≠ b) : w'.cell? p = w.cell? p := World.cell?_of_block (w := w) (h.other p.block hl hp)
theorem But.agk {b g : Nat} {w w' : World} {c k v : Int} (h : But b w w') (hc : Agk w g c k v) (hg : g ≠ b) : Agk w' g c k v := (h.other g hc.lt hg).trans hc
theorem But.ofBelow {b : Nat} {w w' : World} (hb : b ≤ w.heap.size) (h : Below w.heap.size w w') : But b w w' :=
  ⟨h.mono hb, h.size, fun g hl _ => h.block g hl⟩

theorem tick_any (b : Nat) (c n c' : Int) (w : World) (h0 : w.cell? ⟨b, 0, none⟩ = some (.int .i64 c)) (hf : w.frozen? ⟨b, 0, none⟩ = false) (hc : wrap64 (c + n) = c') :
    Calls Try.prog 17 #[.pointer (some ⟨b, 0, none⟩), .int .i64 n] w fun e w' => e = .returned (.tuple #[]) ∧ w' = w.setCell ⟨b, 0, none⟩ (.int .i64 c') := by
  subst hc
  go_enter Try.func17, Try.ntmps17
  go_wp2
  go_end0
  exact ⟨rfl, rfl⟩

set_option maxRecDepth 100000 in
/-- join, of n values that come to x. -/
theorem join_any (b : Nat) (c k v x n v' c' : Int) (w : World) (hc : Agk w b c k v) (hv : jv k c v x = v') (hcc0 : wrap64 (c + n) = c') :
    Calls Try.prog 18 #[.pointer (some ⟨b, 0, none⟩), .int .i64 x, .int .i64 n] w fun e w' => e = .returned (.tuple #[]) ∧ Agk w' b c' k v' ∧ But b w w' := by
  have c0 := hc.c0
  have c1 := hc.c1
  have c2 := hc.c2
  have f2 := hc.free 2
  have hcc : Hid (wrap64 (c + n) = c') := hcc0
  clear hcc0
  rcases kinds k with rfl | rfl | rfl | rfl | ⟨h1, h2, h3, h4⟩
  · obtain rfl := (jv_sum 1 c v x (.inl rfl)).symm.trans hv
    have hc2 := hc.set2 (wrap64 (v + x))
    clear hv
    go_enter Try.func18, Try.ntmps18
    go_wp2_with fail
    refine (tick_any b c n c' _ hc2.c0 (hc2.free 0) hcc.out).mono ?_
    rintro e w1 ⟨rfl, rfl⟩
    go_wp2_with fail
    go_end0
    exact ⟨rfl, hc2.set0 _, ((But.refl _ _).set _ _).set _ _⟩
  · obtain rfl := (jv_sum 2 c v x (.inr rfl)).symm.trans hv
    have hc2 := hc.set2 (wrap64 (v + x))
    clear hv
    go_enter Try.func18, Try.ntmps18
    go_wp2_with fail
    refine (tick_any b c n c' _ hc2.c0 (hc2.free 0) hcc.out).mono ?_
    rintro e w1 ⟨rfl, rfl⟩
    go_wp2_with fail
    go_end0
    exact ⟨rfl, hc2.set0 _, ((But.refl _ _).set _ _).set _ _⟩
  · by_cases hz : c = 0
    · have hv2 : Hid (x = v') := (jv_first c v x hz 3 (.inl rfl)).symm.trans hv
      clear hv
      subst hz
      have hc2 := hc.set2 x
      go_enter Try.func18, Try.ntmps18
      go_wp2_with fail
      refine (tick_any b 0 n c' _ hc2.c0 (hc2.free 0) hcc.out).mono ?_
      rintro e w1 ⟨rfl, rfl⟩
      go_wp2_with fail
      go_end0
      rw [← hv2.out]
      exact ⟨rfl, hc2.set0 _, ((But.refl _ _).set _ _).set _ _⟩
    · by_cases hlt : x < v
      · have hv2 : Hid (x = v') := by
          have h : x = v' := by rw [← hv]; unfold jv; rw [if_neg (by decide), if_pos rfl, if_pos (.inr hlt)]
          exact h
        clear hv
        have hc2 := hc.set2 x
        go_enter Try.func18, Try.ntmps18
        go_wp2_with fail
        refine (tick_any b c n c' _ hc2.c0 (hc2.free 0) hcc.out).mono ?_
        rintro e w1 ⟨rfl, rfl⟩
        go_wp2_with fail
        go_end0
        rw [← hv2.out]
        exact ⟨rfl, hc2.set0 _, ((But.refl _ _).set _ _).set _ _⟩
      · have hv2 : Hid (v = v') := by
          have h : v = v' := by rw [← hv]; unfold jv; rw [if_neg (by decide), if_pos rfl, if_neg (by omega)]
          exact h
        clear hv
        go_enter Try.func18, Try.ntmps18
        go_wp2_with fail
        refine (tick_any b c n c' _ hc.c0 (hc.free 0) hcc.out).mono ?_
        rintro e w1 ⟨rfl, rfl⟩
        go_wp2_with fail
        go_end0
        rw [← hv2.out]
        exact ⟨rfl, hc.set0 _, (But.refl _ _).set _ _⟩
  · by_cases hz : c = 0
    · have hv2 : Hid (x = v') := (jv_first c v x hz 4 (.inr rfl)).symm.trans hv
      clear hv
      subst hz
      have hc2 := hc.set2 x
      go_enter Try.func18, Try.ntmps18
      go_wp2_with fail
      refine (tick_any b 0 n c' _ hc2.c0 (hc2.free 0) hcc.out).mono ?_
      rintro e w1 ⟨rfl, rfl⟩
      go_wp2_with fail
      go_end0
      rw [← hv2.out]
      exact ⟨rfl, hc2.set0 _, ((But.refl _ _).set _ _).set _ _⟩
    · by_cases hlt : v < x
      · have hv2 : Hid (x = v') := by
          have h : x = v' := by rw [← hv]; unfold jv; rw [if_neg (by decide), if_neg (by decide), if_pos rfl, if_pos (.inr hlt)]
          exact h
        clear hv
        have hc2 := hc.set2 x
        go_enter Try.func18, Try.ntmps18
        go_wp2_with fail
        refine (tick_any b c n c' _ hc2.c0 (hc2.free 0) hcc.out).mono ?_
        rintro e w1 ⟨rfl, rfl⟩
        go_wp2_with fail
        go_end0
        rw [← hv2.out]
        exact ⟨rfl, hc2.set0 _, ((But.refl _ _).set _ _).set _ _⟩
      · have hv2 : Hid (v = v') := by
          have h : v = v' := by rw [← hv]; unfold jv; rw [if_neg (by decide), if_neg (by decide), if_pos rfl, if_neg (by omega)]
          exact h
        clear hv
        go_enter Try.func18, Try.ntmps18
        go_wp2_with fail
        refine (tick_any b c n c' _ hc.c0 (hc.free 0) hcc.out).mono ?_
        rintro e w1 ⟨rfl, rfl⟩
        go_wp2_with fail
        go_end0
        rw [← hv2.out]
        exact ⟨rfl, hc.set0 _, (But.refl _ _).set _ _⟩
  · have hv2 : Hid (v = v') := (jv_no k c v x h1 h2 h3 h4).symm.trans hv
    clear hv
    go_enter Try.func18, Try.ntmps18
    go_wp2_with fail
    refine (tick_any b c n c' _ hc.c0 (hc.free 0) hcc.out).mono ?_
    rintro e w1 ⟨rfl, rfl⟩
    go_wp2_with fail
    go_end0
    rw [← hv2.out]
    exact ⟨rfl, hc.set0 _, (But.refl _ _).set _ _⟩

/-- agg.New. -/
theorem new_any (k : Int) (w : World) : Calls Try.prog 9 #[.int .i64 k] w fun e w' => e = .returned (.agg #[.int .i64 0, .int .i64 k, .int .i64 0]) ∧ Below w.heap.size w w' := by
  go_enter Try.func9, Try.ntmps9
  go_wp2
  exact bodyPost_ret (v := .agg #[.int .i64 0, .int .i64 k, .int .i64 0]) (by simp [results, Try.results9, go_sem]) rfl ⟨rfl, (Below.refl _ _).alloc (Nat.le_refl _) _⟩
/-- agg.Right. -/
theorem right_is (k : Int) (p : Bool) (w : World) (hp : decide (1 ≤ k ∧ k ≤ 4) = p) : Calls Try.prog 14 #[.int .i64 k] w fun e w' => e = .returned (.bool p) ∧ w' = w := by
  subst hp
  by_cases h1 : 1 ≤ k
  · by_cases h2 : k ≤ 4
    · go_enter Try.func14, Try.ntmps14
      go_wp2
      go_ret
      exact ⟨ret_bool (by simp [h1, h2]), rfl⟩
    · go_enter Try.func14, Try.ntmps14
      go_wp2
      go_ret
      exact ⟨ret_bool (by simp [h2]), rfl⟩
  · go_enter Try.func14, Try.ntmps14
    go_wp2
    go_ret
    exact ⟨ret_bool (by simp; omega), rfl⟩

/-- cordonbook.Within. -/
theorem within_any (n lo hi : Int) (w : World) (hlo : -1000 ≤ lo) (h : lo ≤ hi) (h1 : hi ≤ 4611686018427387904) :
    Calls Try.prog 15 #[.int .i64 n, .int .i64 lo, .int .i64 hi] w fun e w' => (∃ k : Int, lo ≤ k ∧ k ≤ hi ∧ e = .returned (.int .i64 k)) ∧ w' = w := by
  have hb1 : -(hi - lo + 1) < n.tmod (hi - lo + 1) := Int.lt_tmod_of_pos _ (by omega)
  have hb2 : n.tmod (hi - lo + 1) < hi - lo + 1 := Int.tmod_lt_of_pos _ (by omega)
  by_cases hn : n.tmod (hi - lo + 1) < 0
  · go_enter Try.func15, Try.ntmps15
    go_wp2
    go_ret
    exact ⟨⟨lo + (n.tmod (hi - lo + 1) + hi - lo + 1), by omega, by omega, rfl⟩, rfl⟩
  · have hn' : 0 ≤ n.tmod (hi - lo + 1) := by omega
    go_enter Try.func15, Try.ntmps15
    go_wp2
    go_ret
    exact ⟨⟨lo + n.tmod (hi - lo + 1), by omega, by omega, rfl⟩, rfl⟩
end Go.Proofs.Ytbopojolmmnokaa
