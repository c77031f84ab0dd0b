/- What Panes.Open, Len and New answer; the rows of panes. -/
import Derived.Test.YtnamjnopicghhaaPut
namespace Go.Proofs.Ytnamjnopicghhaa
open Go.RowKit M
set_option linter.unusedVariables false
set_option linter.unusedSimpArgs false
attribute [local go_sem ↓] Go.wp_at_zero Go.wp_at_succ

/-- A row as a value, as its five cells. -/
def rv (p : Pn) : Value := .agg #[.int .i64 p.s, .int .i64 p.k, .int .i64 p.v, .int .i64 p.c, .int .u64 p.l]
def rcell (p : Pn) : List Value := [.int .i64 p.s, .int .i64 p.k, .int .i64 p.v, .int .i64 p.c, .int .u64 p.l]
def rcs (L : List Pn) : List Value := L.flatMap rcell
theorem rcs_cons (p : Pn) (r : List Pn) : rcs (p :: r) = rcell p ++ rcs r := by simp [rcs]
theorem rcs_len : ∀ L : List Pn, (rcs L).length = L.length * 5
  | [] => rfl
  | p :: r => by rw [rcs_cons, List.length_append, rcs_len r]; simp [rcell]; omega
theorem rcs_one (L : List Pn) : ∀ u ∈ rcs L, u.oneCell' = true := by
  intro u hu
  simp only [rcs, List.mem_flatMap] at hu
  obtain ⟨e, _, he⟩ := hu
  simp only [rcell, List.mem_cons, List.not_mem_nil, or_false] at he
  rcases he with rfl | rfl | rfl | rfl | rfl <;> rfl
theorem rcs_append (a b : List Pn) : rcs (a ++ b) = rcs a ++ rcs b := by simp [rcs]
theorem rcs_single (p : Pn) : rcs [p] = rcell p := by simp [rcs]
theorem rcs_at : ∀ (L : List Pn) (i r : Nat), r < 5 → i < L.length → (rcs L)[i * 5 + r]? = (rcell (pAt L i))[r]?
  | [], i, r, _, hi => by simp at hi
  | x :: s, 0, r, hr, _ => by rw [rcs_cons, List.getElem?_append_left (by show 0 * 5 + r < 5; omega)]; simp [pAt_zero]
  | x :: s, i + 1, r, hr, hi => by
    have hc : (rcell x).length = 5 := rfl
    rw [rcs_cons, List.getElem?_append_right (by omega), hc, show (i + 1) * 5 + r - 5 = i * 5 + r by omega, rcs_at s i r hr (by simpa using hi), pAt_cons]
theorem take_pn (L : List Pn) (k : Nat) (h : k < L.length) : L.take (k + 1) = L.take k ++ [pAt L k] := by
  rw [List.take_succ_eq_append_getElem h]
  simp [pAt, List.getD_eq_getElem?_getD, h]
def rzero : Value := .agg #[.int .i64 0, .int .i64 0, .int .i64 0, .int .i64 0, .int .u64 0]
theorem Try.info39 : (Try.prog.info? 39).map (fun i => (i.zero, i.size, i.bytes)) = some (some rzero, 5, 40) := by kernel_rfl
set_option maxHeartbeats 1000000 in
/-- pane.row. -/
theorem row_is (K : Int) (p : Pn) (w : World) : Calls Try.prog 62 #[pv K p] w fun e w' => e = .returned (rv p) ∧ Below w.heap.size w w' := by
  unfold pv
  go_enter Try.func62, Try.ntmps62
  go_wp2
  exact bodyPost_ret (v := rv p) (by simp [results, Try.results62, go_sem, rv]) rfl ⟨rfl, ((Below.refl _ _).alloc (Nat.le_refl _) _).alloc (by simp) _⟩
set_option maxHeartbeats 1000000 in
set_option maxRecDepth 100000 in
/-- rows. -/
theorem rows_is (v : Value) (o : Nat) (K : Int) (L : List Pn) (w : World) (hS : Sl w v o K L) (hl : L.length ≤ 1000000) :
    Calls Try.prog 48 #[v] w fun e w' => ∃ u, e = .returned u ∧ w'.ownsRow w.heap.size 39 5 u L.length (rcs L) ∧ Below w.heap.size w w' := by
  obtain ⟨i0, hi, hz0, hz1, hz2⟩ := info_parts Try.info39
  by_cases h0 : L = []
  · have hv : ∃ a c, v = .slice a 0 c := by
      rcases hS with ⟨rfl, _⟩ | ⟨cap, rfl, _⟩
      · exact ⟨none, 0, rfl⟩
      · exact ⟨_, cap, by rw [h0]; rfl⟩
    obtain ⟨a, c, rfl⟩ := hv
    subst h0
    clear hS
    go_enter Try.func48, Try.ntmps48
    go_wp2_with fail
    go_ret
    exact ⟨_, rfl, World.ownsRow_nil _ _ _ _, Below.refl _ _⟩
  · obtain ⟨cap, rfl, hP⟩ : ∃ cap, v = .slice (some ⟨o, 0, none⟩) L.length cap ∧ PRow w o cap K L := by
      rcases hS with ⟨_, h⟩ | h
      · exact absurd h h0
      · exact h
    have hP' : Hid (PRow w o cap K L) := hP
    have hn1 : L.length ≤ cap := by obtain ⟨_, _, h, _⟩ := hP; exact h
    have hn2 : cap ≤ 9223372036854775807 := by obtain ⟨_, _, _, h, _⟩ := hP; unfold maxLen at h; omega
    have hpos : 0 < L.length := List.length_pos_iff.2 h0
    clear hP h0
    obtain ⟨m, hm⟩ : ∃ m, Hid (L.length = m) := ⟨_, rfl⟩
    rw [hm.out] at hn1 hl hpos ⊢
    have hpos2 : ((m : Int) == 0) = false := by simp; omega
    go_enter Try.func48, Try.ntmps48
    go_wp2_with (at_make; refine wpList_make_own _ rfl _ _ 34 rfl w.heap.size 39 i0 rzero 5 Try.underlying34 hi hz0 hz1 _ _ _ m rfl rfl rfl (by rw [hz2]; omega) (by unfold maxLen; omega) (Nat.le_refl _) ?_)
    intro w1 hownA hgrow
    have hb1 : Below w.heap.size w w1 := below_grown_none (Below.refl _ _) hgrow
    clear hgrow
    go_wp2_with fail
    go_loopw [3, 14] (fun u i wr => ∃ j : Nat, j ≤ m ∧ i = .int .i64 j ∧ Hid (wr.ownsRow w.heap.size 39 5 u j (rcs (L.take j))) ∧ Below w.heap.size w wr) (fun _ i _ => m - (intOf i).toNat)
    case atStart => exact ⟨0, Nat.zero_le _, rfl, hownA, hb1⟩
    case round =>
      obtain ⟨j, hj, rfl, hown, hbw⟩ := hrel
      clear hownA
      by_cases hlt : j < m
      · have hjl : j < L.length := by rw [hm.out]; exact hlt
        obtain ⟨c0, c1, c2, c3, c4, c5⟩ := (hP'.out.below hbw).cells j hjl
        have hsn : Hid (rcs (L.take (j + 1)) = rcs (L.take j) ++ rcell (pAt L j)) := by
          have h : rcs (L.take (j + 1)) = rcs (L.take j) ++ rcell (pAt L j) := by rw [take_pn L j hjl, rcs_append, rcs_single]
          exact h
        obtain ⟨p, hp⟩ : ∃ p, Hid (pAt L j = p) := ⟨_, rfl⟩
        rw [hp.out] at c0 c1 c2 c4 c5 hsn
        clear hjl hp
        go_wp2_with fail
        refine (row_is K p _).mono ?_
        rintro e w2 ⟨rfl, hb2⟩
        have hb3 : Below w.heap.size w w2 := (hbw.alloc hbw.size _).trans (hb2.mono (by have := hbw.size; simp; omega))
        have hown2 : Hid (w2.ownsRow w.heap.size 39 5 u3 j (rcs (L.take j))) := own_below (hown.out.alloc _) hb2
        clear hb2 hown c0 c1 c2 c3 c4 c5 hbw
        unfold rv
        go_wp2_with (at_builtin; refine wpList_append_own _ rfl _ _ 34 rfl w.heap.size 39 i0 rzero 5 40 Try.underlying34 hi hz0 hz1 hz2 rfl (by decide) _ _ _ rfl (hown2.out.alloc _) ⟨w2.heap.size, 0, none⟩ 1 1 (rcell p) rfl rfl ?c1 ?c2 ?c3 ?c4 ?c5 ?_)
        case c1 => exact src_cells (cs := (rcell p).toArray) (e := 39) (by show (w2.heap.push _)[w2.heap.size]? = _; simp [rcell])
        case c2 => rw [← rcs_single]; exact rcs_one [p]
        case c3 => unfold maxLen; omega
        case c4 => omega
        case c5 => have := hb3.size; simp; omega
        intro u' w3 hown' hg3 _
        have hb4 : Below w.heap.size w w3 := (hb3.alloc hb3.size _).grown hg3 (by have := hb3.size; simp; omega) (fun k hk => (hown2.out.lt k hk).1)
        have hown3 : Hid (w3.ownsRow w.heap.size 39 5 u' (j + 1) (rcs (L.take (j + 1)))) := by
          have h : w3.ownsRow w.heap.size 39 5 u' (j + 1) (rcs (L.take (j + 1))) := by rw [hsn.out]; exact hown'
          exact h
        clear hown' hg3 hown2 hb3
        go_wp2_with fail
        go_roundw
        case rel => exact ⟨j + 1, by omega, by go_num, hown3, hb4⟩
        case measure => simp [intOf]; omega
      · obtain rfl : j = m := by omega
        have hown3 : Hid (wr.ownsRow w.heap.size 39 5 u3 j (rcs L)) := by
          have h := hown.out
          rw [List.take_of_length_le (by rw [hm.out]; exact Nat.le_refl _)] at h
          exact h
        go_wp2_with fail
        go_ret
        exact ⟨_, rfl, hown3.out, hbw⟩
set_option maxHeartbeats 1000000 in
set_option maxRecDepth 100000 in
/-- Panes.Open. -/
theorem open_is (b o : Nat) (n sl K : Int) (L : List Pn) (w : World) (hP : Pan w b o n sl K L) (hl : L.length ≤ 1000000) :
    Calls Try.prog 29 #[.pointer (some ⟨b, 0, none⟩)] w fun e w' => ∃ u, e = .returned u ∧ w'.ownsRow w.heap.size 39 5 u L.length (rcs L) ∧ Below w.heap.size w w' := by
  obtain ⟨v, hb, hs, _⟩ := hP
  have hs' : Hid (Sl w v o K L) := hs
  obtain ⟨c0, c1, c2, c3, _⟩ := Pan.cells hb
  clear hb hs
  go_enter Try.func29, Try.ntmps29
  go_wp2_with fail
  refine (rows_is v o K L _ hs'.out hl).mono ?_
  rintro e w' ⟨u, rfl, h1, h2⟩
  have h1' : Hid _ := h1
  have h2' : Hid _ := h2
  clear h1 h2
  go_wp2_with fail
  go_ret
  exact ⟨_, rfl, h1'.out, h2'.out⟩
/-- Panes.Len. -/
theorem len_is (b o : Nat) (n sl K : Int) (L : List Pn) (m : Nat) (w : World) (hP : Pan w b o n sl K L) (hm : L.length = m) :
    Calls Try.prog 30 #[.pointer (some ⟨b, 0, none⟩)] w fun e w' => e = .returned (.int .i64 m) ∧ w' = w := by
  subst hm
  obtain ⟨v, hb, hs, _⟩ := hP
  obtain ⟨c0, c1, c2, c3, _⟩ := Pan.cells hb
  clear hb
  rcases hs with ⟨rfl, rfl⟩ | ⟨cap, rfl, _⟩
  · go_enter Try.func30, Try.ntmps30
    go_wp2_with fail
    go_ret
    exact ⟨rfl, rfl⟩
  · go_enter Try.func30, Try.ntmps30
    go_wp2_with fail
    go_ret
    exact ⟨rfl, rfl⟩
/-- panes.New. -/
theorem pnew_is (n sl K : Int) (w : World) :
    Calls Try.prog 50 #[.int .i64 n, .int .i64 sl, .int .i64 K] w fun e w' => e = .returned (.pointer (some ⟨w.heap.size, 0, none⟩)) ∧ Pan w' w.heap.size w.heap.size n sl K [] ∧ Below w.heap.size w w' := by
  go_enter Try.func50, Try.ntmps50
  go_wp2_with fail
  go_ret
  refine ⟨rfl, ⟨.slice none 0 0, ?_, .inl ⟨rfl, rfl⟩, okl_nil _ _, by simp⟩, below_alloc _ _⟩
  show (w.heap.push _)[w.heap.size]? = _
  simp [Panc]
end Go.Proofs.Ytnamjnopicghhaa
