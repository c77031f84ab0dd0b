/- An aggregate that lies within a row of panes: what join, Tick and Add do to its cells; mask.Join of two; what pane.take does. -/
import Derived.Test.YtnamjnopicghhaaInsert
namespace Go.Proofs.Ytnamjnopicghhaa
open Go.RowKit M
set_option linter.unusedVariables false
set_option linter.unusedSimpArgs false
attribute [local go_sem ↓] Go.wp_at_zero Go.wp_at_succ

/-- A block of panes' cells. -/
def Blk (w : World) (g : Nat) (cur : Array Value) : Prop := w.heap[g]? = some (.cells cur 132 (0, 0))
theorem Blk.lt {w : World} {g : Nat} {cur : Array Value} (h : Blk w g cur) : g < w.heap.size := (Array.getElem?_eq_some_iff.1 h).1
theorem Blk.cell {w : World} {g : Nat} {cur : Array Value} (h : Blk w g cur) (i : Nat) {u : Value} (hu : cur[i]? = some u) : w.cell? ⟨g, i, none⟩ = some u := by
  unfold Blk at h; simp [World.cell?, h, hu]
theorem Blk.free {w : World} {g : Nat} {cur : Array Value} (h : Blk w g cur) (i : Nat) : w.frozen? ⟨g, i, none⟩ = false := by
  unfold Blk at h; simp [World.frozen?, h]
theorem Blk.set {w : World} {g : Nat} {cur : Array Value} (h : Blk w g cur) (i : Nat) (u : Value) : Blk (w.setCell ⟨g, i, none⟩ u) g (cur.setIfInBounds i u) := by
  unfold Blk at *; simp [World.setCell, Array.getElem?_modify, h]
theorem Blk.keep {w w' : World} {g : Nat} {cur : Array Value} (h : Blk w g cur) (hb : w'.heap[g]? = w.heap[g]?) : Blk w' g cur := hb.trans h
theorem Blk.below {w w' : World} {g : Nat} {cur : Array Value} (h : Blk w g cur) (hb : Below w.heap.size w w') : Blk w' g cur := h.keep (hb.block g h.lt)
theorem set_same {cur : Array Value} {i : Nat} {u : Value} (h : cur[i]? = some u) : cur.setIfInBounds i u = cur := by
  obtain ⟨hi, rfl⟩ := Array.getElem?_eq_some_iff.1 h
  simp [Array.setIfInBounds, hi]
theorem get_set {cur : Array Value} {i j : Nat} {u x : Value} (h : cur[j]? = some x) (hne : i ≠ j) : (cur.setIfInBounds i u)[j]? = some x := by
  rw [Array.getElem?_setIfInBounds_ne hne]; exact h
theorem get_set_self {cur : Array Value} {i : Nat} {u x : Value} (h : cur[i]? = some x) : (cur.setIfInBounds i u)[i]? = some u := by
  obtain ⟨hi, _⟩ := Array.getElem?_eq_some_iff.1 h
  simp [hi]

theorem Ch.set1 {g : Nat} {a w : World} (h : Ch g g a w) (i : Nat) (u : Value) : Ch g g a (w.setCell ⟨g, i, none⟩ u) := h.set (.inl rfl) u
theorem tick_any (b o : Nat) (c n c' : Int) (w : World) (h0 : w.cell? ⟨b, o, none⟩ = some (.int .i64 c)) (hf : w.frozen? ⟨b, o, none⟩ = false) (hc : wrap64 (c + n) = c') :
    Calls Try.prog 103 #[.pointer (some ⟨b, o, none⟩), .int .i64 n] w fun e w' => e = .returned (.tuple #[]) ∧ w' = w.setCell ⟨b, o, none⟩ (.int .i64 c') := by
  subst hc
  go_enter Try.func103, Try.ntmps103
  go_wp2
  go_end0
  exact ⟨rfl, rfl⟩

set_option maxRecDepth 100000 in
set_option maxHeartbeats 1000000 in
/-- join. -/
theorem join_any (g o : Nat) (cur : Array Value) (c k v x n v' c' : Int) (w : World) (hb : Blk w g cur) (e0 : cur[o]? = some (.int .i64 c)) (e1 : cur[o + 1]? = some (.int .i64 k)) (e2 : cur[o + 2]? = some (.int .i64 v)) (hv : jv k c v x = v') (hcc0 : wrap64 (c + n) = c') :
    Calls Try.prog 100 #[.pointer (some ⟨g, o, none⟩), .int .i64 x, .int .i64 n] w fun e w' => e = .returned (.tuple #[]) ∧ Blk w' g ((cur.setIfInBounds (o + 2) (.int .i64 v')).setIfInBounds o (.int .i64 c')) ∧ Ch g g w w' := by
  have c0 := hb.cell o e0
  have c1 := hb.cell (o + 1) e1
  have c2 := hb.cell (o + 2) e2
  have f2 := hb.free (o + 2)
  have f0 : w.frozen? ⟨g, o, none⟩ = false := hb.free o
  have hb' : Hid (Blk w g cur) := hb
  have hcc : Hid (wrap64 (c + n) = c') := hcc0
  have hs2 : Hid (∀ u, Blk (w.setCell ⟨g, o + 2, none⟩ u) g (cur.setIfInBounds (o + 2) u)) := fun u => hb.set (o + 2) u
  have hg0 : Hid (∀ u, (cur.setIfInBounds (o + 2) u)[o]? = some (.int .i64 c)) := fun u => get_set e0 (by omega)
  have hsame : Hid (cur.setIfInBounds (o + 2) (.int .i64 v) = cur) := set_same e2
  have e0' : Hid (cur[o]? = some (.int .i64 c)) := e0
  clear hcc0 hb e0 e1 e2
  rcases kinds k with rfl | rfl | rfl | rfl | ⟨h1, h2, h3, h4⟩
  · have hv2 : Hid (wrap64 (v + x) = v') := (jv_sum 1 c v x (.inl rfl)).symm.trans hv
    clear hv
    go_enter Try.func100, Try.ntmps100
    go_wp2_with fail
    refine (tick_any g o c n c' _ ((hs2.out _).cell o (hg0.out _)) ((hs2.out _).free o) hcc.out).mono ?_
    rintro e w1 ⟨rfl, rfl⟩
    go_wp2_with fail
    go_end0
    rw [← hv2.out]
    exact ⟨rfl, (hs2.out _).set o _, ((Ch.refl _ _ _).set1 _ _).set1 _ _⟩
  · have hv2 : Hid (wrap64 (v + x) = v') := (jv_sum 2 c v x (.inr rfl)).symm.trans hv
    clear hv
    go_enter Try.func100, Try.ntmps100
    go_wp2_with fail
    refine (tick_any g o c n c' _ ((hs2.out _).cell o (hg0.out _)) ((hs2.out _).free o) hcc.out).mono ?_
    rintro e w1 ⟨rfl, rfl⟩
    go_wp2_with fail
    go_end0
    rw [← hv2.out]
    exact ⟨rfl, (hs2.out _).set o _, ((Ch.refl _ _ _).set1 _ _).set1 _ _⟩
  · by_cases hz : c = 0
    · have hv2 : Hid (x = v') := (jv_first c v x hz 3 (.inl rfl)).symm.trans hv
      clear hv
      subst hz
      go_enter Try.func100, Try.ntmps100
      go_wp2_with fail
      refine (tick_any g o 0 n c' _ ((hs2.out _).cell o (hg0.out _)) ((hs2.out _).free o) hcc.out).mono ?_
      rintro e w1 ⟨rfl, rfl⟩
      go_wp2_with fail
      go_end0
      rw [← hv2.out]
      exact ⟨rfl, (hs2.out _).set o _, ((Ch.refl _ _ _).set1 _ _).set1 _ _⟩
    · by_cases hlt : x < v
      · have hv2 : Hid (x = v') := by
          have h : x = v' := by rw [← hv]; unfold jv; rw [if_neg (by decide), if_pos rfl, if_pos (.inr hlt)]
          exact h
        clear hv
        go_enter Try.func100, Try.ntmps100
        go_wp2_with fail
        refine (tick_any g o c n c' _ ((hs2.out _).cell o (hg0.out _)) ((hs2.out _).free o) hcc.out).mono ?_
        rintro e w1 ⟨rfl, rfl⟩
        go_wp2_with fail
        go_end0
        rw [← hv2.out]
        exact ⟨rfl, (hs2.out _).set o _, ((Ch.refl _ _ _).set1 _ _).set1 _ _⟩
      · have hv2 : Hid (v = v') := by
          have h : v = v' := by rw [← hv]; unfold jv; rw [if_neg (by decide), if_pos rfl, if_neg (by omega)]
          exact h
        clear hv
        go_enter Try.func100, Try.ntmps100
        go_wp2_with fail
        refine (tick_any g o c n c' _ c0 f0 hcc.out).mono ?_
        rintro e w1 ⟨rfl, rfl⟩
        go_wp2_with fail
        go_end0
        rw [← hv2.out, hsame.out]
        exact ⟨rfl, hb'.out.set o _, (Ch.refl _ _ _).set1 _ _⟩
  · by_cases hz : c = 0
    · have hv2 : Hid (x = v') := (jv_first c v x hz 4 (.inr rfl)).symm.trans hv
      clear hv
      subst hz
      go_enter Try.func100, Try.ntmps100
      go_wp2_with fail
      refine (tick_any g o 0 n c' _ ((hs2.out _).cell o (hg0.out _)) ((hs2.out _).free o) hcc.out).mono ?_
      rintro e w1 ⟨rfl, rfl⟩
      go_wp2_with fail
      go_end0
      rw [← hv2.out]
      exact ⟨rfl, (hs2.out _).set o _, ((Ch.refl _ _ _).set1 _ _).set1 _ _⟩
    · by_cases hlt : v < x
      · have hv2 : Hid (x = v') := by
          have h : x = v' := by rw [← hv]; unfold jv; rw [if_neg (by decide), if_neg (by decide), if_pos rfl, if_pos (.inr hlt)]
          exact h
        clear hv
        go_enter Try.func100, Try.ntmps100
        go_wp2_with fail
        refine (tick_any g o c n c' _ ((hs2.out _).cell o (hg0.out _)) ((hs2.out _).free o) hcc.out).mono ?_
        rintro e w1 ⟨rfl, rfl⟩
        go_wp2_with fail
        go_end0
        rw [← hv2.out]
        exact ⟨rfl, (hs2.out _).set o _, ((Ch.refl _ _ _).set1 _ _).set1 _ _⟩
      · have hv2 : Hid (v = v') := by
          have h : v = v' := by rw [← hv]; unfold jv; rw [if_neg (by decide), if_neg (by decide), if_pos rfl, if_neg (by omega)]
          exact h
        clear hv
        go_enter Try.func100, Try.ntmps100
        go_wp2_with fail
        refine (tick_any g o c n c' _ c0 f0 hcc.out).mono ?_
        rintro e w1 ⟨rfl, rfl⟩
        go_wp2_with fail
        go_end0
        rw [← hv2.out, hsame.out]
        exact ⟨rfl, hb'.out.set o _, (Ch.refl _ _ _).set1 _ _⟩
  · have hv2 : Hid (v = v') := (jv_no k c v x h1 h2 h3 h4).symm.trans hv
    clear hv
    go_enter Try.func100, Try.ntmps100
    go_wp2_with fail
    refine (tick_any g o c n c' _ c0 f0 hcc.out).mono ?_
    rintro e w1 ⟨rfl, rfl⟩
    go_wp2_with fail
    go_end0
    rw [← hv2.out, hsame.out]
    exact ⟨rfl, hb'.out.set o _, (Ch.refl _ _ _).set1 _ _⟩
set_option maxHeartbeats 1000000 in
set_option maxRecDepth 100000 in
/-- Add of one value. -/
theorem add_one (g o : Nat) (cur : Array Value) (c k v x v' c' : Int) (q cq : Nat) (w : World) (hb : Blk w g cur) (e0 : cur[o]? = some (.int .i64 c)) (e1 : cur[o + 1]? = some (.int .i64 k)) (e2 : cur[o + 2]? = some (.int .i64 v)) (hx : w.cell? ⟨q, 0, none⟩ = some (.int .i64 x)) (hv : jv k c v (inp k x) = v') (hc : wrap64 (c + 1) = c') :
    Calls Try.prog 93 #[.pointer (some ⟨g, o, none⟩), .slice (some ⟨q, 0, none⟩) 1 cq] w fun e w' => e = .returned (.tuple #[]) ∧ Blk w' g ((cur.setIfInBounds (o + 2) (.int .i64 v')).setIfInBounds o (.int .i64 c')) ∧ Ch g g w w' := by
  have c1 := hb.cell (o + 1) e1
  have hb' : Hid (Blk w g cur) := hb
  have hv' : Hid (jv k c v (inp k x) = v') := hv
  have hc' : Hid (wrap64 (c + 1) = c') := hc
  have e0' : Hid (cur[o]? = some (.int .i64 c)) := e0
  have e1' : Hid (cur[o + 1]? = some (.int .i64 k)) := e1
  have e2' : Hid (cur[o + 2]? = some (.int .i64 v)) := e2
  clear hb hv hc e0 e1 e2
  go_enter Try.func93, Try.ntmps93
  go_wp2_with fail
  go_loopw [8] (fun i wr => (i = .int .i64 0 ∧ wr = w) ∨ (i = .int .i64 1 ∧ Hid (Blk wr g ((cur.setIfInBounds (o + 2) (.int .i64 v')).setIfInBounds o (.int .i64 c'))) ∧ Hid (Ch g g w wr))) (fun i _ => 1 - (intOf i).toNat)
  case atStart => exact .inl ⟨rfl, rfl⟩
  case round =>
    rcases hrel with ⟨rfl, he⟩ | ⟨rfl, hB, hC⟩
    · obtain rfl := he.symm; clear he
      by_cases hk : k = 1
      · subst hk
        have hi : Hid (jv 1 c v 1 = v') := by
          have h := hv'.out
          unfold inp at h; rw [if_pos rfl] at h; exact h
        go_wp2_with fail
        refine (join_any g o cur c 1 v 1 1 v' c' _ hb'.out e0'.out e1'.out e2'.out hi.out hc'.out).mono ?_
        rintro e w2 ⟨rfl, k2, b2⟩
        have k3 : Hid _ := k2
        have b3 : Hid _ := b2
        clear k2 b2
        go_wp2_with fail
        go_roundw
        case rel => exact .inr ⟨rfl, k3.out, b3.out⟩
        case measure => simp [intOf]
      · have hi : Hid (jv k c v x = v') := by
          have h := hv'.out
          unfold inp at h; rw [if_neg hk] at h; exact h
        go_wp2_with fail
        refine (join_any g o cur c k v x 1 v' c' _ hb'.out e0'.out e1'.out e2'.out hi.out hc'.out).mono ?_
        rintro e w2 ⟨rfl, k2, b2⟩
        have k3 : Hid _ := k2
        have b3 : Hid _ := b2
        clear k2 b2
        go_wp2_with fail
        go_roundw
        case rel => exact .inr ⟨rfl, k3.out, b3.out⟩
        case measure => simp [intOf]
    · go_wp2_with fail
      go_end0
      exact ⟨rfl, hB.out, hC.out⟩
set_option maxHeartbeats 1000000 in
set_option maxRecDepth 100000 in
/-- mask.Join of two. -/
theorem join2 (q cq a b : Nat) (w : World) (ha : a < 18446744073709551616) (hb : b < 18446744073709551616) (h0 : w.cell? ⟨q, 0, none⟩ = some (.int .u64 a)) (h1 : w.cell? ⟨q, 1, none⟩ = some (.int .u64 b)) :
    Calls Try.prog 94 #[.slice (some ⟨q, 0, none⟩) 2 cq] w fun e w' => e = .returned (.int .u64 ((a ||| b : Nat) : Int)) ∧ w' = w := by
  have ha' : Hid (a < 18446744073709551616) := ha
  have hb' : Hid (b < 18446744073709551616) := hb
  clear ha hb
  go_enter Try.func94, Try.ntmps94
  go_wp2_with fail
  go_loop [3, 8] (fun t i => ∃ (k m : Nat), k ≤ 2 ∧ i = .int .i64 k ∧ t = .int .u64 (m : Int) ∧ Hid (m = if k = 0 then 0 else if k = 1 then a else a ||| b)) (fun _ i => 2 - (intOf i).toNat)
  case atStart => exact ⟨0, 0, by omega, rfl, rfl, rfl⟩
  case round =>
    obtain ⟨k, m, hk, rfl, rfl, hm⟩ := hrel
    match k, hk, hm with
    | 0, _, hm =>
      obtain rfl : m = 0 := hm.out
      go_wp2_with fail
      go_round
      case rel =>
        refine ⟨1, a, by omega, by go_num, val_int ?_, rfl⟩
        have := u64_or_nat 0 a (by omega) ha'.out
        rw [Nat.zero_or] at this
        exact this
      case measure => simp [intOf]
    | 1, _, hm =>
      obtain rfl : m = a := hm.out
      go_wp2_with fail
      go_round
      case rel =>
        refine ⟨2, m ||| b, by omega, by go_num, val_int ?_, rfl⟩
        exact u64_or_nat m b ha'.out hb'.out
      case measure => simp [intOf]
    | 2, _, hm =>
      obtain rfl : m = a ||| b := hm.out
      go_wp2_with fail
      go_ret
      exact ⟨rfl, rfl⟩
/-- An event as a value; its box. -/
def evv (e : Ev) : Value := .agg #[.int .i64 e.t, .int .i64 e.k, .int .i64 e.v, .int .u64 e.l]
def evCells (e : Ev) : List Value := [.int .i64 e.t, .int .i64 e.k, .int .i64 e.v, .int .u64 e.l]
def Evk (w : World) (b : Nat) (e : Ev) : Prop := w.heap[b]? = some (.cells (evCells e).toArray 29 (0, 0))
theorem Evk.c {w : World} {b : Nat} {e : Ev} (h : Evk w b e) : w.cell? ⟨b, 0, none⟩ = some (.int .i64 e.t) ∧ w.cell? ⟨b, 1, none⟩ = some (.int .i64 e.k) ∧ w.cell? ⟨b, 2, none⟩ = some (.int .i64 e.v) ∧ w.cell? ⟨b, 3, none⟩ = some (.int .u64 e.l) := by
  unfold Evk evCells at h; exact ⟨by simp [World.cell?, h], by simp [World.cell?, h], by simp [World.cell?, h], by simp [World.cell?, h]⟩
theorem Evk.lt {w : World} {b : Nat} {e : Ev} (h : Evk w b e) : b < w.heap.size := (Array.getElem?_eq_some_iff.1 h).1
theorem Evk.keep {w w' : World} {b : Nat} {e : Ev} (h : Evk w b e) (hb : w'.heap[b]? = w.heap[b]?) : Evk w' b e := hb.trans h
theorem Evk.below {w w' : World} {b : Nat} {e : Ev} (h : Evk w b e) (hb : Below w.heap.size w w') : Evk w' b e := h.keep (hb.block b h.lt)
theorem Evk.ch {w w' : World} {b o b' : Nat} {e : Ev} (h : Evk w b e) (hc : Ch b' o w w') (h1 : b ≠ b') (h2 : b ≠ o) : Evk w' b e := h.keep (hc.other b h.lt h1 h2)
theorem evk_new (w : World) (e : Ev) : Evk (w.alloc (.cells #[.int .i64 e.t, .int .i64 e.k, .int .i64 e.v, .int .u64 e.l] 29)) w.heap.size e := by
  show (w.heap.push _)[w.heap.size]? = _
  simp [evCells]
theorem evk_ne {w : World} {b g : Nat} {e : Ev} {cur : Array Value} (h : Evk w b e) (h2 : w.heap[g]? = some (.cells cur 132 (0, 0))) : b ≠ g := by
  intro he; subst he; unfold Evk at h; rw [h] at h2; simp at h2
theorem new_cell' {w : World} {cs : Array Value} {T : TypeId} {j : Nat} {v : Value} (h : cs[j]? = some v) : (w.alloc (.cells cs T)).cell? ⟨w.heap.size, j, none⟩ = some v := new_cell rfl h
theorem row_get {cur : Array Value} {K : Int} {L : List Pn} (h4 : cur.toList.take (L.length * 6) = pcs K L) (i r : Nat) (hr : r < 6) (hi : i < L.length) : cur[i * 6 + r]? = (pcell K (pAt L i))[r]? := by
  have : (cur.toList.take (L.length * 6))[i * 6 + r]? = (pcell K (pAt L i))[r]? := by rw [h4, pcs_at K L i r hr hi]
  rw [List.getElem?_take, if_pos (by omega)] at this
  simpa using this
theorem row_tk {cur : Array Value} {K : Int} {L : List Pn} {cap : Nat} (h3 : cur.size = cap * 6) (h1 : L.length ≤ cap) (h4 : cur.toList.take (L.length * 6) = pcs K L) (i : Nat) (hi : i < L.length) (c v : Int) (l : Nat) :
    ((((cur.setIfInBounds (i * 6 + 2 + 2) (.int .i64 v)).setIfInBounds (i * 6 + 2) (.int .i64 c)).setIfInBounds (i * 6 + 5) (.int .u64 l)).toList.take (L.length * 6)) = pcs K (L.set i ⟨(pAt L i).s, (pAt L i).k, c, v, l⟩) := by
  rw [← pcs_set K L i c v l hi, ← h4]
  simp only [Array.toList_setIfInBounds, List.take_set]
set_option maxHeartbeats 1000000 in
set_option maxRecDepth 100000 in
/-- pane.take, of the i-th pane of a row. -/
theorem take_is (g cap i : Nat) (K : Int) (L : List Pn) (e : Ev) (w : World) (hP : PRow w g cap K L) (hi : i < L.length) (hle : e.l < 18446744073709551616) (hlp : (pAt L i).l < 18446744073709551616) :
    Calls Try.prog 83 #[.pointer (some ⟨g, i * 6, none⟩), evv e] w fun r w' => r = .returned (.tuple #[]) ∧ PRow w' g cap K (L.set i (tk K e.v e.l (pAt L i))) ∧ Ch g g w w' := by
  obtain ⟨cur, hh, h1, h2, h3, h4⟩ := hP
  have hb : Blk w g cur := hh
  have q2 : cur[i * 6 + 2]? = some (.int .i64 (pAt L i).c) := row_get h4 i 2 (by decide) hi
  have q3 : cur[i * 6 + 2 + 1]? = some (.int .i64 K) := row_get h4 i 3 (by decide) hi
  have q4 : cur[i * 6 + 2 + 2]? = some (.int .i64 (pAt L i).v) := row_get h4 i 4 (by decide) hi
  have q5 : cur[i * 6 + 5]? = some (.int .u64 (pAt L i).l) := row_get h4 i 5 (by decide) hi
  obtain ⟨p, hp⟩ : ∃ p, Hid (pAt L i = p) := ⟨_, rfl⟩
  rw [hp.out] at q2 q4 q5 hlp ⊢
  obtain ⟨v', hv⟩ : ∃ v', Hid (jv K p.c p.v (inp K e.v) = v') := ⟨_, rfl⟩
  obtain ⟨c', hc⟩ : ∃ c', Hid (wrap64 (p.c + 1) = c') := ⟨_, rfl⟩
  obtain ⟨l', hl⟩ : ∃ l' : Nat, Hid (p.l ||| e.l = l') := ⟨_, rfl⟩
  have hfin : Hid (∀ W, Blk W g (((cur.setIfInBounds (i * 6 + 2 + 2) (.int .i64 v')).setIfInBounds (i * 6 + 2) (.int .i64 c')).setIfInBounds (i * 6 + 5) (.int .u64 l')) → PRow W g cap K (L.set i (tk K e.v e.l p))) := by
    intro W hW
    refine ⟨_, hW, by rw [List.length_set]; exact h1, h2, by simp only [Array.size_setIfInBounds]; exact h3, ?_⟩
    rw [List.length_set, row_tk h3 h1 h4 i hi, hp.out]
    unfold tk
    rw [hv.out, hc.out, hl.out]
  have q2' : Hid _ := q2
  have q3' : Hid _ := q3
  have q4' : Hid _ := q4
  have q5' : Hid (((cur.setIfInBounds (i * 6 + 2 + 2) (.int .i64 v')).setIfInBounds (i * 6 + 2) (.int .i64 c'))[i * 6 + 5]? = some (.int .u64 p.l)) := get_set (get_set q5 (by omega)) (by omega)
  have hb' : Hid (Blk w g cur) := hb
  clear hh h1 h2 h3 h4 q2 q3 q4 q5 hb hp
  unfold evv
  go_enter Try.func83, Try.ntmps83
  go_upto_region 1 with fail
  have hgw : g ≠ w.heap.size := by have := hb'.out.lt; omega
  refine world_gen (fun W => Hid (Blk W g cur) ∧ Hid (Evk W w.heap.size e) ∧ Hid (Ch g g w W)) ⟨hb'.out.below (below_alloc _ _), evk_new _ _, (Ch.refl _ _ _).alloc _⟩ ?_
  clear hb'
  rintro W ⟨hb, hE, hch⟩
  generalize w.heap.size = q at hE hgw ⊢
  refine wp_region_held_drew (S := fun X => Hid (Evk X q e)) (by kernel_rfl) (show Evk W.drew q e from hE.out) (fun hHeld => ?_)
  have hbV : Hid (Blk W.drew g cur) := hb.out
  have hchV : Hid (Ch g g w W.drew) := hch.out.drew
  clear hb hch hE
  generalize W.drew = V at hHeld hbV hchV ⊢
  refine take_at (i := 0) (v := .pointer (some ⟨g, i * 6, none⟩)) rfl rfl (by kernel_rfl) (by kernel_rfl) (by kernel_rfl) (fun _ _ _ h => h) (Or.inl ⟨by rfl, fun X _ => by go_simp⟩) hHeld ?_
  try simp only [Act.put, List.setIfInBounds_toArray, List.set_cons_zero, List.set_cons_succ]
  refine take_at (i := 1) (v := .pointer (some ⟨g, i * 6, none⟩)) rfl rfl (by kernel_rfl) (by kernel_rfl) (by kernel_rfl) (fun _ _ _ h => h) (Or.inl ⟨by rfl, fun X _ => by go_simp⟩) hHeld ?_
  try simp only [Act.put, List.setIfInBounds_toArray, List.set_cons_zero, List.set_cons_succ]
  refine take_at (i := 2) (v := .pointer (some ⟨g, i * 6 + 2, none⟩)) rfl rfl (by kernel_rfl) (by kernel_rfl) (by kernel_rfl) (fun _ _ _ h => h) (Or.inl ⟨by rfl, fun X _ => by go_simp⟩) hHeld ?_
  try simp only [Act.put, List.setIfInBounds_toArray, List.set_cons_zero, List.set_cons_succ]
  refine take_at (i := 3) (v := .pointer (some ⟨q, 2, none⟩)) rfl rfl (by kernel_rfl) (by kernel_rfl) (by kernel_rfl) (fun _ _ _ h => h) (Or.inl ⟨by rfl, fun X _ => by go_simp⟩) hHeld ?_
  try simp only [Act.put, List.setIfInBounds_toArray, List.set_cons_zero, List.set_cons_succ]
  refine take_at (i := 4) (v := .int .i64 e.v) rfl rfl (by kernel_rfl) (by kernel_rfl) (by kernel_rfl) (fun _ _ _ h => h) (Or.inl ⟨by rfl, fun X hX => by obtain ⟨c0, c1, c2, c3⟩ := hX.out.c; go_simp⟩) hHeld ?_
  try simp only [Act.put, List.setIfInBounds_toArray, List.set_cons_zero, List.set_cons_succ]
  refine wpAnyH_ready (rs := [5]) (by kernel_rfl) (by simp) ?_
  refine AllReadyH.cons rfl (fun KK hK => ?_) AllReadyH.nil
  rw [if_pos (by rfl)]
  go_simp
  refine hK.out _ _ (hHeld.out.below (below_alloc _ _)) (fun hHeld => ?_)
  clear hK KK
  try simp only [Act.put, List.setIfInBounds_toArray, List.set_cons_zero, List.set_cons_succ]
  have hb2 : Hid (Blk (V.alloc (.cells #[.int .i64 e.v] 3)) g cur) := hbV.out.below (below_alloc _ _)
  have hch2 : Hid (Ch g g w (V.alloc (.cells #[.int .i64 e.v] 3))) := hchV.out.alloc _
  have hx2 : Hid ((V.alloc (.cells #[.int .i64 e.v] 3)).cell? ⟨V.heap.size, 0, none⟩ = some (.int .i64 e.v)) := new_cell' rfl
  clear hbV hchV
  generalize V.alloc (.cells #[.int .i64 e.v] 3) = V1 at hHeld hb2 hch2 hx2 ⊢
  generalize V.heap.size = qv at hx2 ⊢
  refine wpAnyH_ready (rs := [6]) (by kernel_rfl) (by simp) ?_
  refine AllReadyH.cons rfl (fun KK hK => ?_) AllReadyH.nil
  rw [if_pos (by rfl)]
  go_wp2_with fail
  refine (add_one g (i * 6 + 2) cur p.c K p.v e.v v' c' qv 1 _ hb2.out q2'.out q3'.out q4'.out hx2.out hv.out hc.out).mono ?_
  rintro r V2 ⟨rfl, hb3, hc3⟩
  have hE3 : Hid (Evk V2 q e) := hHeld.out.ch hc3 hgw.symm hgw.symm
  have hch3 : Hid (Ch g g w V2) := hch2.out.trans hc3 (.inl rfl)
  have hb3' : Hid _ := hb3
  clear hb3 hc3 hb2 hch2 hx2
  go_wp2_with fail
  refine hK.out _ _ (hE3) (fun hHeld => ?_)
  clear hK KK
  try simp only [Act.put, List.setIfInBounds_toArray, List.set_cons_zero, List.set_cons_succ]
  refine wpAnyH_done (by kernel_rfl) ?_ _
  go_wp2_with fail
  obtain ⟨cur2, hcur2⟩ : ∃ c2, Hid ((cur.setIfInBounds (i * 6 + 2 + 2) (.int .i64 v')).setIfInBounds (i * 6 + 2) (.int .i64 c') = c2) := ⟨_, rfl⟩
  rw [hcur2.out] at hfin q5' hb3'
  clear hHeld
  refine wp_region_held_drew (S := fun X => Hid (Evk X q e)) (by kernel_rfl) (show Evk V2.drew q e from hE3.out) (fun hHeld => ?_)
  have hchV : Hid (Ch g g w V2.drew) := hch3.out.drew
  have hbV : Hid (Blk V2.drew g cur2) := hb3'.out
  clear hE3 hb3' hch3
  generalize V2.drew = V3 at hHeld hchV hbV ⊢
  refine take_at (i := 0) (v := .pointer (some ⟨g, i * 6, none⟩)) rfl rfl (by kernel_rfl) (by kernel_rfl) (by kernel_rfl) (fun _ _ _ h => h) (Or.inl ⟨by rfl, fun X _ => by go_simp⟩) hHeld ?_
  try simp only [Act.put, List.setIfInBounds_toArray, List.set_cons_zero, List.set_cons_succ]
  refine take_at (i := 1) (v := .pointer (some ⟨g, i * 6, none⟩)) rfl rfl (by kernel_rfl) (by kernel_rfl) (by kernel_rfl) (fun _ _ _ h => h) (Or.inl ⟨by rfl, fun X _ => by go_simp⟩) hHeld ?_
  try simp only [Act.put, List.setIfInBounds_toArray, List.set_cons_zero, List.set_cons_succ]
  refine take_at (i := 2) (v := .pointer (some ⟨g, i * 6, none⟩)) rfl rfl (by kernel_rfl) (by kernel_rfl) (by kernel_rfl) (fun _ _ _ h => h) (Or.inl ⟨by rfl, fun X _ => by go_simp⟩) hHeld ?_
  try simp only [Act.put, List.setIfInBounds_toArray, List.set_cons_zero, List.set_cons_succ]
  refine take_at (i := 3) (v := .pointer (some ⟨g, i * 6 + 5, none⟩)) rfl rfl (by kernel_rfl) (by kernel_rfl) (by kernel_rfl) (fun _ _ _ h => h) (Or.inl ⟨by rfl, fun X _ => by go_simp⟩) hHeld ?_
  try simp only [Act.put, List.setIfInBounds_toArray, List.set_cons_zero, List.set_cons_succ]
  refine take_at (i := 5) (v := .pointer (some ⟨q, 3, none⟩)) rfl rfl (by kernel_rfl) (by kernel_rfl) (by kernel_rfl) (fun _ _ _ h => h) (Or.inl ⟨by rfl, fun X _ => by go_simp⟩) hHeld ?_
  try simp only [Act.put, List.setIfInBounds_toArray, List.set_cons_zero, List.set_cons_succ]
  refine take_at (i := 6) (v := .int .u64 e.l) rfl rfl (by kernel_rfl) (by kernel_rfl) (by kernel_rfl) (fun _ _ _ h => h) (Or.inl ⟨by rfl, fun X hX => by obtain ⟨c0, c1, c2, c3⟩ := hX.out.c; go_simp⟩) hHeld ?_
  try simp only [Act.put, List.setIfInBounds_toArray, List.set_cons_zero, List.set_cons_succ]
  have c5 := hbV.out.cell _ q5'.out
  refine wpAnyH_ready (rs := [4]) (by kernel_rfl) (by simp) ?_
  refine AllReadyH.cons rfl (fun KK hK => ?_) AllReadyH.nil
  rw [if_pos (by rfl)]
  go_simp
  refine hK.out _ _ (hHeld) (fun hHeld => ?_)
  clear hK KK
  try simp only [Act.put, List.setIfInBounds_toArray, List.set_cons_zero, List.set_cons_succ]
  clear c5
  refine wpAnyH_ready (rs := [7]) (by kernel_rfl) (by simp) ?_
  refine AllReadyH.cons rfl (fun KK hK => ?_) AllReadyH.nil
  rw [if_pos (by rfl)]
  go_simp
  refine hK.out _ _ (hHeld.out.below (below_alloc _ _)) (fun hHeld => ?_)
  clear hK KK
  try simp only [Act.put, List.setIfInBounds_toArray, List.set_cons_zero, List.set_cons_succ]
  have hch2 : Hid (Ch g g w (V3.alloc (.cells #[.int .u64 p.l, .int .u64 e.l] 27))) := hchV.out.alloc _
  have hb2 : Hid (Blk (V3.alloc (.cells #[.int .u64 p.l, .int .u64 e.l] 27)) g cur2) := hbV.out.below (below_alloc _ _)
  have hx2 : Hid ((V3.alloc (.cells #[.int .u64 p.l, .int .u64 e.l] 27)).cell? ⟨V3.heap.size, 0, none⟩ = some (.int .u64 p.l) ∧ (V3.alloc (.cells #[.int .u64 p.l, .int .u64 e.l] 27)).cell? ⟨V3.heap.size, 1, none⟩ = some (.int .u64 e.l)) := ⟨new_cell' rfl, new_cell' rfl⟩
  clear hchV hbV
  generalize V3.alloc (.cells #[.int .u64 p.l, .int .u64 e.l] 27) = V4 at hHeld hch2 hx2 hb2 ⊢
  generalize V3.heap.size = qv at hx2 ⊢
  refine wpAnyH_ready (rs := [8]) (by kernel_rfl) (by simp) ?_
  refine AllReadyH.cons rfl (fun KK hK => ?_) AllReadyH.nil
  rw [if_pos (by rfl)]
  go_wp2_with fail
  refine (join2 qv 2 p.l e.l _ hlp hle hx2.out.1 hx2.out.2).mono ?_
  rintro r V5 ⟨rfl, he⟩; obtain rfl := he.symm; clear he
  rw [hl.out]
  go_wp2_with fail
  refine hK.out _ _ (hHeld) (fun hHeld => ?_)
  clear hK KK
  try simp only [Act.put, List.setIfInBounds_toArray, List.set_cons_zero, List.set_cons_succ]
  refine take_at (i := 9) (v := .pointer (some ⟨g, i * 6, none⟩)) rfl rfl (by kernel_rfl) (by kernel_rfl) (by kernel_rfl) (fun _ _ _ h => h) (Or.inl ⟨by rfl, fun X _ => by go_simp⟩) hHeld ?_
  try simp only [Act.put, List.setIfInBounds_toArray, List.set_cons_zero, List.set_cons_succ]
  refine take_at (i := 10) (v := .pointer (some ⟨g, i * 6 + 5, none⟩)) rfl rfl (by kernel_rfl) (by kernel_rfl) (by kernel_rfl) (fun _ _ _ h => h) (Or.inl ⟨by rfl, fun X _ => by go_simp⟩) hHeld ?_
  try simp only [Act.put, List.setIfInBounds_toArray, List.set_cons_zero, List.set_cons_succ]
  have c5 := hb2.out.cell _ q5'.out
  have f5 := hb2.out.free (i * 6 + 5)
  refine wpAnyH_ready (rs := [11]) (by kernel_rfl) (by simp) ?_
  refine AllReadyH.cons rfl (fun KK hK => ?_) AllReadyH.nil
  rw [if_pos (by rfl)]
  go_simp
  have hlast : Blk (V4.setCell ⟨g, i * 6 + 5, none⟩ (.int .u64 l')) g (cur2.setIfInBounds (i * 6 + 5) (.int .u64 l')) := hb2.out.set _ _
  have hlc : Hid _ := hch2.out.set1 (i * 6 + 5) (.int .u64 l')
  have hl2 : Hid (PRow (V4.setCell ⟨g, i * 6 + 5, none⟩ (.int .u64 l')) g cap K (L.set i (tk K e.v e.l p))) := hfin.out _ hlast
  clear hlast c5 f5
  refine hK.out _ _ (hHeld.out.ch ((Ch.refl g g V4).set1 _ _) hgw.symm hgw.symm) (fun hHeld => ?_)
  clear hK KK
  try simp only [Act.put, List.setIfInBounds_toArray, List.set_cons_zero, List.set_cons_succ]
  refine wpAnyH_done (by kernel_rfl) ?_ _
  go_wp2_with fail
  go_end0
  exact ⟨rfl, hl2.out, hlc.out⟩
end Go.Proofs.Ytnamjnopicghhaa
