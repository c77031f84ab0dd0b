/- The document's own Panes.Close. -/
import Derived.Test.YtnamjnopicghhaaSame
namespace Go.Proofs.Ytnamjnopicghhaa
open Go.RowKit M
set_option linter.unusedVariables false
set_option linter.unusedSimpArgs false
attribute [local go_sem ↓] Go.wp_at_zero Go.wp_at_succ

/-- A pane of the reference as a value, as its five cells. -/
def qv (p : Pn) : Value := .agg #[.int .i64 p.s, .int .i64 p.k, .int .i64 p.c, .int .i64 p.v, .int .u64 p.l]
def qcell (p : Pn) : List Value := [.int .i64 p.s, .int .i64 p.k, .int .i64 p.c, .int .i64 p.v, .int .u64 p.l]
def qcs (L : List Pn) : List Value := L.flatMap qcell
theorem qcs_cons (p : Pn) (r : List Pn) : qcs (p :: r) = qcell p ++ qcs r := by simp [qcs]
theorem qcs_len : ∀ L : List Pn, (qcs L).length = L.length * 5
  | [] => rfl
  | p :: r => by rw [qcs_cons, List.length_append, qcs_len r]; simp [qcell]; omega
theorem qcs_one (L : List Pn) : ∀ u ∈ qcs L, u.oneCell' = true := by
  intro u hu
  simp only [qcs, List.mem_flatMap] at hu
  obtain ⟨e, _, he⟩ := hu
  simp only [qcell, List.mem_cons, List.not_mem_nil, or_false] at he
  rcases he with rfl | rfl | rfl | rfl | rfl <;> rfl
theorem qcs_append (a b : List Pn) : qcs (a ++ b) = qcs a ++ qcs b := by simp [qcs]
theorem qcs_single (p : Pn) : qcs [p] = qcell p := by simp [qcs]
theorem qcs_at : ∀ (L : List Pn) (i r : Nat), r < 5 → i < L.length → (qcs L)[i * 5 + r]? = (qcell (pAt L i))[r]?
  | [], i, r, _, hi => by simp at hi
  | x :: s, 0, r, hr, _ => by rw [qcs_cons, List.getElem?_append_left (by show 0 * 5 + r < 5; omega)]; simp [pAt_zero]
  | x :: s, i + 1, r, hr, hi => by
    have hc : (qcell x).length = 5 := rfl
    rw [qcs_cons, List.getElem?_append_right (by omega), hc, show (i + 1) * 5 + r - 5 = i * 5 + r by omega, qcs_at s i r hr (by simpa using hi), pAt_cons]
/-- The five cells of one. -/
def QwAt (w : World) (b o : Nat) (p : Pn) : Prop :=
  w.cell? ⟨b, o, none⟩ = some (.int .i64 p.s) ∧ w.cell? ⟨b, o + 1, none⟩ = some (.int .i64 p.k) ∧ w.cell? ⟨b, o + 2, none⟩ = some (.int .i64 p.c) ∧ w.cell? ⟨b, o + 3, none⟩ = some (.int .i64 p.v) ∧ w.cell? ⟨b, o + 4, none⟩ = some (.int .u64 p.l)
/-- A slice of them. -/
def RdQ (w : World) (v : Value) (L : List Pn) : Prop :=
  L.length ≤ 9223372036854775807 ∧ ∃ ao cap, v = .slice ao L.length cap ∧ L.length ≤ cap ∧ cap ≤ 9223372036854775807 ∧ (L.length ≠ 0 → ∃ b off, ao = some ⟨b, off, none⟩ ∧ b < w.heap.size ∧ ∀ j, j < L.length → QwAt w b (off + j * 5) (pAt L j))
theorem QwAt.keep {w w' : World} {b o : Nat} {p : Pn} (h : QwAt w b o p) (hb : w'.heap[b]? = w.heap[b]?) : QwAt w' b o p := by
  have hc : ∀ x : Addr, x.block = b → w'.cell? x = w.cell? x := fun x hx => World.cell?_of_block (w := w) (by rw [hx]; exact hb)
  obtain ⟨h0, h1, h2, h3, h4⟩ := h
  exact ⟨(hc _ rfl).trans h0, (hc _ rfl).trans h1, (hc _ rfl).trans h2, (hc _ rfl).trans h3, (hc _ rfl).trans h4⟩
theorem RdQ.below {w w' : World} {v : Value} {L : List Pn} (h : RdQ w v L) (hb : Below w.heap.size w w') : RdQ w' v L := by
  obtain ⟨h1, ao, cap, rfl, h2, h3, hc⟩ := h
  refine ⟨h1, ao, cap, rfl, h2, h3, fun hn => ?_⟩
  obtain ⟨b, off, rfl, hl, hcell⟩ := hc hn
  exact ⟨b, off, rfl, Nat.lt_of_lt_of_le hl hb.size, fun j hj => (hcell j hj).keep (hb.block b hl)⟩
theorem rdq_own {w : World} {base : Nat} {v : Value} {L : List Pn} (h : w.ownsRow base 141 5 v L.length (qcs L)) : RdQ w v L := by
  have h' := h
  obtain ⟨_, h | ⟨g, cap, cur, rfl, hb, hh, hn, hm, hs, ht⟩⟩ := h
  · obtain ⟨rfl, h0⟩ := h
    have : L = [] := List.eq_nil_of_length_eq_zero h0
    subst this
    exact ⟨by simp, none, 0, rfl, by simp, by simp, by simp⟩
  · unfold maxLen at hm
    refine ⟨by omega, _, cap, rfl, hn, hm, fun _ => ⟨g, 0, rfl, (Array.getElem?_eq_some_iff.1 hh).1, fun j hj => ?_⟩⟩
    have hc : ∀ r, r < 5 → w.cell? ⟨g, 0 + j * 5 + r, none⟩ = (qcell (pAt L j))[r]? := fun r hr => by
      rw [Nat.zero_add, h'.cellAt (j * 5 + r) (by omega), qcs_at L j r hr hj]
    exact ⟨hc 0 (by decide), hc 1 (by decide), hc 2 (by decide), hc 3 (by decide), hc 4 (by decide)⟩

theorem Try.info141 : (Try.prog.info? 141).map (fun i => (i.zero, i.size, i.bytes)) = some (some rzero, 5, 40) := by kernel_rfl
/-- A list of the call's own stays while another one grows. -/
theorem own_kept {w w' : World} {B : Nat} {e : TypeId} {size : Nat} {v : Value} {n : Nat} {xs : List Value} {row : Option Nat} (h : w.ownsRow B e size v n xs) (hg : w.grownBy w' row) (hr : ∀ k, row = some k → v.ownBlock ≠ some k) : w'.ownsRow B e size v n xs := by
  obtain ⟨h1, h | ⟨g, cap, cur, rfl, h2, hh, r⟩⟩ := h
  · exact ⟨h1, .inl h⟩
  · have hlt : g < w.heap.size := (Array.getElem?_eq_some_iff.1 hh).1
    refine ⟨h1, .inr ⟨g, cap, cur, rfl, h2, ?_, r⟩⟩
    rw [hg.block g hlt (fun e => hr g e.symm rfl)]; exact hh
/-- Lists of unlike elements are not one block. -/
theorem own_unlike {w : World} {B B' : Nat} {e e' : TypeId} {s s' : Nat} {u x : Value} {n m : Nat} {xs ys : List Value} (h1 : w.ownsRow B e s u n xs) (h2 : w.ownsRow B' e' s' x m ys) (he : e ≠ e') : ∀ k, u.ownBlock = some k → x.ownBlock ≠ some k := by
  intro k hu hx
  obtain ⟨_, ⟨rfl, _⟩ | ⟨g, cap, cur, rfl, _, hh, _⟩⟩ := h1
  · cases hu
  · obtain ⟨_, ⟨rfl, _⟩ | ⟨g', cap', cur', rfl, _, hh', _⟩⟩ := h2
    · cases hx
    · simp only [Value.ownBlock, Option.some.injEq] at hu hx
      subst hu
      subst hx
      rw [hh] at hh'
      simp at hh'
      exact he hh'.2
/-- A pane's block whole. -/
def Qk (w : World) (b : Nat) (p : Pn) : Prop := w.heap[b]? = some (.cells #[.int .i64 p.s, .int .i64 p.k, .int .i64 p.c, .int .i64 p.v, .int .u64 p.l] 141 (0, 0))
theorem Qk.c {w : World} {b : Nat} {p : Pn} (h : Qk w b p) : QwAt w b 0 p := by
  unfold Qk at h; exact ⟨by simp [World.cell?, h], by simp [World.cell?, h], by simp [World.cell?, h], by simp [World.cell?, h], by simp [World.cell?, h]⟩
theorem qk_new (w : World) (p : Pn) : Qk (w.alloc (.cells #[.int .i64 p.s, .int .i64 p.k, .int .i64 p.c, .int .i64 p.v, .int .u64 p.l] 141)) w.heap.size p := by
  show (w.heap.push _)[w.heap.size]? = _
  simp
/-- The reference's Panes in its block. -/
def Qb (w : World) (b : Nat) (n sl K : Int) (v : Value) : Prop := w.heap[b]? = some (.cells #[.int .i64 n, .int .i64 sl, .int .i64 K, v] 94 (0, 0))
theorem Qb.c {w : World} {b : Nat} {n sl K : Int} {v : Value} (h : Qb w b n sl K v) : w.cell? ⟨b, 0, none⟩ = some (.int .i64 n) ∧ w.cell? ⟨b, 1, none⟩ = some (.int .i64 sl) ∧ w.cell? ⟨b, 2, none⟩ = some (.int .i64 K) ∧ w.cell? ⟨b, 3, none⟩ = some v := by
  unfold Qb at h; exact ⟨by simp [World.cell?, h], by simp [World.cell?, h], by simp [World.cell?, h], by simp [World.cell?, h]⟩
theorem Qb.keep {w w' : World} {b : Nat} {n sl K : Int} {v : Value} (h : Qb w b n sl K v) (hb : w'.heap[b]? = w.heap[b]?) : Qb w' b n sl K v := hb.trans h
theorem own_base {w : World} {B B' : Nat} {e : TypeId} {size : Nat} {v : Value} {n : Nat} {xs : List Value} (h : w.ownsRow B e size v n xs) (hB : B' ≤ B) : w.ownsRow B' e size v n xs := by
  obtain ⟨h1, h | ⟨g, cap, cur, rfl, h2, r⟩⟩ := h
  · exact ⟨h1, .inl h⟩
  · exact ⟨h1, .inr ⟨g, cap, cur, rfl, by omega, r⟩⟩
theorem Qb.set {w : World} {b : Nat} {n sl K n' sl' K' : Int} {v u : Value} (h : Qb w b n' sl' K' v) : Qb ((((w.setCell ⟨b, 0, none⟩ (.int .i64 n)).setCell ⟨b, 1, none⟩ (.int .i64 sl)).setCell ⟨b, 2, none⟩ (.int .i64 K)).setCell ⟨b, 3, none⟩ u) b n sl K u := by
  unfold Qb at *
  simp [World.setCell, Array.getElem?_modify, h]
theorem Qb.set3 {w : World} {b : Nat} {n sl K : Int} {v u : Value} (h : Qb w b n sl K v) : Qb (w.setCell ⟨b, 3, none⟩ u) b n sl K u := by
  unfold Qb at *
  simp [World.setCell, Array.getElem?_modify, h]
theorem own_set {w : World} {B : Nat} {e : TypeId} {size : Nat} {v : Value} {n : Nat} {xs : List Value} (h : w.ownsRow B e size v n xs) {a : Addr} (ha : a.block < B) (u : Value) : (w.setCell a u).ownsRow B e size v n xs := by
  obtain ⟨h1, h | ⟨g, cap, cur, rfl, h2, hh, r⟩⟩ := h
  · exact ⟨h1, .inl h⟩
  · exact ⟨h1, .inr ⟨g, cap, cur, rfl, h2, (Below.heap_setCell _ _ _ _ (by omega)).trans hh, r⟩⟩
def done (n mark : Int) (L : List Pn) : List Pn := L.filter (fun p => decide (p.s + n ≤ mark))
def stay (n mark : Int) (L : List Pn) : List Pn := L.filter (fun p => !decide (p.s + n ≤ mark))
theorem done_yes {n mark : Int} {L : List Pn} {j : Nat} {p : Pn} (hj : j < L.length) (hp : pAt L j = p) (h : p.s + n ≤ mark) : done n mark (L.take (j + 1)) = done n mark (L.take j) ++ [p] ∧ stay n mark (L.take (j + 1)) = stay n mark (L.take j) := by
  rw [take_pn L j hj, hp]; unfold done stay; rw [List.filter_append, List.filter_append]; simp [h]
theorem done_no {n mark : Int} {L : List Pn} {j : Nat} {p : Pn} (hj : j < L.length) (hp : pAt L j = p) (h : ¬ p.s + n ≤ mark) : done n mark (L.take (j + 1)) = done n mark (L.take j) ∧ stay n mark (L.take (j + 1)) = stay n mark (L.take j) ++ [p] := by
  rw [take_pn L j hj, hp]; unfold done stay; rw [List.filter_append, List.filter_append]; simp [h]
theorem done_len (n mark : Int) (L : List Pn) (j : Nat) : (done n mark (L.take j)).length ≤ j ∧ (stay n mark (L.take j)).length ≤ j := by
  unfold done stay
  have h1 := List.length_filter_le (fun p : Pn => decide (p.s + n ≤ mark)) (L.take j)
  have h2 := List.length_filter_le (fun p : Pn => !decide (p.s + n ≤ mark)) (L.take j)
  have h3 : (L.take j).length ≤ j := by rw [List.length_take]; omega
  exact ⟨by omega, by omega⟩
set_option maxHeartbeats 2000000 in
set_option maxRecDepth 100000 in
theorem rclose_is (n sl K mark : Int) (v : Value) (L : List Pn) (w : World) (hv : RdQ w v L) (hl : L.length ≤ 1000000) (hb : ∀ p ∈ L, -1099511627776 ≤ p.s ∧ p.s ≤ 1099511627776 ∧ -1099511627776 ≤ n ∧ n ≤ 1099511627776) :
    Calls Try.prog 58 #[.agg #[.int .i64 n, .int .i64 sl, .int .i64 K, v], .int .i64 mark] w fun e w' => ∃ u x, e = .returned (.tuple #[.agg #[.int .i64 n, .int .i64 sl, .int .i64 K, u], x]) ∧
      w'.ownsRow w.heap.size 141 5 u (stay n mark L).length (qcs (stay n mark L)) ∧ w'.ownsRow w.heap.size 39 5 x (done n mark L).length (rcs (done n mark L)) ∧ Below w.heap.size w w' := by
  obtain ⟨i0, hi, hz0, hz1, hz2⟩ := info_parts Try.info39
  obtain ⟨i9, hi9, hy0, hy1, hy2⟩ := info_parts Try.info141
  have hv' : Hid (RdQ w v L) := hv
  obtain ⟨_, ao, cap, rfl, hc1, hc2, _⟩ := hv
  have hb' : Hid (∀ p ∈ L, -1099511627776 ≤ p.s ∧ p.s ≤ 1099511627776 ∧ -1099511627776 ≤ n ∧ n ≤ 1099511627776) := hb
  clear hb
  obtain ⟨m, hm⟩ : ∃ m, Hid (L.length = m) := ⟨_, rfl⟩
  rw [hm.out] at hc1 hl
  have hv2 : Hid (RdQ w (.slice ao m cap) L) := by rw [← hm.out]; exact hv'.out
  clear hv'
  rw [hm.out]
  go_enter Try.func58, Try.ntmps58
  have hcell : Hid (∀ j, j < m → ∃ b off, ao = some ⟨b, off, none⟩ ∧ b < w.heap.size ∧ QwAt w b (off + j * 5) (pAt L j)) := fun j hj => by
    obtain ⟨_, ao', cap', e, _, _, hc⟩ := hv2.out
    injection e with e1 e2 e3
    subst e1
    obtain ⟨b, off, h1, h2, h3⟩ := hc (by rw [hm.out]; omega)
    exact ⟨b, off, h1, h2, h3 j (by rw [hm.out]; exact hj)⟩
  clear hv2
  go_upto_region 1 with fail
  refine world_gen (fun X => Hid (Qb X w.heap.size n sl K (.slice ao m cap)) ∧ Hid (Qb X (w.heap.size + 1) 0 0 0 (.slice none 0 0)) ∧ Hid (Below w.heap.size w X) ∧ X.heap.size = w.heap.size + 2) ⟨?g1, ?g2, ?g3, ?g4⟩ ?_
  case g1 => show ((w.heap.push _).push _)[w.heap.size]? = _; rw [Array.getElem?_push]; simp
  case g2 => show ((w.heap.push _).push _)[w.heap.size + 1]? = _; rw [Array.getElem?_push]; simp
  case g3 => exact (below_alloc w _).alloc (by simp) _
  case g4 => simp
  rintro W ⟨hq0, hq1, hbw, hsz⟩
  obtain ⟨d0, d1, d2, d3⟩ := hq0.out.c
  go_wp2_with fail
  go_loopw [6, 7, 13] (fun u x i wr => ∃ j : Nat, j ≤ m ∧ i = .int .i64 j ∧ Hid (wr.ownsRow (w.heap.size + 2) 39 5 u (done n mark (L.take j)).length (rcs (done n mark (L.take j)))) ∧ Hid (wr.ownsRow (w.heap.size + 2) 141 5 x (stay n mark (L.take j)).length (qcs (stay n mark (L.take j)))) ∧ Hid (Below (w.heap.size + 2) W wr)) (fun _ _ i _ => m - (intOf i).toNat)
  case atStart => exact ⟨0, Nat.zero_le _, rfl, World.ownsRow_nil _ _ _ _, World.ownsRow_nil _ _ _ _, Below.refl _ _⟩
  case round =>
    obtain ⟨j, hj, rfl, hou, hox, hbr⟩ := hrel
    clear d0 d1 d2 d3
    have hqr : Hid (Qb wr w.heap.size n sl K (.slice ao m cap)) := hq0.out.keep (hbr.out.block _ (by omega))
    have hqs : Hid (Qb wr (w.heap.size + 1) 0 0 0 (.slice none 0 0)) := hq1.out.keep (hbr.out.block _ (by omega))
    by_cases hlt : j < m
    · obtain ⟨b, off, rfl, hbl, hq⟩ := hcell.out j hlt
      have hq2 : QwAt wr b (off + j * 5) (pAt L j) := hq.keep ((hbr.out.block b (by omega)).trans (hbw.out.block b hbl))
      have hjl : j < L.length := by rw [hm.out]; exact hlt
      have hpb := hb'.out (pAt L j) (by simp [pAt, List.getD_eq_getElem?_getD, hjl])
      obtain ⟨hn1, hn2⟩ := done_len n mark L j
      obtain ⟨p, hp⟩ : ∃ p, Hid (pAt L j = p) := ⟨_, rfl⟩
      rw [hp.out] at hq2 hpb
      obtain ⟨c0, c1, c2, c3, c4⟩ := hq2
      obtain ⟨hp1, hp2, hp3, hp4⟩ := hpb
      have hjl' : Hid (j < L.length) := hjl
      clear hq hjl
      have hws := hbr.out.size
      go_upto_region 6 with fail
      refine world_gen (fun X => Hid (Qk X wr.heap.size p) ∧ Hid (Qb X w.heap.size n sl K (.slice (some ⟨b, off, none⟩) m cap)) ∧ Hid (X.ownsRow (w.heap.size + 2) 39 5 u6 (done n mark (L.take j)).length (rcs (done n mark (L.take j)))) ∧ Hid (X.ownsRow (w.heap.size + 2) 141 5 u7 (stay n mark (L.take j)).length (qcs (stay n mark (L.take j)))) ∧ Hid (Below (w.heap.size + 2) W X) ∧ w.heap.size + 2 ≤ X.heap.size) ⟨qk_new _ _, hqr.out.keep ((below_alloc _ _).block _ (by omega)), hou.out.alloc _, hox.out.alloc _, hbr.out.alloc (by omega) _, by simp; omega⟩ ?_
      clear hou hox hbr c0 c1 c2 c3 c4 hqr hqs
      rintro X ⟨hk, hqx, hou, hox, hbr, hxs⟩
      generalize wr.heap.size = g at hk hws ⊢
      obtain ⟨c0, c1, c2, c3, c4⟩ := hk.out.c
      obtain ⟨d0, d1, d2, d3⟩ := hqx.out.c
      generalize hN1 : (done n mark (L.take j)).length = N1 at hou hn1
      generalize hN2 : (stay n mark (L.take j)).length = N2 at hox hn2
      by_cases ht : p.s + n ≤ mark
      · obtain ⟨y1, y2⟩ := done_yes hjl'.out hp.out ht
        have y1' : Hid _ := y1
        have y2' : Hid _ := y2
        clear y1 y2
        go_wp2_with (at_builtin; refine wpList_append_own _ rfl _ _ 34 rfl (w.heap.size + 2) 39 i0 rzero 5 40 Try.underlying34 hi hz0 hz1 hz2 rfl (by decide) _ _ _ rfl (hou.out.alloc _) ⟨X.heap.size, 0, none⟩ 1 1 (rcell p) rfl rfl ?c1 ?c2 ?c3 ?c4 ?c5 ?_)
        case c1 => exact src_cells (cs := (rcell p).toArray) (e := 39) (by show (X.heap.push _)[X.heap.size]? = _; simp [rcell])
        case c2 => rw [← rcs_single]; exact rcs_one [p]
        case c3 => unfold maxLen; omega
        case c4 => omega
        case c5 => simp; omega
        intro u' X3 hown' hg3 _
        have hox3 : Hid (X3.ownsRow (w.heap.size + 2) 141 5 u7 N2 (qcs (stay n mark (L.take j)))) := own_kept (hox.out.alloc _) hg3 (own_unlike hou.out hox.out (by decide))
        have hb4 : Hid (Below (w.heap.size + 2) W X3) := (hbr.out.alloc (by omega) _).grown hg3 (by simp; omega) (fun k hk => (hou.out.lt k hk).1)
        clear hg3
        have hown3 : Hid (X3.ownsRow (w.heap.size + 2) 39 5 u' (N1 + 1) (rcs (done n mark (L.take j)) ++ rcell p)) := hown'
        clear hown'
        go_wp2_with fail
        go_roundw
        case rel =>
          refine ⟨j + 1, by omega, by go_num, ?_, ?_, hb4⟩
          · rw [y1'.out, rcs_append, rcs_single, List.length_append, hN1]; exact hown3
          · rw [y2'.out, hN2]; exact hox3
        case measure => simp [intOf]; omega
      · obtain ⟨y1, y2⟩ := done_no hjl'.out hp.out ht
        have y1' : Hid _ := y1
        have y2' : Hid _ := y2
        clear y1 y2
        go_wp2_with (at_builtin; refine wpList_append_own _ rfl _ _ 92 rfl (w.heap.size + 2) 141 i9 rzero 5 40 Try.underlying92 hi9 hy0 hy1 hy2 rfl (by decide) _ _ _ rfl (hox.out.alloc _) ⟨X.heap.size, 0, none⟩ 1 1 (qcell p) rfl rfl ?e1 ?e2 ?e3 ?e4 ?e5 ?_)
        case e1 => intro j u h; exact h
        case e2 => rw [← qcs_single]; exact qcs_one [p]
        case e3 => unfold maxLen; omega
        case e4 => omega
        case e5 => first | omega | (simp; omega)
        intro u' X3 hown' hg3 _
        have hou3 : Hid (X3.ownsRow (w.heap.size + 2) 39 5 u6 N1 (rcs (done n mark (L.take j)))) := own_kept (hou.out.alloc _) hg3 (own_unlike hox.out hou.out (by decide))
        have hb4 : Hid (Below (w.heap.size + 2) W X3) := (hbr.out.alloc (by omega) _).grown hg3 (by simp; omega) (fun k hk => (hox.out.lt k hk).1)
        clear hg3
        have hown3 : Hid (X3.ownsRow (w.heap.size + 2) 141 5 u' (N2 + 1) (qcs (stay n mark (L.take j)) ++ qcell p)) := hown'
        clear hown'
        go_wp2_with fail
        go_roundw
        case rel =>
          refine ⟨j + 1, by omega, by go_num, ?_, ?_, hb4⟩
          · rw [y1'.out, hN1]; exact hou3
          · rw [y2'.out, qcs_append, qcs_single, List.length_append, hN2]; exact hown3
        case measure => simp [intOf]; omega
    · obtain rfl : j = m := by omega
      have hfx : L.take j = L := List.take_of_length_le (by rw [hm.out]; exact Nat.le_refl _)
      rw [hfx] at hou hox
      have hform : ∃ a l c, u7 = .slice a l c := by
        obtain ⟨_, ⟨rfl, _⟩ | ⟨g, cap, cur, rfl, _⟩⟩ := hox.out
        · exact ⟨_, _, _, rfl⟩
        · exact ⟨_, _, _, rfl⟩
      obtain ⟨ax, lx, cx, rfl⟩ := hform
      obtain ⟨d0, d1, d2, d3⟩ := hqr.out.c
      have f0 : wr.frozen? ⟨w.heap.size, 3, none⟩ = false := by have h := hqr.out; unfold Qb at h; simp [World.frozen?, h]
      go_upto_region 11 with fail
      refine world_gen (fun X => Hid (Qb X w.heap.size n sl K (.slice ax lx cx)) ∧ Hid (Qb X (w.heap.size + 1) 0 0 0 (.slice none 0 0)) ∧ Hid (X.ownsRow (w.heap.size + 2) 39 5 u6 (done n mark L).length (rcs (done n mark L))) ∧ Hid (X.ownsRow (w.heap.size + 2) 141 5 (.slice ax lx cx) (stay n mark L).length (qcs (stay n mark L))) ∧ Hid (Below w.heap.size w X)) ⟨hqr.out.set3, hqs.out.keep (Below.heap_setCell _ _ _ _ (show w.heap.size + 1 ≠ w.heap.size by omega)), own_set hou.out (show w.heap.size < w.heap.size + 2 by omega) _, own_set hox.out (show w.heap.size < w.heap.size + 2 by omega) _, (hbw.out.trans (hbr.out.mono (by omega))).setCell (Nat.le_refl _) _⟩ ?_
      rintro X ⟨hqx, hqy, hou2, hox2, hbx⟩
      clear d0 d1 d2 d3 f0
      obtain ⟨d0, d1, d2, d3⟩ := hqx.out.c
      obtain ⟨e0, e1, e2, e3⟩ := hqy.out.c
      have f0 : X.frozen? ⟨w.heap.size + 1, 0, none⟩ = false := by have h := hqy.out; unfold Qb at h; simp [World.frozen?, h]
      have f1 : X.frozen? ⟨w.heap.size + 1, 1, none⟩ = false := by have h := hqy.out; unfold Qb at h; simp [World.frozen?, h]
      have f2 : X.frozen? ⟨w.heap.size + 1, 2, none⟩ = false := by have h := hqy.out; unfold Qb at h; simp [World.frozen?, h]
      have f3 : X.frozen? ⟨w.heap.size + 1, 3, none⟩ = false := by have h := hqy.out; unfold Qb at h; simp [World.frozen?, h]
      go_wp2_with fail
      have hqz : Qb _ (w.heap.size + 1) n sl K (.slice ax lx cx) := hqy.out.set
      have hoz := own_set (own_set (own_set (own_set hou2.out (a := ⟨w.heap.size + 1, 0, none⟩) (show w.heap.size + 1 < w.heap.size + 2 by omega) (.int .i64 n)) (a := ⟨w.heap.size + 1, 1, none⟩) (show w.heap.size + 1 < w.heap.size + 2 by omega) (.int .i64 sl)) (a := ⟨w.heap.size + 1, 2, none⟩) (show w.heap.size + 1 < w.heap.size + 2 by omega) (.int .i64 K)) (a := ⟨w.heap.size + 1, 3, none⟩) (show w.heap.size + 1 < w.heap.size + 2 by omega) (.slice ax lx cx)
      have hxz := own_set (own_set (own_set (own_set hox2.out (a := ⟨w.heap.size + 1, 0, none⟩) (show w.heap.size + 1 < w.heap.size + 2 by omega) (.int .i64 n)) (a := ⟨w.heap.size + 1, 1, none⟩) (show w.heap.size + 1 < w.heap.size + 2 by omega) (.int .i64 sl)) (a := ⟨w.heap.size + 1, 2, none⟩) (show w.heap.size + 1 < w.heap.size + 2 by omega) (.int .i64 K)) (a := ⟨w.heap.size + 1, 3, none⟩) (show w.heap.size + 1 < w.heap.size + 2 by omega) (.slice ax lx cx)
      have hbz := (((hbx.out.setCell (p := ⟨w.heap.size + 1, 0, none⟩) (show w.heap.size ≤ w.heap.size + 1 by omega) (.int .i64 n)).setCell (p := ⟨w.heap.size + 1, 1, none⟩) (show w.heap.size ≤ w.heap.size + 1 by omega) (.int .i64 sl)).setCell (p := ⟨w.heap.size + 1, 2, none⟩) (show w.heap.size ≤ w.heap.size + 1 by omega) (.int .i64 K)).setCell (p := ⟨w.heap.size + 1, 3, none⟩) (show w.heap.size ≤ w.heap.size + 1 by omega) (.slice ax lx cx)
      clear d0 d1 d2 d3 e0 e1 e2 e3 f0 f1 f2 f3
      generalize ((((X.setCell ⟨w.heap.size + 1, 0, none⟩ (.int .i64 n)).setCell ⟨w.heap.size + 1, 1, none⟩ (.int .i64 sl)).setCell ⟨w.heap.size + 1, 2, none⟩ (.int .i64 K)).setCell ⟨w.heap.size + 1, 3, none⟩ (.slice ax lx cx)) = Z at hqz hoz hxz hbz ⊢
      obtain ⟨e0, e1, e2, e3⟩ := hqz.c
      exact bodyPost_ret (v := .tuple #[.agg #[.int .i64 n, .int .i64 sl, .int .i64 K, .slice ax lx cx], u6]) (by simp [results, Try.results58, go_sem, e0, e1, e2, e3]) rfl ⟨_, _, rfl, own_base hxz (by omega), own_base hoz (by omega), hbz⟩
end Go.Proofs.Ytnamjnopicghhaa
