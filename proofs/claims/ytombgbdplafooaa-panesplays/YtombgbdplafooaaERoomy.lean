/- What cordonbook.Same, Roomy and Intact do with events. -/
import Derived.Test.YtombgbdplafooaaPut
import Derived.Test.YtombgbdplafooaaSame
import Derived.Test.YtombgbdplafooaaECopy
import Derived.Deep.QuietTactic
import Derived.BigQuiet
namespace Go.Proofs.Ytombgbdplafooaa
open Go.RowKit M
set_option linter.unusedVariables false
set_option linter.unusedSimpArgs false
attribute [local go_sem ↓] Go.wp_at_zero Go.wp_at_succ

def EvkE (w : World) (b : Nat) (e : Ev) : Prop := w.heap[b]? = some (.cells #[.int .i64 e.t, .int .i64 e.k, .int .i64 e.v, .int .u64 e.l] 35 (0, 0))
theorem EvkE.c {w : World} {b : Nat} {e : Ev} (h : EvkE w b e) : EvAt w b 0 e := by
  unfold EvkE at h; exact ⟨by simp [World.cell?, h], by simp [World.cell?, h], by simp [World.cell?, h], by simp [World.cell?, h]⟩
theorem EvkE.lt {w : World} {b : Nat} {e : Ev} (h : EvkE w b e) : b < w.heap.size := (Array.getElem?_eq_some_iff.1 h).1
theorem EvkE.call {w w' : World} {b : Nat} {e : Ev} (h : EvkE w b e) (hb : Below w.heap.size w w') : EvkE w' b e := (hb.block b h.lt).trans h
theorem evkE_new (w : World) (e : Ev) : EvkE (w.alloc (.cells #[.int .i64 e.t, .int .i64 e.k, .int .i64 e.v, .int .u64 e.l] 35)) w.heap.size e := by
  show (w.heap.push _)[w.heap.size]? = _
  simp
def ezeroV : Value := .agg #[.int .i64 0, .int .i64 0, .int .i64 0, .int .u64 0]
theorem Try.info35 : (Try.prog.info? 35).map (fun i => (i.zero, i.size, i.bytes)) = some (some ezeroV, 4, 32) := by kernel_rfl
theorem evs_drop : ∀ (es : List Ev) (i : Nat), (evs es).drop (i * 4) = evs (es.drop i)
  | [], i => by simp [evs]
  | x :: s, 0 => by simp
  | x :: s, i + 1 => by
    have hc : (evCells x).length = 4 := rfl
    rw [evs_cons, List.drop_succ_cons, ← evs_drop s i, List.drop_append, hc, List.drop_of_length_le (by omega), show (i + 1) * 4 - 4 = i * 4 by omega, List.nil_append]
set_option maxHeartbeats 1000000 in
set_option maxRecDepth 100000 in
theorem same_e (v1 v2 : Value) (q1 q2 : Nat) (L : List Ev) (w : World) (h1 : RdE w v1 q1 L) (h2 : RdE w v2 q2 L) :
    Calls Try.prog 52 #[v1, v2] w fun e w' => e = .returned (.bool true) ∧ Below w.heap.size w w' := by
  obtain ⟨hl1, _, ao, cap, rfl, _, _, hc0⟩ := h1
  obtain ⟨_, _, ao2, cap2, rfl, _, _, hc2⟩ := h2
  have hc' : Hid (L.length ≠ 0 → ∃ off, ao = some ⟨q1, off, none⟩ ∧ q1 < w.heap.size ∧ ∀ j, j < L.length → EvAt w q1 (off + j * 4) (eAt L j)) := hc0
  have hd' : Hid (L.length ≠ 0 → ∃ off, ao2 = some ⟨q2, off, none⟩ ∧ q2 < w.heap.size ∧ ∀ j, j < L.length → EvAt w q2 (off + j * 4) (eAt L j)) := hc2
  clear hc0 hc2
  obtain ⟨m, hm⟩ : ∃ m, Hid (L.length = m) := ⟨_, rfl⟩
  rw [hm.out] at hc' hd' hl1 ⊢
  go_enter Try.func52, Try.ntmps52
  go_wp2_with fail
  go_loopw [5] (fun i wr => ∃ k n : Nat, k ≤ m ∧ i = .int .i64 k ∧ wr = w.drewN n) (fun i _ => m - (intOf i).toNat)
  case atStart => exact ⟨0, 0, Nat.zero_le _, rfl, rfl⟩
  case round =>
    obtain ⟨k, n, hk, rfl, rfl⟩ := hrel
    by_cases hlt : k < m
    · obtain ⟨off, rfl, _, hc⟩ := hc'.out (by omega)
      obtain ⟨off2, rfl, _, hd⟩ := hd'.out (by omega)
      obtain ⟨p0, p1, p2, p3⟩ := hc k hlt
      obtain ⟨r0, r1, r2, r3⟩ := hd k hlt
      clear hc hd hc' hd'
      obtain ⟨⟨x1, x2, x3, x4⟩, hee⟩ : ∃ x, eAt L k = x := ⟨_, rfl⟩
      rw [hee] at p0 p1 p2 p3 r0 r1 r2 r3
      clear hee
      simp only at p0 p1 p2 p3 r0 r1 r2 r3
      go_wp2_with fail
      go_quiet (fail)
      go_wp2_with fail
      go_roundw
      case rel => exact ⟨k + 1, n + nq, by omega, by go_num, rfl⟩
      case measure => simp [intOf]; omega
    · go_wp2_with fail
      go_ret
      exact ⟨rfl, below_drewN (Below.refl _ _) _⟩
abbrev zeroE4 : Ev := ⟨0, 0, 0, 0⟩
theorem Try.size35 : (Try.prog.info? 35).map (·.size) = some 4 := by kernel_rfl
def roomyE (zs : List Ev) (mark : Ev) (k : Nat) : List Ev := zs ++ List.replicate k mark ++ List.replicate (80 - k) zeroE4
theorem roomy_lenE (zs : List Ev) (mark : Ev) (k : Nat) (h : k ≤ 80) : (roomyE zs mark k).length = zs.length + 80 := by simp [roomyE]; omega
theorem roomy_setE (zs : List Ev) (mark : Ev) (k : Nat) (h : k < 80) :
    ((((evs (roomyE zs mark k)).set ((zs.length + k) * 4) (.int .i64 mark.t)).set ((zs.length + k) * 4 + 1) (.int .i64 mark.k)).set ((zs.length + k) * 4 + 2) (.int .i64 mark.v)).set ((zs.length + k) * 4 + 3) (.int .u64 mark.l) = evs (roomyE zs mark (k + 1)) := by
  unfold roomyE
  obtain ⟨r, hr⟩ : ∃ r, 80 - k = r + 1 := ⟨80 - k - 1, by omega⟩
  have hr' : 80 - (k + 1) = r := by omega
  rw [hr, hr', List.replicate_succ, evs_append, List.replicate_succ' (n := k)]
  have hl : (evs (zs ++ List.replicate k mark)).length = (zs.length + k) * 4 := by rw [evs_len]; simp
  have e1 : evs (zeroE4 :: List.replicate r zeroE4) = .int .i64 0 :: .int .i64 0 :: .int .i64 0 :: .int .u64 0 :: evs (List.replicate r zeroE4) := rfl
  rw [e1, List.set_append_right _ _ (by omega), hl, Nat.sub_self, List.set_cons_zero, List.set_append_right _ _ (by omega), hl, Nat.add_sub_cancel_left, List.set_cons_succ, List.set_cons_zero,
    List.set_append_right _ _ (by omega), hl, Nat.add_sub_cancel_left, List.set_cons_succ, List.set_cons_succ, List.set_cons_zero,
    List.set_append_right _ _ (by omega), hl, Nat.add_sub_cancel_left, List.set_cons_succ, List.set_cons_succ, List.set_cons_succ, List.set_cons_zero]
  simp only [← List.append_assoc, evs_append]
  simp only [List.append_assoc]
  rfl
theorem roomy_endE (zs : List Ev) (mark : Ev) : roomyE zs mark 80 = zs ++ List.replicate 80 mark := by simp [roomyE]
theorem rep_atE (zs : List Ev) (mark : Ev) (N k : Nat) (h : k < N) : eAt (zs ++ List.replicate N mark) (zs.length + k) = mark := by
  unfold eAt
  rw [List.getD_eq_getElem?_getD, List.getElem?_append_right (by omega), Nat.add_sub_cancel_left, List.getElem?_replicate, if_pos h]
  rfl
theorem pre_atE (zs ys : List Ev) (k : Nat) (h : k < zs.length) : eAt (zs ++ ys) k = eAt zs k := by
  unfold eAt
  rw [List.getD_eq_getElem?_getD, List.getD_eq_getElem?_getD, List.getElem?_append_left h]
theorem madeE (n : Nat) : (madeCells #[Value.int .i64 0, .int .i64 0, .int .i64 0, .int .u64 0] (n * 4)).toList = evs (List.replicate n zeroE4) := by
  apply List.ext_getElem?
  intro j
  by_cases hj : j < n * 4
  · have e : j = j / 4 * 4 + j % 4 := by omega
    have hq : j / 4 < n := by omega
    have hr : j % 4 < 4 := Nat.mod_lt _ (by decide)
    have hz := evs_at (List.replicate n zeroE4) (j / 4) (j % 4) hr (by simpa using hq)
    rw [← e] at hz
    have hi : eAt (List.replicate n zeroE4) (j / 4) = zeroE4 := by
      have := rep_atE [] zeroE4 n (j / 4) hq
      simpa using this
    rw [hz, hi]
    have h5 : j % 4 = 0 ∨ j % 4 = 1 ∨ j % 4 = 2 ∨ j % 4 = 3 := by omega
    rcases h5 with h5 | h5 | h5 | h5 <;> simp [madeCells, hj, h5, evCells]
  · have hl : (evs (List.replicate n zeroE4)).length = n * 4 := by rw [evs_len]; simp
    have h2 : (evs (List.replicate n zeroE4))[j]? = none := List.getElem?_eq_none (by rw [hl]; omega)
    rw [h2]
    simp [madeCells, hj]
theorem spliceE (zs : List Ev) (m : Ev) : splice (evs (List.replicate (zs.length + 80) zeroE4)) 0 (evs zs) = evs (roomyE zs m 0) := by
  unfold splice roomyE
  rw [List.take_zero, List.nil_append, Nat.zero_add, evs_len, evs_drop, List.drop_replicate, show zs.length + 80 - zs.length = 80 by omega, List.replicate_zero, List.append_nil, evs_append]
theorem evs_some {is : List Ev} {j : Nat} {u : Value} (h : (evs is)[j]? = some u) : j / 4 < is.length ∧ (evCells (eAt is (j / 4)))[j % 4]? = some u := by
  have hl := (List.getElem?_eq_some_iff.1 h).1
  rw [evs_len] at hl
  have h1 : j / 4 < is.length := by omega
  have h2 := evs_at is (j / 4) (j % 4) (Nat.mod_lt _ (by decide)) h1
  rw [show j / 4 * 4 + j % 4 = j by omega] at h2
  exact ⟨h1, h2.symm.trans h⟩
set_option maxHeartbeats 2000000 in
set_option maxRecDepth 100000 in
theorem roomy_e (v : Value) (qb : Nat) (zs : List Ev) (mark : Ev) (w : World) (hv : RdE w v qb zs) (hl : zs.length ≤ 60) :
    Calls Try.prog 14 #[v, .agg #[.int .i64 mark.t, .int .i64 mark.k, .int .i64 mark.v, .int .u64 mark.l]] w fun e w' => ∃ u, e = .returned u ∧ w'.ownsRow w.heap.size 35 4 u (zs ++ List.replicate 80 mark).length (evs (zs ++ List.replicate 80 mark)) ∧ Below w.heap.size w w' := by
  obtain ⟨i0, hi, hz0, hz1, hz2⟩ := info_parts Try.info35
  obtain ⟨_, _, ao, cap, rfl, _, _, hc⟩ := hv
  have hc' : Hid (zs.length ≠ 0 → ∃ off, ao = some ⟨qb, off, none⟩ ∧ qb < w.heap.size ∧ ∀ j, j < zs.length → EvAt w qb (off + j * 4) (eAt zs j)) := hc
  clear hc
  obtain ⟨n, hn⟩ : ∃ n, n = zs.length := ⟨_, rfl⟩
  have hl' : n ≤ 60 := by omega
  have hn' : Hid (n = zs.length) := hn
  rw [← hn]
  clear hn hl
  obtain ⟨mt, my, mv, ml⟩ := mark
  go_enter Try.func14, Try.ntmps14
  go_upto_region 1 with fail
  refine world_gen (fun W => EvkE W w.heap.size ⟨mt, my, mv, ml⟩ ∧ w.heap.size < W.heap.size ∧ Below w.heap.size w W) ⟨evkE_new w ⟨mt, my, mv, ml⟩, by simp, below_alloc _ _⟩ ?_
  rintro W0 ⟨k0, hlt0, h0⟩
  obtain ⟨g, hg⟩ : ∃ g, Hid (w.heap.size = g) := ⟨_, rfl⟩
  rw [hg.out] at k0 ⊢
  go_upto_region 2 with (at_make; refine wpList_make_full _ rfl _ _ 29 rfl W0.heap.size 35 i0 ezeroV 4 Try.underlying29 hi hz0 hz1 _ _ _ _ (n + 80) rfl rfl (by omega) (by omega) (by rw [hz2]; omega) (by unfold maxLen; omega) (Nat.le_refl _) ?_; intro w0 hown0 hgrow0)
  have hb0 : Below W0.heap.size W0 w0 := (Below.refl _ _).grown hgrow0 (Nat.le_refl _) (fun k hk => by cases hk)
  go_wp2_with (refine wpList_copyE_rows rfl _ _ 29 29 rfl 35 4 Try.underlying29 Try.size35 _ _ _ _ _ _ rfl rfl W0.heap.size 0 (evs (List.replicate (n + 80) zeroE4)) 35 ?g1 (evs zs) n ?gm ?g2 ?g3 ?g4 (evs_one zs) W0.heap.size W0 hb0 (Nat.le_refl _) ?_)
  case g1 =>
    obtain ⟨_, h | ⟨g, cap', cur, hvv, _, hh, _, _, hs, ht⟩⟩ := hown0
    · cases h.1
    · cases hvv
      rw [hh]
      congr 2
      have e1 : cur.toList = evs (List.replicate (n + 80) zeroE4) := by
        rw [List.take_of_length_le (by simp; omega)] at ht
        rw [ht]; exact madeE (n + 80)
      rw [← e1]
  case gm => simp only [Nat.min_def]; split <;> omega
  case g2 => rw [evs_len, ← hn'.out]
  case g3 =>
    intro hpos
    obtain ⟨off, rfl, hblt, hcell⟩ := hc'.out (by have := hn'.out; omega)
    refine ⟨_, rfl, fun j u hj => ?_⟩
    obtain ⟨q1, q2⟩ := evs_some hj
    have hb1 : Below w.heap.size w w0 := below_call h0 hb0
    obtain ⟨c0, c1, c2, c3⟩ := (hcell (j / 4) q1).keep (hb1.block qb hblt)
    have ha : (⟨qb, off, none⟩ : Addr).add j = ⟨qb, off + (j / 4) * 4 + j % 4, none⟩ := by
      have e2 : off + j / 4 * 4 + j % 4 = off + j := by omega
      rw [e2]; simp [Addr.add]
    rw [ha]
    have h5 : j % 4 = 0 ∨ j % 4 = 1 ∨ j % 4 = 2 ∨ j % 4 = 3 := by omega
    rcases h5 with h5 | h5 | h5 | h5 <;> rw [h5] at q2 ⊢ <;> simp [evCells] at q2 <;> subst q2 <;> assumption
  case g4 => rw [evs_len, ← hn'.out, evs_len]; simp; omega
  intro w1 hg1 hb1
  have hown1 : w1.ownsRow W0.heap.size 35 4 (.slice (some ⟨W0.heap.size, 0, none⟩) (n + 80) (n + 80)) (n + 80) (evs (roomyE zs ⟨mt, my, mv, ml⟩ 0)) := by
    have h := hg1.out
    rw [hn'.out, spliceE zs ⟨mt, my, mv, ml⟩] at h
    have hlen : (evs (roomyE zs ⟨mt, my, mv, ml⟩ 0)).length = (n + 80) * 4 := by rw [evs_len, roomy_lenE _ _ _ (by decide), ← hn'.out]
    refine ⟨by rw [hlen], .inr ⟨W0.heap.size, n + 80, _, rfl, Nat.le_refl _, h, Nat.le_refl _, by unfold maxLen; omega, by simpa using hlen, ?_⟩⟩
    rw [List.take_of_length_le (by simp [hlen])]
  have k1 := k0.call hb1
  clear hg1 hown0 hgrow0 hb0 k0
  have r0 : W0.heap.size ≠ g := by have := hg.out; omega
  go_wp2_with fail
  go_loopw [6] (fun i wr => ∃ k : Nat, k ≤ 80 ∧ i = .int .i64 ((n + k : Nat) : Int) ∧ wr.ownsRow W0.heap.size 35 4 (.slice (some ⟨W0.heap.size, 0, none⟩) (n + 80) (n + 80)) (n + 80) (evs (roomyE zs ⟨mt, my, mv, ml⟩ k)) ∧ EvkE wr g ⟨mt, my, mv, ml⟩ ∧ Below W0.heap.size W0 wr) (fun i _ => n + 80 - (intOf i).toNat)
  case atStart => exact ⟨0, by decide, by go_num, hown1, k1, hb1⟩
  case round =>
    obtain ⟨k, hk, rfl, hown, ko, hbw⟩ := hrel
    clear hown1 hb1 k1
    by_cases hlt : k < 80
    · have hlen : (evs (roomyE zs ⟨mt, my, mv, ml⟩ k)).length = (n + 80) * 4 := by rw [evs_len, roomy_lenE _ _ _ hk, ← hn'.out]
      have hcx : ∀ r, r < 4 → ∃ c, wr.cell? ⟨W0.heap.size, (n + k) * 4 + r, none⟩ = some c := fun r hr => by
        have := hown.cellAt ((n + k) * 4 + r) (by omega)
        rw [this]
        exact ⟨_, List.getElem?_eq_getElem (by omega)⟩
      obtain ⟨c0, hc0⟩ : ∃ c, wr.cell? ⟨W0.heap.size, (n + k) * 4, none⟩ = some c := hcx 0 (by decide)
      obtain ⟨c1, hc1⟩ := hcx 1 (by decide)
      obtain ⟨c2, hc2⟩ := hcx 2 (by decide)
      obtain ⟨c3, hc3⟩ := hcx 3 (by decide)
      have hf := hown.frozenAt ((n + k) * 4)
      have hf1 := hown.frozenAt ((n + k) * 4 + 1)
      have hf2 := hown.frozenAt ((n + k) * 4 + 2)
      have hf3 := hown.frozenAt ((n + k) * 4 + 3)
      have hst := (((hown.stored ((n + k) * 4) (.int .i64 mt)).1.stored ((n + k) * 4 + 1) (.int .i64 my)).1.stored ((n + k) * 4 + 2) (.int .i64 mv)).1.stored ((n + k) * 4 + 3) (.int .u64 ml)
      have hset := roomy_setE zs ⟨mt, my, mv, ml⟩ k hlt
      rw [← hn'.out] at hset
      have hst' : Hid (((((wr.setCell ⟨W0.heap.size, (n + k) * 4, none⟩ (.int .i64 mt)).setCell ⟨W0.heap.size, (n + k) * 4 + 1, none⟩ (.int .i64 my)).setCell ⟨W0.heap.size, (n + k) * 4 + 2, none⟩ (.int .i64 mv)).setCell ⟨W0.heap.size, (n + k) * 4 + 3, none⟩ (.int .u64 ml)).ownsRow W0.heap.size 35 4 (.slice (some ⟨W0.heap.size, 0, none⟩) (n + 80) (n + 80)) (n + 80) (evs (roomyE zs ⟨mt, my, mv, ml⟩ (k + 1))) ∧
          EvkE ((((wr.setCell ⟨W0.heap.size, (n + k) * 4, none⟩ (.int .i64 mt)).setCell ⟨W0.heap.size, (n + k) * 4 + 1, none⟩ (.int .i64 my)).setCell ⟨W0.heap.size, (n + k) * 4 + 2, none⟩ (.int .i64 mv)).setCell ⟨W0.heap.size, (n + k) * 4 + 3, none⟩ (.int .u64 ml)) g ⟨mt, my, mv, ml⟩ ∧
          Below W0.heap.size W0 ((((wr.setCell ⟨W0.heap.size, (n + k) * 4, none⟩ (.int .i64 mt)).setCell ⟨W0.heap.size, (n + k) * 4 + 1, none⟩ (.int .i64 my)).setCell ⟨W0.heap.size, (n + k) * 4 + 2, none⟩ (.int .i64 mv)).setCell ⟨W0.heap.size, (n + k) * 4 + 3, none⟩ (.int .u64 ml))) := by
        refine ⟨?_, ?_, (((hbw.setCell (p := ⟨W0.heap.size, (n + k) * 4, none⟩) (Nat.le_refl _) _).setCell (p := ⟨W0.heap.size, (n + k) * 4 + 1, none⟩) (Nat.le_refl _) _).setCell (p := ⟨W0.heap.size, (n + k) * 4 + 2, none⟩) (Nat.le_refl _) _).setCell (p := ⟨W0.heap.size, (n + k) * 4 + 3, none⟩) (Nat.le_refl _) _⟩
        · have := hst.1
          simp only at hset
          rw [hset] at this; exact this
        · unfold EvkE at ko ⊢
          rw [Below.heap_setCell _ _ _ _ (Ne.symm r0), Below.heap_setCell _ _ _ _ (Ne.symm r0), Below.heap_setCell _ _ _ _ (Ne.symm r0), Below.heap_setCell _ _ _ _ (Ne.symm r0)]; exact ko
      clear hst hset hown hcx hlen
      obtain ⟨m0, m1, m2, m3⟩ := ko.c
      simp only [Nat.zero_add] at m0 m1 m2 m3
      go_wp2
      go_roundw
      case rel => exact ⟨k + 1, by omega, by go_num, hst'.out.1, hst'.out.2.1, hst'.out.2.2⟩
      case measure => simp [intOf]; omega
    · have : k = 80 := by omega
      subst this
      go_wp2
      go_ret
      refine ⟨_, rfl, ?_, below_call h0 hbw⟩
      rw [← roomy_endE, roomy_lenE _ _ _ (by decide), ← hn'.out]
      obtain ⟨q1, q | ⟨g1, cp, cur, q2, q3, q4⟩⟩ := hown
      · exact ⟨q1, .inl q⟩
      · exact ⟨q1, .inr ⟨g1, cp, cur, q2, Nat.le_trans (Nat.le_of_lt hlt0) q3, q4⟩⟩
set_option maxHeartbeats 2000000 in
set_option maxRecDepth 100000 in
theorem intact_e (vf vw : Value) (qf qw : Nat) (zs : List Ev) (mark : Ev) (w : World) (hf : RdE w vf qf (zs ++ List.replicate 80 mark)) (hv : RdE w vw qw zs) (hl : zs.length ≤ 60) :
    Calls Try.prog 17 #[vf, vw, .agg #[.int .i64 mark.t, .int .i64 mark.k, .int .i64 mark.v, .int .u64 mark.l]] w fun e w' => e = .returned (.bool true) ∧ Below w.heap.size w w' := by
  obtain ⟨mt, my, mv, ml⟩ := mark
  obtain ⟨_, hfl, af, capf, rfl, hcf, hcm0, hf⟩ := hf
  obtain ⟨off, rfl, hblt, hcell⟩ := hf (by simp)
  have hv2 := hv
  obtain ⟨_, hvl, aw, capw, rfl, _, _, _⟩ := hv
  have e1 : (zs ++ List.replicate 80 (⟨mt, my, mv, ml⟩ : Ev)).length = zs.length + 80 := by simp
  rw [e1] at hcf hcell ⊢
  have hrd : Hid (RdE w (.slice (some ⟨qf, off, none⟩) zs.length capf) qf zs) := by
    refine ⟨by omega, hvl, _, capf, rfl, by omega, hcm0, fun _ => ⟨off, rfl, hblt, fun j hj => ?_⟩⟩
    have := hcell j (by omega)
    rw [pre_atE zs _ j hj] at this; exact this
  have hcm : Hid (∀ k, k < 80 → EvAt w qf (off + (zs.length + k) * 4) ⟨mt, my, mv, ml⟩) := by
    intro k hk
    have := hcell (zs.length + k) (by omega)
    rw [rep_atE zs ⟨mt, my, mv, ml⟩ 80 k hk] at this; exact this
  have hv3 : Hid (RdE w (.slice aw zs.length capw) qw zs) := hv2
  clear hcell hf hv2 hfl hvl
  obtain ⟨n, hn⟩ : ∃ n, n = zs.length := ⟨_, rfl⟩
  have hn' : Hid (n = zs.length) := hn
  rw [← hn] at hcf hl hrd hcm hv3 ⊢
  clear hn e1
  go_enter Try.func17, Try.ntmps17
  go_upto_region 1 with fail
  refine world_gen (fun W => EvkE W w.heap.size ⟨mt, my, mv, ml⟩ ∧ Below w.heap.size w W) ⟨evkE_new w ⟨mt, my, mv, ml⟩, below_alloc _ _⟩ ?_
  rintro W0 ⟨k0, h0⟩
  have hrd0 : Hid (RdE W0 _ qf zs) := hrd.out.below h0
  have hv0 : Hid (RdE W0 _ qw zs) := hv3.out.below h0
  clear hrd hv3
  obtain ⟨g, hg⟩ : ∃ g, Hid (w.heap.size = g) := ⟨_, rfl⟩
  rw [hg.out] at k0 ⊢
  go_wp2_with fail
  refine (same_e _ _ qf qw zs _ hrd0.out hv0.out).mono ?_
  rintro e w2 ⟨rfl, b2⟩
  have h2 := below_call h0 b2
  have k2 := k0.call b2
  clear b2 h0 k0 hrd0 hv0
  go_wp2_with fail
  go_loopw [7] (fun i wr => ∃ k : Nat, k ≤ 80 ∧ i = .int .i64 ((n + k : Nat) : Int) ∧ EvkE wr g ⟨mt, my, mv, ml⟩ ∧ Below w.heap.size w wr) (fun i _ => n + 80 - (intOf i).toNat)
  case atStart => exact ⟨0, by decide, by go_num, k2, h2⟩
  case round =>
    obtain ⟨k, hk, rfl, ko, hbw⟩ := hrel
    clear k2 h2
    by_cases hlt : k < 80
    · obtain ⟨p0, p1, p2, p3⟩ := (hcm.out k hlt).keep (hbw.block qf hblt)
      obtain ⟨m0, m1, m2, m3⟩ := ko.c
      simp only [Nat.zero_add] at p0 p1 p2 p3 m0 m1 m2 m3
      go_wp2_with fail
      go_quiet (fail)
      go_wp2_with fail
      go_roundw
      case rel => exact ⟨k + 1, by omega, by go_num, ko.call (below_drewN (Below.refl _ _) nq), below_drewN hbw nq⟩
      case measure => simp [intOf]; omega
    · have : k = 80 := by omega
      subst this
      go_wp2
      go_ret
      exact ⟨rfl, hbw⟩
end Go.Proofs.Ytombgbdplafooaa
