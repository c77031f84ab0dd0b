/- cordonbook's Same, Roomy and Intact of inputs. -/
import Derived.Test.YtmkdhgjnfnfliaaQueue
import Derived.Laws.CopyOwn
namespace Go.Proofs.Ytmkdhgjnfnfliaa
open Go.RowKit
set_option linter.unusedVariables false
set_option linter.unusedSimpArgs false
attribute [local go_sem ↓] Go.wp_at_zero Go.wp_at_succ

section
variable {P : Program}
theorem run_copy_rows (w : World) (dT sT ty elem : TypeId) (g o dLen dCap : Nat) (a : Addr) (sLen sCap : Nat) (cur : Array Value) (t : TypeId) (cs : List Value) (sz m : Nat)
    (hu : P.underlying dT = some (.slice elem)) (hs : (P.info? elem).map (·.size) = some sz)
    (hg : w.heap[g]? = some (.cells cur t (0, 0))) (hm : Nat.min sLen dLen = m) (hn : cs.length = m * sz)
    (hsrc : ∀ j v, cs[j]? = some v → w.cell? (a.add j) = some v) (hfit : o + cs.length ≤ cur.size) (h1 : ∀ v ∈ cs, v.oneCell' = true) :
    (Builtin.copy_ #[dT, sT] ty #[.slice (some ⟨g, o, none⟩) dLen dCap, .slice (some a) sLen sCap]).run P w =
      .ok (goInt m) (w.setRow g (cur.toList.take o ++ cs ++ cur.toList.drop (o + cs.length)).toArray) := by
  have hl := run_loadCells_list (P := P) w a cs hsrc
  have hst := run_storeCells_at P g o t cs 0 cur w hg (by simpa using hfit) h1
  cases hq : P.info? elem with
  | none => simp [hq] at hs
  | some i =>
    have hi : i.size = sz := by simpa [hq] using hs
    rw [hn] at hl
    simp [Builtin.copy_, run_underlying hu, Builtin.lenOf, Builtin.firstCells, sizeOf, typeInfo, hq, hi, hm, hl, hst]
theorem run_copy_nought (w : World) (dT sT ty elem : TypeId) (d a : Option Addr) (dLen dCap sLen sCap sz : Nat) (hu : P.underlying dT = some (.slice elem)) (hs : (P.info? elem).map (·.size) = some sz) (hn : Nat.min sLen dLen = 0) :
    (Builtin.copy_ #[dT, sT] ty #[.slice d dLen dCap, .slice a sLen sCap]).run P w = .ok (goInt 0) w := by
  cases hq : P.info? elem with
  | none => simp [hq] at hs
  | some i =>
    have hl : ∀ (x : Addr), (loadCells x 0).run P w = .ok #[] w := fun x => by simpa using run_loadCells_list (P := P) w x [] (by simp)
    cases d <;> cases a <;> simp [Builtin.copy_, run_underlying hu, Builtin.lenOf, Builtin.firstCells, sizeOf, typeInfo, hq, hn, storeCells, hl]
theorem wpList_copy_rows {w : World} {ops : Array Oper} {rest : List Oper} {o : Oper} {a : Act} {Q : Exit → Act → World → Prop} (hgd : o.guard = none) (d s : Operand) (dT sT : TypeId)
    (ho : o.op = .call { callee := .builtin .copy, args := #[d, s], argTypes := #[dT, sT] }) (elem : TypeId) (sz : Nat) (hu : P.underlying dT = some (.slice elem)) (hsz : (P.info? elem).map (·.size) = some sz)
    (dp sp : Option Addr) (dLen dCap sLen sCap : Nat) (hd : a.eval d = .slice dp dLen dCap) (hs : a.eval s = .slice sp sLen sCap)
    (g off : Nat) (cur : List Value) (t : TypeId) (hg : w.heap[g]? = some (.cells cur.toArray t (0, 0))) (cs : List Value) (m : Nat) (hm : Nat.min sLen dLen = m) (hn : cs.length = m * sz)
    (hpos : 0 < m → dp = some ⟨g, off, none⟩ ∧ ∃ ad, sp = some ad ∧ ∀ j v, cs[j]? = some v → w.cell? (ad.add j) = some v)
    (hfit : off + cs.length ≤ cur.length) (h1 : ∀ v ∈ cs, v.oneCell' = true) (B : Nat) (w0 : World) (hb : Below B w0 w) (hBg : B ≤ g)
    (h : ∀ w', Hid (w'.heap[g]? = some (.cells (splice cur off cs).toArray t (0, 0))) → Below B w0 w' → wpList P ops Q rest (a.put o.dst (goInt m)) w') :
    wpList P ops Q (o :: rest) a w := by
  refine wpList_plain hgd fun K hK => ?_
  by_cases h0 : m = 0
  · subst h0
    obtain rfl : cs = [] := List.eq_nil_of_length_eq_zero (by simpa using hn)
    have hrun := run_copy_nought (P := P) w dT sT o.type elem dp sp dLen dCap sLen sCap sz hu hsz hm
    unfold Oper.wp
    simp [execOp, ho, resolve, invoke, builtin, hd, hs, hrun, Result.andThen]
    exact hK _ _ (h w (show _ = _ by simpa [splice] using hg) hb)
  · obtain ⟨rfl, ad, rfl, hsrc⟩ := hpos (by omega)
    have hrun := run_copy_rows (P := P) w dT sT o.type elem g off dLen dCap ad sLen sCap cur.toArray t cs sz m hu hsz hg hm hn hsrc (by simpa using hfit) h1
    unfold Oper.wp
    simp [execOp, ho, resolve, invoke, builtin, hd, hs, hrun, Result.andThen]
    refine hK _ _ (h _ (show _ = _ by simpa [splice] using setRow_heap w g _ _ t _ hg) (below_setRow hb hBg _))
end
set_option maxHeartbeats 1000000 in
set_option maxRecDepth 100000 in
theorem same_i (v1 v2 : Value) (q1 q2 : Nat) (L : List Inp) (w : World) (h1 : RdI w v1 q1 L) (h2 : RdI w v2 q2 L) :
    Calls Try.prog 14 #[v1, v2] w fun e w' => e = .returned (.bool true) ∧ Below w.heap.size w w' := by
  obtain ⟨hl1, _, ao, cap, rfl, _, _, hc0⟩ := h1
  obtain ⟨_, _, ao2, cap2, rfl, _, _, hc2⟩ := h2
  have hc' : Hid (L.length ≠ 0 → ∃ off, ao = some ⟨q1, off, none⟩ ∧ q1 < w.heap.size ∧ ∀ j, j < L.length → InAt w q1 (off + j * 5) (iAt L j)) := hc0
  have hd' : Hid (L.length ≠ 0 → ∃ off, ao2 = some ⟨q2, off, none⟩ ∧ q2 < w.heap.size ∧ ∀ j, j < L.length → InAt w q2 (off + j * 5) (iAt L j)) := hc2
  clear hc0 hc2
  obtain ⟨m, hm⟩ : ∃ m, Hid (L.length = m) := ⟨_, rfl⟩
  rw [hm.out] at hc' hd' hl1 ⊢
  go_enter Try.func14, Try.ntmps14
  go_wp2_with fail
  go_loopw [5] (fun i wr => ∃ k n : Nat, k ≤ m ∧ i = .int .i64 k ∧ wr = w.drewN n) (fun i _ => m - (intOf i).toNat)
  case atStart => exact ⟨0, 0, Nat.zero_le _, rfl, rfl⟩
  case round =>
    obtain ⟨k, n, hk, rfl, rfl⟩ := hrel
    by_cases hlt : k < m
    · obtain ⟨off, rfl, _, hc⟩ := hc'.out (by omega)
      obtain ⟨off2, rfl, _, hd⟩ := hd'.out (by omega)
      obtain ⟨p0, p1, p2, p3, p4⟩ := hc k hlt
      obtain ⟨r0, r1, r2, r3, r4⟩ := hd k hlt
      clear hc hd hc' hd'
      obtain ⟨⟨x1, ⟨x2, x3, x4, x5⟩⟩, hee⟩ : ∃ x, iAt L k = x := ⟨_, rfl⟩
      rw [hee] at p0 p1 p2 p3 p4 r0 r1 r2 r3 r4
      clear hee
      simp only at p0 p1 p2 p3 p4 r0 r1 r2 r3 r4
      go_wp2_with fail
      go_quiet (fail)
      go_wp2_with fail
      go_roundw
      case rel => exact ⟨k + 1, n + nq, by omega, by go_num, rfl⟩
      case measure => simp [intOf]; omega
    · go_wp2_with fail
      go_ret
      exact ⟨rfl, below_drewN (Below.refl _ _) _⟩

abbrev zeroI : Inp := ⟨false, ⟨0, 0, 0, 0⟩⟩
theorem Try.size71 : (Try.prog.info? 37).map (·.size) = some 5 := by kernel_rfl
def roomyI (zs : List Inp) (mark : Inp) (k : Nat) : List Inp := zs ++ List.replicate k mark ++ List.replicate (80 - k) zeroI
theorem roomy_lenI (zs : List Inp) (mark : Inp) (k : Nat) (h : k ≤ 80) : (roomyI zs mark k).length = zs.length + 80 := by simp [roomyI]; omega
theorem roomy_setI (zs : List Inp) (mark : Inp) (k : Nat) (h : k < 80) :
    (((((ins (roomyI zs mark k)).set ((zs.length + k) * 5) (.bool mark.mrk)).set ((zs.length + k) * 5 + 1) (.int .i64 mark.e.t)).set ((zs.length + k) * 5 + 2) (.int .i64 mark.e.k)).set ((zs.length + k) * 5 + 3) (.int .i64 mark.e.v)).set ((zs.length + k) * 5 + 4) (.int .u64 mark.e.l) = ins (roomyI zs mark (k + 1)) := by
  unfold roomyI
  obtain ⟨r, hr⟩ : ∃ r, 80 - k = r + 1 := ⟨80 - k - 1, by omega⟩
  have hr' : 80 - (k + 1) = r := by omega
  rw [hr, hr', List.replicate_succ, ins_append, List.replicate_succ' (n := k)]
  have hl : (ins (zs ++ List.replicate k mark)).length = (zs.length + k) * 5 := by rw [ins_len]; simp
  have e1 : ins (zeroI :: List.replicate r zeroI) = .bool false :: .int .i64 0 :: .int .i64 0 :: .int .i64 0 :: .int .u64 0 :: ins (List.replicate r zeroI) := rfl
  rw [e1, List.set_append_right _ _ (by omega), hl, Nat.sub_self, List.set_cons_zero, List.set_append_right _ _ (by omega), hl, Nat.add_sub_cancel_left, List.set_cons_succ, List.set_cons_zero,
    List.set_append_right _ _ (by omega), hl, Nat.add_sub_cancel_left, List.set_cons_succ, List.set_cons_succ, List.set_cons_zero,
    List.set_append_right _ _ (by omega), hl, Nat.add_sub_cancel_left, List.set_cons_succ, List.set_cons_succ, List.set_cons_succ, List.set_cons_zero,
    List.set_append_right _ _ (by omega), hl, Nat.add_sub_cancel_left, List.set_cons_succ, List.set_cons_succ, List.set_cons_succ, List.set_cons_succ, List.set_cons_zero]
  simp only [← List.append_assoc, ins_append]
  simp only [List.append_assoc]
  rfl
theorem roomy_endI (zs : List Inp) (mark : Inp) : roomyI zs mark 80 = zs ++ List.replicate 80 mark := by simp [roomyI]
theorem rep_atI (zs : List Inp) (mark : Inp) (N k : Nat) (h : k < N) : iAt (zs ++ List.replicate N mark) (zs.length + k) = mark := by
  unfold iAt
  rw [List.getD_eq_getElem?_getD, List.getElem?_append_right (by omega), Nat.add_sub_cancel_left, List.getElem?_replicate, if_pos h]
  rfl
theorem pre_atI (zs ys : List Inp) (k : Nat) (h : k < zs.length) : iAt (zs ++ ys) k = iAt zs k := by
  unfold iAt
  rw [List.getD_eq_getElem?_getD, List.getD_eq_getElem?_getD, List.getElem?_append_left h]
theorem madeI (n : Nat) : (madeCells #[Value.bool false, .int .i64 0, .int .i64 0, .int .i64 0, .int .u64 0] (n * 5)).toList = ins (List.replicate n zeroI) := by
  apply List.ext_getElem?
  intro j
  by_cases hj : j < n * 5
  · have e : j = j / 5 * 5 + j % 5 := by omega
    have hq : j / 5 < n := by omega
    have hr : j % 5 < 5 := Nat.mod_lt _ (by decide)
    have hz := ins_at (List.replicate n zeroI) (j / 5) (j % 5) hr (by simpa using hq)
    rw [← e] at hz
    have hi : iAt (List.replicate n zeroI) (j / 5) = zeroI := by
      have := rep_atI [] zeroI n (j / 5) hq
      simpa using this
    rw [hz, hi]
    have h5 : j % 5 = 0 ∨ j % 5 = 1 ∨ j % 5 = 2 ∨ j % 5 = 3 ∨ j % 5 = 4 := by omega
    rcases h5 with h5 | h5 | h5 | h5 | h5 <;> simp [madeCells, hj, h5, inCells]
  · have hl : (ins (List.replicate n zeroI)).length = n * 5 := by rw [ins_len]; simp
    have h2 : (ins (List.replicate n zeroI))[j]? = none := List.getElem?_eq_none (by rw [hl]; omega)
    rw [h2]
    simp [madeCells, hj]
theorem spliceI (zs : List Inp) (m : Inp) : splice (ins (List.replicate (zs.length + 80) zeroI)) 0 (ins zs) = ins (roomyI zs m 0) := by
  unfold splice roomyI
  rw [List.take_zero, List.nil_append, Nat.zero_add, ins_len, ← ins_drop, List.drop_replicate, show zs.length + 80 - zs.length = 80 by omega, List.replicate_zero, List.append_nil, ins_append]
set_option maxHeartbeats 2000000 in
set_option maxRecDepth 100000 in
theorem roomy_i (v : Value) (qb : Nat) (zs : List Inp) (mark : Inp) (w : World) (hv : RdI w v qb zs) (hl : zs.length ≤ 60) :
    Calls Try.prog 12 #[v, .agg #[.bool mark.mrk, .int .i64 mark.e.t, .int .i64 mark.e.k, .int .i64 mark.e.v, .int .u64 mark.e.l]] w fun e w' => ∃ u, e = .returned u ∧ w'.ownsRow w.heap.size 37 5 u (zs ++ List.replicate 80 mark).length (ins (zs ++ List.replicate 80 mark)) ∧ Below w.heap.size w w' := by
  obtain ⟨i0, hi, hz0, hz1, hz2⟩ := info_parts Try.info37
  obtain ⟨_, _, ao, cap, rfl, _, _, hc⟩ := hv
  have hc' : Hid (zs.length ≠ 0 → ∃ off, ao = some ⟨qb, off, none⟩ ∧ qb < w.heap.size ∧ ∀ j, j < zs.length → InAt w qb (off + j * 5) (iAt zs j)) := hc
  clear hc
  obtain ⟨n, hn⟩ : ∃ n, n = zs.length := ⟨_, rfl⟩
  have hl' : n ≤ 60 := by omega
  have hn' : Hid (n = zs.length) := hn
  rw [← hn]
  clear hn hl
  obtain ⟨mk, ⟨mt, my, mv, ml⟩⟩ := mark
  go_enter Try.func12, Try.ntmps12
  go_upto_region 1 with fail
  refine world_gen (fun W => Ink W w.heap.size ⟨mk, ⟨mt, my, mv, ml⟩⟩ ∧ w.heap.size < W.heap.size ∧ Below w.heap.size w W) ⟨ink_new w ⟨mk, ⟨mt, my, mv, ml⟩⟩, by simp, below_alloc _ _⟩ ?_
  rintro W0 ⟨k0, hlt0, h0⟩
  obtain ⟨g, hg⟩ : ∃ g, Hid (w.heap.size = g) := ⟨_, rfl⟩
  rw [hg.out] at k0 ⊢
  go_upto_region 2 with (at_make; refine wpList_make_full _ rfl _ _ 22 rfl W0.heap.size 37 i0 (inv ⟨false, ⟨0, 0, 0, 0⟩⟩) 5 Try.underlying22 hi hz0 hz1 _ _ _ _ (n + 80) rfl rfl (by omega) (by omega) (by rw [hz2]; omega) (by unfold maxLen; omega) (Nat.le_refl _) ?_; intro w0 hown0 hgrow0)
  have hb0 : Below W0.heap.size W0 w0 := (Below.refl _ _).grown hgrow0 (Nat.le_refl _) (fun k hk => by cases hk)
  go_wp2_with (refine wpList_copy_rows rfl _ _ 22 22 rfl 37 5 Try.underlying22 Try.size71 _ _ _ _ _ _ rfl rfl W0.heap.size 0 (ins (List.replicate (n + 80) zeroI)) 37 ?g1 (ins zs) n ?gm ?g2 ?g3 ?g4 (ins_one zs) W0.heap.size W0 hb0 (Nat.le_refl _) ?_)
  case g1 =>
    obtain ⟨_, h | ⟨g, cap', cur, hvv, _, hh, _, _, hs, ht⟩⟩ := hown0
    · cases h.1
    · cases hvv
      rw [hh]
      congr 2
      have e1 : cur.toList = ins (List.replicate (n + 80) zeroI) := by
        rw [List.take_of_length_le (by simp; omega)] at ht
        rw [ht]; exact madeI (n + 80)
      rw [← e1]
  case gm => simp only [Nat.min_def]; split <;> omega
  case g2 => rw [ins_len, ← hn'.out]
  case g3 =>
    intro hpos
    obtain ⟨off, rfl, hblt, hcell⟩ := hc'.out (by have := hn'.out; omega)
    refine ⟨_, rfl, fun j u hj => ?_⟩
    obtain ⟨q1, q2⟩ := ins_some hj
    have hb1 : Below w.heap.size w w0 := below_call h0 hb0
    obtain ⟨c0, c1, c2, c3, c4⟩ := (hcell (j / 5) q1).keep (hb1.block qb hblt)
    have ha : (⟨qb, off, none⟩ : Addr).add j = ⟨qb, off + (j / 5) * 5 + j % 5, none⟩ := by
      have e2 : off + j / 5 * 5 + j % 5 = off + j := by omega
      rw [e2]; simp [Addr.add]
    rw [ha]
    have h5 : j % 5 = 0 ∨ j % 5 = 1 ∨ j % 5 = 2 ∨ j % 5 = 3 ∨ j % 5 = 4 := by omega
    rcases h5 with h5 | h5 | h5 | h5 | h5 <;> rw [h5] at q2 ⊢ <;> simp [inCells] at q2 <;> subst q2 <;> assumption
  case g4 => rw [ins_len, ← hn'.out, ins_len]; simp; omega
  intro w1 hg1 hb1
  have hown1 : w1.ownsRow W0.heap.size 37 5 (.slice (some ⟨W0.heap.size, 0, none⟩) (n + 80) (n + 80)) (n + 80) (ins (roomyI zs ⟨mk, ⟨mt, my, mv, ml⟩⟩ 0)) := by
    have h := hg1.out
    rw [hn'.out, spliceI zs ⟨mk, ⟨mt, my, mv, ml⟩⟩] at h
    have hlen : (ins (roomyI zs ⟨mk, ⟨mt, my, mv, ml⟩⟩ 0)).length = (n + 80) * 5 := by rw [ins_len, roomy_lenI _ _ _ (by decide), ← hn'.out]
    refine ⟨by rw [hlen], .inr ⟨W0.heap.size, n + 80, _, rfl, Nat.le_refl _, h, Nat.le_refl _, by unfold maxLen; omega, by simpa using hlen, ?_⟩⟩
    rw [List.take_of_length_le (by simp [hlen])]
  have k1 := k0.call hb1
  clear hg1 hown0 hgrow0 hb0 k0
  have r0 : W0.heap.size ≠ g := by have := hg.out; omega
  go_wp2_with fail
  go_loopw [6] (fun i wr => ∃ k : Nat, k ≤ 80 ∧ i = .int .i64 ((n + k : Nat) : Int) ∧ wr.ownsRow W0.heap.size 37 5 (.slice (some ⟨W0.heap.size, 0, none⟩) (n + 80) (n + 80)) (n + 80) (ins (roomyI zs ⟨mk, ⟨mt, my, mv, ml⟩⟩ k)) ∧ Ink wr g ⟨mk, ⟨mt, my, mv, ml⟩⟩ ∧ Below W0.heap.size W0 wr) (fun i _ => n + 80 - (intOf i).toNat)
  case atStart => exact ⟨0, by decide, by go_num, hown1, k1, hb1⟩
  case round =>
    obtain ⟨k, hk, rfl, hown, ko, hbw⟩ := hrel
    clear hown1 hb1 k1
    by_cases hlt : k < 80
    · have hlen : (ins (roomyI zs ⟨mk, ⟨mt, my, mv, ml⟩⟩ k)).length = (n + 80) * 5 := by rw [ins_len, roomy_lenI _ _ _ hk, ← hn'.out]
      have hcx : ∀ r, r < 5 → ∃ c, wr.cell? ⟨W0.heap.size, (n + k) * 5 + r, none⟩ = some c := fun r hr => by
        have := hown.cellAt ((n + k) * 5 + r) (by omega)
        rw [this]
        exact ⟨_, List.getElem?_eq_getElem (by omega)⟩
      obtain ⟨c0, hc0⟩ : ∃ c, wr.cell? ⟨W0.heap.size, (n + k) * 5, none⟩ = some c := hcx 0 (by decide)
      obtain ⟨c1, hc1⟩ := hcx 1 (by decide)
      obtain ⟨c2, hc2⟩ := hcx 2 (by decide)
      obtain ⟨c3, hc3⟩ := hcx 3 (by decide)
      obtain ⟨c4, hc4⟩ := hcx 4 (by decide)
      have hf := hown.frozenAt ((n + k) * 5)
      have hf1 := hown.frozenAt ((n + k) * 5 + 1)
      have hf2 := hown.frozenAt ((n + k) * 5 + 2)
      have hf3 := hown.frozenAt ((n + k) * 5 + 3)
      have hf4 := hown.frozenAt ((n + k) * 5 + 4)
      have hst := ((((hown.stored ((n + k) * 5) (.bool mk)).1.stored ((n + k) * 5 + 1) (.int .i64 mt)).1.stored ((n + k) * 5 + 2) (.int .i64 my)).1.stored ((n + k) * 5 + 3) (.int .i64 mv)).1.stored ((n + k) * 5 + 4) (.int .u64 ml)
      have hset := roomy_setI zs ⟨mk, ⟨mt, my, mv, ml⟩⟩ k hlt
      rw [← hn'.out] at hset
      have hst' : Hid ((((((wr.setCell ⟨W0.heap.size, (n + k) * 5, none⟩ (.bool mk)).setCell ⟨W0.heap.size, (n + k) * 5 + 1, none⟩ (.int .i64 mt)).setCell ⟨W0.heap.size, (n + k) * 5 + 2, none⟩ (.int .i64 my)).setCell ⟨W0.heap.size, (n + k) * 5 + 3, none⟩ (.int .i64 mv)).setCell ⟨W0.heap.size, (n + k) * 5 + 4, none⟩ (.int .u64 ml)).ownsRow W0.heap.size 37 5 (.slice (some ⟨W0.heap.size, 0, none⟩) (n + 80) (n + 80)) (n + 80) (ins (roomyI zs ⟨mk, ⟨mt, my, mv, ml⟩⟩ (k + 1))) ∧
          Ink (((((wr.setCell ⟨W0.heap.size, (n + k) * 5, none⟩ (.bool mk)).setCell ⟨W0.heap.size, (n + k) * 5 + 1, none⟩ (.int .i64 mt)).setCell ⟨W0.heap.size, (n + k) * 5 + 2, none⟩ (.int .i64 my)).setCell ⟨W0.heap.size, (n + k) * 5 + 3, none⟩ (.int .i64 mv)).setCell ⟨W0.heap.size, (n + k) * 5 + 4, none⟩ (.int .u64 ml)) g ⟨mk, ⟨mt, my, mv, ml⟩⟩ ∧
          Below W0.heap.size W0 (((((wr.setCell ⟨W0.heap.size, (n + k) * 5, none⟩ (.bool mk)).setCell ⟨W0.heap.size, (n + k) * 5 + 1, none⟩ (.int .i64 mt)).setCell ⟨W0.heap.size, (n + k) * 5 + 2, none⟩ (.int .i64 my)).setCell ⟨W0.heap.size, (n + k) * 5 + 3, none⟩ (.int .i64 mv)).setCell ⟨W0.heap.size, (n + k) * 5 + 4, none⟩ (.int .u64 ml))) := by
        refine ⟨?_, ?_, ((((hbw.setCell (p := ⟨W0.heap.size, (n + k) * 5, none⟩) (Nat.le_refl _) _).setCell (p := ⟨W0.heap.size, (n + k) * 5 + 1, none⟩) (Nat.le_refl _) _).setCell (p := ⟨W0.heap.size, (n + k) * 5 + 2, none⟩) (Nat.le_refl _) _).setCell (p := ⟨W0.heap.size, (n + k) * 5 + 3, none⟩) (Nat.le_refl _) _).setCell (p := ⟨W0.heap.size, (n + k) * 5 + 4, none⟩) (Nat.le_refl _) _⟩
        · have := hst.1
          simp only at hset
          rw [hset] at this; exact this
        · unfold Ink at ko ⊢
          rw [Below.heap_setCell _ _ _ _ (Ne.symm r0), Below.heap_setCell _ _ _ _ (Ne.symm r0), Below.heap_setCell _ _ _ _ (Ne.symm r0), Below.heap_setCell _ _ _ _ (Ne.symm r0), Below.heap_setCell _ _ _ _ (Ne.symm r0)]; exact ko
      clear hst hset hown hcx hlen
      obtain ⟨m0, m1, m2, m3, m4⟩ := ko.c
      simp only [Nat.zero_add] at m0 m1 m2 m3 m4
      go_wp2
      go_roundw
      case rel => exact ⟨k + 1, by omega, by go_num, hst'.out.1, hst'.out.2.1, hst'.out.2.2⟩
      case measure => simp [intOf]; omega
    · have : k = 80 := by omega
      subst this
      go_wp2
      go_ret
      refine ⟨_, rfl, ?_, below_call h0 hbw⟩
      rw [← roomy_endI, roomy_lenI _ _ _ (by decide), ← hn'.out]
      obtain ⟨q1, q | ⟨g1, cp, cur, q2, q3, q4⟩⟩ := hown
      · exact ⟨q1, .inl q⟩
      · exact ⟨q1, .inr ⟨g1, cp, cur, q2, Nat.le_trans (Nat.le_of_lt hlt0) q3, q4⟩⟩
set_option maxHeartbeats 2000000 in
set_option maxRecDepth 100000 in
theorem intact_i (vf vw : Value) (qf qw : Nat) (zs : List Inp) (mark : Inp) (w : World) (hf : RdI w vf qf (zs ++ List.replicate 80 mark)) (hv : RdI w vw qw zs) (hl : zs.length ≤ 60) :
    Calls Try.prog 13 #[vf, vw, .agg #[.bool mark.mrk, .int .i64 mark.e.t, .int .i64 mark.e.k, .int .i64 mark.e.v, .int .u64 mark.e.l]] w fun e w' => e = .returned (.bool true) ∧ Below w.heap.size w w' := by
  obtain ⟨mk, ⟨mt, my, mv, ml⟩⟩ := mark
  obtain ⟨_, hfl, af, capf, rfl, hcf, hcm0, hf⟩ := hf
  obtain ⟨off, rfl, hblt, hcell⟩ := hf (by simp)
  have hv2 := hv
  obtain ⟨_, hvl, aw, capw, rfl, _, _, _⟩ := hv
  have e1 : (zs ++ List.replicate 80 (⟨mk, ⟨mt, my, mv, ml⟩⟩ : Inp)).length = zs.length + 80 := by simp
  rw [e1] at hcf hcell ⊢
  have hrd : Hid (RdI w (.slice (some ⟨qf, off, none⟩) zs.length capf) qf zs) := by
    refine ⟨by omega, hvl, _, capf, rfl, by omega, hcm0, fun _ => ⟨off, rfl, hblt, fun j hj => ?_⟩⟩
    have := hcell j (by omega)
    rw [pre_atI zs _ j hj] at this; exact this
  have hcm : Hid (∀ k, k < 80 → InAt w qf (off + (zs.length + k) * 5) ⟨mk, ⟨mt, my, mv, ml⟩⟩) := by
    intro k hk
    have := hcell (zs.length + k) (by omega)
    rw [rep_atI zs ⟨mk, ⟨mt, my, mv, ml⟩⟩ 80 k hk] at this; exact this
  have hv3 : Hid (RdI w (.slice aw zs.length capw) qw zs) := hv2
  clear hcell hf hv2 hfl hvl
  obtain ⟨n, hn⟩ : ∃ n, n = zs.length := ⟨_, rfl⟩
  have hn' : Hid (n = zs.length) := hn
  rw [← hn] at hcf hl hrd hcm hv3 ⊢
  clear hn e1
  go_enter Try.func13, Try.ntmps13
  go_upto_region 1 with fail
  refine world_gen (fun W => Ink W w.heap.size ⟨mk, ⟨mt, my, mv, ml⟩⟩ ∧ Below w.heap.size w W) ⟨ink_new w ⟨mk, ⟨mt, my, mv, ml⟩⟩, below_alloc _ _⟩ ?_
  rintro W0 ⟨k0, h0⟩
  have hrd0 : Hid (RdI W0 _ qf zs) := hrd.out.below h0
  have hv0 : Hid (RdI W0 _ qw zs) := hv3.out.below h0
  clear hrd hv3
  obtain ⟨g, hg⟩ : ∃ g, Hid (w.heap.size = g) := ⟨_, rfl⟩
  rw [hg.out] at k0 ⊢
  go_wp2_with fail
  refine (same_i _ _ qf qw zs _ hrd0.out hv0.out).mono ?_
  rintro e w2 ⟨rfl, b2⟩
  have h2 := below_call h0 b2
  have k2 := k0.call b2
  clear b2 h0 k0 hrd0 hv0
  go_wp2_with fail
  go_loopw [7] (fun i wr => ∃ k : Nat, k ≤ 80 ∧ i = .int .i64 ((n + k : Nat) : Int) ∧ Ink wr g ⟨mk, ⟨mt, my, mv, ml⟩⟩ ∧ Below w.heap.size w wr) (fun i _ => n + 80 - (intOf i).toNat)
  case atStart => exact ⟨0, by decide, by go_num, k2, h2⟩
  case round =>
    obtain ⟨k, hk, rfl, ko, hbw⟩ := hrel
    clear k2 h2
    by_cases hlt : k < 80
    · obtain ⟨p0, p1, p2, p3, p4⟩ := (hcm.out k hlt).keep (hbw.block qf hblt)
      obtain ⟨m0, m1, m2, m3, m4⟩ := ko.c
      simp only [Nat.zero_add] at p0 p1 p2 p3 p4 m0 m1 m2 m3 m4
      go_wp2_with fail
      go_quiet (fail)
      go_wp2_with fail
      go_roundw
      case rel => exact ⟨k + 1, by omega, by go_num, ko.call (below_drewN (Below.refl _ _) nq), below_drewN hbw nq⟩
      case measure => simp [intOf]; omega
    · have : k = 80 := by omega
      subst this
      go_wp2
      go_ret
      exact ⟨rfl, hbw⟩
end Go.Proofs.Ytmkdhgjnfnfliaa
