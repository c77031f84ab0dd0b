/- Rows of panes: what append, copy and clear make of them; laws for the walk. -/
import Derived.Test.YtnamjnopicghhaaSearch
import Derived.Laws.CopyOwn
import Derived.Lib.Overlaps
import Derived.Lib.AppendZerosOnto
namespace Go.Proofs.Ytnamjnopicghhaa
open Go.RowKit M
set_option linter.unusedVariables false
attribute [local go_sem ↓] Go.wp_at_zero Go.wp_at_succ

set_option maxHeartbeats 1000000 in
set_option maxRecDepth 100000 in
/-- slices.BinarySearchFunc over no panes at all. -/
theorem search_nil (s k : Int) (w : World) :
    Calls Try.prog 89 #[.slice none 0 0, .agg #[.int .i64 s, .int .i64 k], .func (.func 90) #[] #[]] w fun e w' => e = .returned (.tuple #[.int .i64 0, .bool false]) ∧ Below w.heap.size w w' := by
  go_enter Try.func89, Try.ntmps89
  go_upto_region 1 with fail
  refine world_gen (fun W => Below w.heap.size w W) (below_alloc _ _) ?_
  rintro W hbW
  generalize w.heap.size = q
  go_wp2_with fail
  go_loopw [9, 10] (fun a c wr => a = .int .i64 0 ∧ c = .int .i64 0 ∧ wr = W) (fun _ _ _ => 0)
  case atStart => exact ⟨rfl, rfl, rfl⟩
  case round =>
    obtain ⟨rfl, rfl, rfl⟩ := hrel
    go_upto_region 8 with fail
    refine wp_region_held_drew (S := fun X => Below w.heap.size w X) (by kernel_rfl) hbW.drew (fun hHeld => ?_)
    generalize wr.drew = V at hHeld ⊢
    refine take_at (i := 0) (v := .int .i64 0) rfl rfl (by kernel_rfl) (by kernel_rfl) (by kernel_rfl) (fun _ _ _ h => h) (Or.inl ⟨by rfl, fun X _ => by go_simp⟩) hHeld ?_
    try simp only [Act.put, List.setIfInBounds_toArray, List.set_cons_zero, List.set_cons_succ]
    refine take_at (i := 1) (v := .int .i64 0) rfl rfl (by kernel_rfl) (by kernel_rfl) (by kernel_rfl) (fun _ _ _ h => h) (Or.inl ⟨by rfl, fun X _ => by go_simp⟩) hHeld ?_
    try simp only [Act.put, List.setIfInBounds_toArray, List.set_cons_zero, List.set_cons_succ]
    refine take_at (i := 2) (v := .int .i64 0) rfl rfl (by kernel_rfl) (by kernel_rfl) (by kernel_rfl) (fun _ _ _ h => h) (Or.inl ⟨by rfl, fun X _ => by go_simp⟩) hHeld ?_
    try simp only [Act.put, List.setIfInBounds_toArray, List.set_cons_zero, List.set_cons_succ]
    refine take_at (i := 3) (v := .bool false) rfl rfl (by kernel_rfl) (by kernel_rfl) (by kernel_rfl) (fun _ _ _ h => h) (Or.inl ⟨by rfl, fun X _ => by go_simp⟩) hHeld ?_
    try simp only [Act.put, List.setIfInBounds_toArray, List.set_cons_zero, List.set_cons_succ]
    refine take_at (i := 4) (v := .bool false) rfl rfl (by kernel_rfl) (by kernel_rfl) (by kernel_rfl) (fun _ _ _ h => h) (Or.inl ⟨by rfl, fun X _ => by go_simp⟩) hHeld ?_
    try simp only [Act.put, List.setIfInBounds_toArray, List.set_cons_zero, List.set_cons_succ]
    refine take_at (i := 5) (v := undef) rfl rfl (by kernel_rfl) (by kernel_rfl) (by kernel_rfl) (fun _ _ _ h => h) (Or.inr ⟨by rfl, rfl⟩) hHeld ?_
    try simp only [Act.put, List.setIfInBounds_toArray, List.set_cons_zero, List.set_cons_succ]
    refine take_at (i := 6) (v := undef) rfl rfl (by kernel_rfl) (by kernel_rfl) (by kernel_rfl) (fun _ _ _ h => h) (Or.inr ⟨by rfl, rfl⟩) hHeld ?_
    try simp only [Act.put, List.setIfInBounds_toArray, List.set_cons_zero, List.set_cons_succ]
    refine take_at (i := 7) (v := undef) rfl rfl (by kernel_rfl) (by kernel_rfl) (by kernel_rfl) (fun _ _ _ h => h) (Or.inr ⟨by rfl, rfl⟩) hHeld ?_
    try simp only [Act.put, List.setIfInBounds_toArray, List.set_cons_zero, List.set_cons_succ]
    refine take_at (i := 8) (v := undef) rfl rfl (by kernel_rfl) (by kernel_rfl) (by kernel_rfl) (fun _ _ _ h => h) (Or.inr ⟨by rfl, rfl⟩) hHeld ?_
    try simp only [Act.put, List.setIfInBounds_toArray, List.set_cons_zero, List.set_cons_succ]
    refine take_at (i := 9) (v := undef) rfl rfl (by kernel_rfl) (by kernel_rfl) (by kernel_rfl) (fun _ _ _ h => h) (Or.inr ⟨by rfl, rfl⟩) hHeld ?_
    try simp only [Act.put, List.setIfInBounds_toArray, List.set_cons_zero, List.set_cons_succ]
    refine take_at (i := 10) (v := undef) rfl rfl (by kernel_rfl) (by kernel_rfl) (by kernel_rfl) (fun _ _ _ h => h) (Or.inr ⟨by rfl, rfl⟩) hHeld ?_
    try simp only [Act.put, List.setIfInBounds_toArray, List.set_cons_zero, List.set_cons_succ]
    refine take_at (i := 11) (v := undef) rfl rfl (by kernel_rfl) (by kernel_rfl) (by kernel_rfl) (fun _ _ _ h => h) (Or.inr ⟨by rfl, rfl⟩) hHeld ?_
    try simp only [Act.put, List.setIfInBounds_toArray, List.set_cons_zero, List.set_cons_succ]
    refine take_at (i := 12) (v := undef) rfl rfl (by kernel_rfl) (by kernel_rfl) (by kernel_rfl) (fun _ _ _ h => h) (Or.inr ⟨by rfl, rfl⟩) hHeld ?_
    try simp only [Act.put, List.setIfInBounds_toArray, List.set_cons_zero, List.set_cons_succ]
    refine take_at (i := 13) (v := .bool false) rfl rfl (by kernel_rfl) (by kernel_rfl) (by kernel_rfl) (fun _ _ _ h => h) (Or.inl ⟨by rfl, fun X _ => by go_simp⟩) hHeld ?_
    try simp only [Act.put, List.setIfInBounds_toArray, List.set_cons_zero, List.set_cons_succ]
    refine take_at (i := 14) (v := .int .i64 0) rfl rfl (by kernel_rfl) (by kernel_rfl) (by kernel_rfl) (fun _ _ _ h => h) (Or.inl ⟨by rfl, fun X _ => by go_simp⟩) hHeld ?_
    try simp only [Act.put, List.setIfInBounds_toArray, List.set_cons_zero, List.set_cons_succ]
    refine take_at (i := 15) (v := .bool false) rfl rfl (by kernel_rfl) (by kernel_rfl) (by kernel_rfl) (fun _ _ _ h => h) (Or.inl ⟨by rfl, fun X _ => by go_simp⟩) hHeld ?_
    try simp only [Act.put, List.setIfInBounds_toArray, List.set_cons_zero, List.set_cons_succ]
    refine wpAnyH_done (by kernel_rfl) ?_ _
    go_wp2_with fail
    go_ret2
    exact ⟨rfl, hHeld⟩
/-- slices.BinarySearchFunc. -/
theorem search_is (v : Value) (o : Nat) (K : Int) (L : List Pn) (s k : Int) (w : World) (P : Nat) (F : Bool) (hP : Sl w v o K L) (hS : Srt L) (hm : L.length ≤ 1000000) (hpos : pos s k L = P) (hfnd : fnd s k L = F) :
    Calls Try.prog 89 #[v, .agg #[.int .i64 s, .int .i64 k], .func (.func 90) #[] #[]] w fun e w' => e = .returned (.tuple #[.int .i64 P, .bool F]) ∧ Below w.heap.size w w' := by
  rcases hP with ⟨rfl, rfl⟩ | ⟨cap, rfl, hP⟩
  · obtain rfl : 0 = P := hpos
    obtain rfl : false = F := hfnd
    exact search_nil s k w
  · exact search_some o cap K L s k w P F hP hS hm hpos hfnd

def pzero : Value := .agg #[.int .i64 0, .int .i64 0, .int .i64 0, .int .i64 0, .int .i64 0, .int .u64 0]
theorem Try.info132 : (Try.prog.info? 132).map (fun i => (i.zero, i.size, i.bytes)) = some (some pzero, 6, 48) := by kernel_rfl
theorem Try.size75 : (Try.prog.info? 132).map (·.size) = some 6 := by kernel_rfl

theorem Try.sizeOf75 (w : World) : (Go.sizeOf 132).run Try.prog w = .ok 6 w := by
  obtain ⟨i, hi, hz0, hz1, hz2⟩ := info_parts Try.info132
  simp [sizeOf, typeInfo, hi, hz1]
theorem splice_take {α : Type} (C X Y : List α) (a n : Nat) (ha : a + 6 ≤ C.length) (hX : X.length = 6) (hn : a + 6 + Y.length = n) : (splice (splice C (a + 6) Y) a X).take n = C.take a ++ (X ++ Y) := by
  have e1 : (splice C (a + 6) Y).take a = C.take a := by
    unfold splice
    rw [List.take_append_of_le_length (by rw [List.length_take]; omega), List.take_take, Nat.min_eq_left (by omega)]
  have e2 : (splice C (a + 6) Y).drop (a + X.length) = Y ++ C.drop (a + 6 + Y.length) := by
    unfold splice
    rw [hX, List.drop_append_of_le_length (by rw [List.length_take]; omega), List.drop_of_length_le (by rw [List.length_take]; omega), List.nil_append]
  show ((splice C (a + 6) Y).take a ++ (X ++ (splice C (a + 6) Y).drop (a + X.length))).take n = _
  rw [e1, e2, ← List.append_assoc X, ← List.append_assoc (C.take a)]
  have hl : (C.take a ++ (X ++ Y)).length = n := by rw [List.length_append, List.length_append, List.length_take]; omega
  rw [List.take_append_of_le_length (by omega), List.take_of_length_le (by omega)]
theorem splice_take2 {α : Type} (C X Y : List α) (a n : Nat) (hX : X.length = 6) (hC : n ≤ C.length) (hn : a + 6 + Y.length = n) : (splice (splice C a X) (a + 6) Y).take n = C.take a ++ (X ++ Y) := by
  have hl1 : (C.take a).length = a := by rw [List.length_take]; omega
  have e1 : (splice C a X).take (a + 6) = C.take a ++ X := by
    unfold splice
    rw [← List.append_assoc, List.take_append_of_le_length (by rw [List.length_append]; omega), List.take_of_length_le (by rw [List.length_append]; omega)]
  show ((splice C a X).take (a + 6) ++ (Y ++ _)).take n = _
  rw [e1, ← List.append_assoc, List.take_append_of_le_length (by simp only [List.length_append]; omega), List.take_of_length_le (by simp only [List.length_append]; omega), List.append_assoc]
theorem splice_len {α : Type} (C X : List α) (a : Nat) (h : a + X.length ≤ C.length) : (splice C a X).length = C.length := length_splice C a X h

section
variable {P : Program} (w : World)
theorem run_copy_rows (dT sT ty elem : TypeId) (g o dLen dCap : Nat) (a : Addr) (sLen sCap : Nat) (cur : Array Value) (t : TypeId) (cs : List Value) (sz m : Nat)
    (hu : P.underlying dT = some (.slice elem)) (hs : (P.info? elem).map (·.size) = some sz)
    (hg : w.heap[g]? = some (.cells cur t (0, 0))) (hm : Nat.min sLen dLen = m) (hn : cs.length = m * sz)
    (hsrc : ∀ j v, cs[j]? = some v → w.cell? (a.add j) = some v) (hfit : o + cs.length ≤ cur.size) (h1 : ∀ v ∈ cs, v.oneCell' = true) :
    (Builtin.copy_ #[dT, sT] ty #[.slice (some ⟨g, o, none⟩) dLen dCap, .slice (some a) sLen sCap]).run P w =
      .ok (goInt m) (w.setRow g (splice cur.toList o cs).toArray) := by
  have hl := run_loadCells_list (P := P) w a cs hsrc
  have hst := run_storeCells_at P g o t cs 0 cur w hg (by simpa using hfit) h1
  cases hq : P.info? elem with
  | none => simp [hq] at hs
  | some i =>
    have hi : i.size = sz := by simpa [hq] using hs
    rw [hn] at hl
    simp [Builtin.copy_, run_underlying hu, Builtin.lenOf, Builtin.firstCells, sizeOf, typeInfo, hq, hi, hm, hl, hst, splice]
theorem wp_copy_run {o : Oper} {a : Act} {K : Act → World → Prop} {Q : Exit → Act → World → Prop} (d s : Operand) (t t' : TypeId)
    (ho : o.op = .call { callee := .builtin .copy, args := #[d, s], argTypes := #[t, t'] }) (v u : Value) (hd : a.eval d = v) (hs : a.eval s = u) {v' : Value} {w' : World}
    (hr : (Builtin.copy_ #[t, t'] o.type #[v, u]).run P w = .ok v' w') (h : K (a.put o.dst v') w') : o.wp P a w K Q := by
  unfold Oper.wp execOp
  simp only [ho, resolve, invoke, builtin, Sem.run_bind, Sem.run_pure, Result.andThen_ok, List.map_toArray, List.map_cons, List.map_nil, hd, hs, hr]
  exact h
theorem wpList_copy_run {ops : Array Oper} {rest : List Oper} {o : Oper} {a : Act} {Q : Exit → Act → World → Prop} (hgd : o.guard = none) (d s : Operand) (t t' : TypeId)
    (ho : o.op = .call { callee := .builtin .copy, args := #[d, s], argTypes := #[t, t'] }) (v u : Value) (hd : a.eval d = v) (hs : a.eval s = u) {v' : Value} {w' : World}
    (hr : (Builtin.copy_ #[t, t'] o.type #[v, u]).run P w = .ok v' w') (h : wpList P ops Q rest (a.put o.dst v') w') : wpList P ops Q (o :: rest) a w :=
  wpList_plain hgd fun _ hK => wp_copy_run w d s t t' ho v u hd hs hr (hK _ _ h)
theorem wp_append_any {o : Oper} {a : Act} {K : Act → World → Prop} {Q : Exit → Act → World → Prop} (s x : Operand) (t t' : TypeId)
    (ho : o.op = .call { callee := .builtin .append, args := #[s, x], argTypes := #[t, t'] }) (v u : Value) (hs : a.eval s = v) (hx : a.eval x = u) {v' : Value} {w' : World}
    (hr : (Builtin.append_ #[t, t'] o.type #[v, u]).run P w = .ok v' w') (h : K (a.put o.dst v') w') : o.wp P a w K Q := by
  unfold Oper.wp execOp
  simp only [ho, resolve, invoke, builtin, Sem.run_bind, Sem.run_pure, Result.andThen_ok, List.map_toArray, List.map_cons, List.map_nil, hs, hx, hr]
  exact h
theorem wpList_append_any {ops : Array Oper} {rest : List Oper} {o : Oper} {a : Act} {Q : Exit → Act → World → Prop} (hgd : o.guard = none) (s x : Operand) (t t' : TypeId)
    (ho : o.op = .call { callee := .builtin .append, args := #[s, x], argTypes := #[t, t'] }) (v u : Value) (hs : a.eval s = v) (hx : a.eval x = u) {v' : Value} {w' : World}
    (hr : (Builtin.append_ #[t, t'] o.type #[v, u]).run P w = .ok v' w') (h : wpList P ops Q rest (a.put o.dst v') w') : wpList P ops Q (o :: rest) a w :=
  wpList_plain hgd fun _ hK => wp_append_any w s x t t' ho v u hs hx hr (hK _ _ h)
end

theorem zeros_size (n : Nat) : (Builtin.zeroCells pzero.cells n).size = n * 6 := by rw [size_zeroCells]; rfl
/-- A slice of panes that isn't nil. -/
def Slp (w : World) (v : Value) (o : Nat) (K : Int) (L : List Pn) : Prop := ∃ cap, v = .slice (some ⟨o, 0, none⟩) L.length cap ∧ PRow w o cap K L
theorem Slp.sl {w : World} {v : Value} {o : Nat} {K : Int} {L : List Pn} (h : Slp w v o K L) : Sl w v o K L := .inr h
theorem src_cells {w : World} {q : Nat} {cs : Array Value} {e : TypeId} (hq : w.heap[q]? = some (.cells cs e (0, 0))) : ∀ j u, cs.toList[j]? = some u → w.cell? ((⟨q, 0, none⟩ : Addr).add j) = some u := by
  intro j u hj
  rw [Addr.add_lit, Nat.zero_add]
  simp only [World.cell?, hq]
  simpa using hj
theorem PRow.src {w : World} {g cap : Nat} {K : Int} {L : List Pn} (h : PRow w g cap K L) (i : Nat) (hi : i ≤ L.length) : ∀ j u, (pcs K (L.drop i))[j]? = some u → w.cell? ((⟨g, i * 6, none⟩ : Addr).add j) = some u := by
  intro j u hj
  obtain ⟨cur, hh, h1, h2, h3, h4⟩ := h
  rw [← pcs_drop, List.getElem?_drop, ← h4, List.getElem?_take] at hj
  split at hj
  · rw [Addr.add_lit]
    simp only [World.cell?, hh]
    simpa using hj
  · cases hj
/-- append of one pane. -/
theorem run_app1 (w : World) (ty : TypeId) (v : Value) (o : Nat) (K : Int) (L : List Pn) (p : Pn) (q c : Nat) (hS : Sl w v o K L) (hq : w.heap[q]? = some (.cells (pcell K p).toArray 132 (0, 0))) (hl : L.length ≤ 1000000) :
    ∃ v' w' o', (Builtin.append_ #[106, 106] ty #[v, .slice (some ⟨q, 0, none⟩) 1 c]).run Try.prog w = .ok v' w' ∧ Slp w' v' o' K (L ++ [p]) ∧ (o' = o ∨ w.heap.size ≤ o') ∧ Ch o o w w' := by
  obtain ⟨i, hi, hz0, hz1, hz2⟩ := info_parts Try.info132
  have hsrc : ∀ j u, (pcell K p)[j]? = some u → w.cell? ((⟨q, 0, none⟩ : Addr).add j) = some u := by simpa using src_cells hq
  have hone : ∀ u ∈ pcell K p, u.oneCell' = true := by rw [← pcs_single]; exact pcs_one K [p]
  have hlen : (pcell K p).length = 6 := rfl
  have h140 : (L.length + 1) * 48 ≤ 140737488355328 := by omega
  rcases hS with ⟨rfl, rfl⟩ | ⟨cap, rfl, cur, hh, h1, h2, h3, h4⟩
  · have hr := run_append_nil (P := Try.prog) w 106 ty 132 i pzero Try.underlying106 hi hz0 ⟨q, 0, none⟩ 1 c (pcell K p) (by rw [hz1]; rfl) hsrc (by omega) (by omega) (by rw [hz2]; omega)
    refine ⟨_, _, w.heap.size, hr, ⟨_, rfl, _, heap_alloc_new w.drew _, ?_, ?_, ?_, ?_⟩, .inr (Nat.le_refl _), (Ch.refl _ _ _).drew.alloc _⟩
    · exact grownCap_ge w 1 0 132
    · exact grownCap_le_maxLen w 1 0 132 (by unfold maxLen; omega)
    · have := grownCap_ge w 1 0 132
      rw [Array.size_append, zeros_size, List.size_toArray, hlen]; omega
    · rw [List.nil_append, pcs_single, Array.toList_append, List.toList_toArray, List.take_append_of_le_length (by rw [hlen]; simp), List.take_of_length_le (by rw [hlen]; simp)]
  · by_cases hroom : L.length + 1 ≤ cap
    · have hr := run_append_room (P := Try.prog) w 106 ty 132 i Try.underlying106 hi o L.length cap cur hh ⟨q, 0, none⟩ 1 c (pcell K p) (by rw [hz1]; rfl) hsrc hone hroom (by rw [hz1, hlen]; omega)
      refine ⟨_, _, o, hr, ⟨cap, by simp, _, setRow_heap w o cur _ 132 _ hh, by simpa using hroom, h2, ?_, ?_⟩, .inl rfl, (Ch.refl _ _ _).setRow (.inl rfl) _⟩
      · rw [hz1]
        simp only [List.size_toArray, List.length_append, List.length_take, List.length_drop, Array.length_toList, hlen]
        omega
      · rw [hz1, h4, pcs_append, pcs_single, List.toList_toArray]
        have hl2 : (pcs K L ++ pcell K p).length = (L ++ [p]).length * 6 := by rw [List.length_append, pcs_len, hlen]; simp; omega
        rw [List.take_append_of_le_length (by omega), List.take_of_length_le (by omega)]
    · have hP : PRow w o cap K L := ⟨cur, hh, h1, h2, h3, h4⟩
      have holds : ∀ j u, (pcs K L)[j]? = some u → w.cell? ((⟨o, 0, none⟩ : Addr).add j) = some u := by simpa using hP.src 0 (Nat.zero_le _)
      have hr := run_append_grow (P := Try.prog) w 106 ty 132 i pzero Try.underlying106 hi hz0 ⟨o, 0, none⟩ L.length cap (pcs K L) (by rw [hz1, pcs_len]) holds ⟨q, 0, none⟩ 1 c (pcell K p) (by rw [hz1]; rfl) hsrc (by omega) (by omega) (by rw [hz2]; exact growslice_fits (by omega) h140)
      have hge := grownCap_ge w (L.length + 1) cap 132
      refine ⟨_, _, w.heap.size, hr, ⟨_, by simp; rfl, _, heap_alloc_new w.drew _, ?_, ?_, ?_, ?_⟩, .inr (Nat.le_refl _), (Ch.refl _ _ _).drew.alloc _⟩
      · simpa using hge
      · exact grownCap_le_maxLen w (L.length + 1) cap 132 (by unfold maxLen; omega)
      · rw [Array.size_append, zeros_size, Array.size_append, List.size_toArray, List.size_toArray, hlen, pcs_len]; omega
      · rw [pcs_append, pcs_single]
        have hl2 : (pcs K L ++ pcell K p).length = (L ++ [p]).length * 6 := by rw [List.length_append, pcs_len, hlen]; simp; omega
        simp only [Array.toList_append]
        rw [List.take_append_of_le_length (by omega), List.take_of_length_le (by omega)]
end Go.Proofs.Ytnamjnopicghhaa
