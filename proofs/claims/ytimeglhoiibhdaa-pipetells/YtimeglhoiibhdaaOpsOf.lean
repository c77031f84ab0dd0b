/- What pipe.opsOf answers: the operations that a list of ints is, two ints each, in new memory. -/
import Derived.Test.YtimeglhoiibhdaaChunk
import Derived.Test.YtimeglhoiibhdaaOps
namespace Go.Proofs.Ytimeglhoiibhdaa
open Go.RowKit Go.Shelf M
attribute [local go_sem] Oper.semAt_some

namespace M
def pairAt (zs : List Int) (k : Nat) : Oq := ⟨zs.getD (2 * k) 0, zs.getD (2 * k + 1) 0⟩
/-- The operations of a list of ints. -/
def pairs (zs : List Int) (N : Nat) : List Oq := (List.range N).map (pairAt zs)
end M
theorem Try.info23 : (Try.prog.info? 23).map (fun i => (i.zero, i.size, i.bytes)) = some (some (.agg #[.int .i64 0, .int .i64 0]), 2, 16) := by kernel_rfl

def fpre {N : Nat} (zs : List Int) (pre : List (Fin N)) : List Oq := pre.map fun x => pairAt zs x.1
theorem fpre_all {N : Nat} (zs : List Int) (ys : List (Fin N)) (h : ys.map Fin.val = List.range N) : fpre zs ys = pairs zs N := by
  unfold fpre pairs
  rw [← h, List.map_map]; rfl

/-- A region without a 'defer' goes in a round as it goes elsewhere. -/
theorem op_round {n : Nat} {P : Program} {ops : Array Oper} {Q : Exit → Act → World → Prop} (l : Nat) (hnd : ∀ (i : Nat) (o : Oper), ops[i]? = some o → ∀ c, o.op ≠ .defer c) {i : Nat} {K K' : Act → World → Prop} {a : Act} {w : World} (hK : ∀ a w, K a w → K' a w)
    (h : wpOpIn Fence.wide n P ops Q i K a w) : wpOpIn (Fence.wide.inRound l) n P ops Q i K' a w := by
  have h := wpOpIn_mono hK h
  unfold wpOpIn at h ⊢
  cases ho : ops[i]? with
  | none => simp only [ho] at h ⊢; exact h
  | some o =>
    simp only [ho] at h ⊢
    split
    · rename_i hw
      simp only [hw, if_true] at h
      unfold Oper.wpIn at h ⊢
      refine ⟨h.1, ?_⟩
      have h2 := h.2
      rw [Oper.semAt_plain _ _ _ (hnd i o ho)] at h2 ⊢
      generalize (execOp a.eval o).run P w = r at h2 ⊢
      cases r with
      | ok x w' => cases x <;> exact h2
      | halt x w' => cases x <;> exact h2
    · rename_i hw
      simp only [hw] at h
      exact h
theorem any_round {n : Nat} {P : Program} {md : Region.Mode} {ops : Array Oper} {Q : Exit → Act → World → Prop} (l : Nat) (hnd : ∀ (i : Nat) (o : Oper), ops[i]? = some o → ∀ c, o.op ≠ .defer c) :
    ∀ (fuel : Nat) (listed : Array Bool) (a : Act) (w : World), wpAnyIn Fence.wide n P md ops Q fuel listed a w → wpAnyIn (Fence.wide.inRound l) n P md ops Q fuel listed a w
  | 0, _, _, _, h => h
  | fuel + 1, _, _, _, h => ⟨h.1, fun i hi => op_round l hnd (any_round l hnd fuel _) (h.2 i hi)⟩
def noDefer (ops : Array Oper) : Bool := ops.all fun o => match o.op with | .defer _ => false | _ => true
theorem noDefer_spec {ops : Array Oper} (h : noDefer ops = true) (i : Nat) (o : Oper) (ho : ops[i]? = some o) (c) : o.op ≠ .defer c := by
  intro e
  obtain ⟨hlt, rfl⟩ := Array.getElem?_eq_some_iff.1 ho
  have := Array.all_eq_true.1 h i hlt
  simp [e] at this
/-- 'append' of what lies at an address to a row of the call's own, as one operation. -/
theorem stepIn_append {n : Nat} {P : Program} {w : World} {o : Oper} {a : Act} {K : Act → World → Prop} {Q : Exit → Act → World → Prop} (s x : Operand) (t : TypeId)
    (hop : o.op = Op.call { callee := Callee.builtin Builtin.append, args := #[s, x], argTypes := #[t, t] })
    (base : Nat) (e : TypeId) (i : TypeInfo) (z : Value) (size bytes : Nat) (h1 : P.underlying t = some (.slice e)) (h2 : P.info? e = some i) (h3 : i.zero = some z) (h4 : i.size = size) (h5 : i.bytes = bytes) (h6 : z.cells.size = size) (h7 : 0 < size)
    (v : Value) (k : Nat) (xs : List Value) (hs : a.eval s = v) (hown : w.ownsRow base e size v k xs) (ad : Addr) (m c : Nat) (news : List Value) (hx : a.eval x = .slice (some ad) m c) (hn : news.length = m * size)
    (hc : ∀ j u, news[j]? = some u → w.cell? (ad.add j) = some u) (h1c : ∀ u ∈ news, u.oneCell' = true) (b1 : k + m ≤ maxLen) (b2 : (k + m) * bytes ≤ 140737488355328) (b3 : base ≤ w.heap.size)
    (hK : ∀ v' w', w'.ownsRow base e size v' (k + m) (xs ++ news) → w.grownBy w' v.ownBlock → (v' = .slice none 0 0 ↔ v = .slice none 0 0 ∧ m = 0) → K (a.put o.dst v') w') :
    Oper.wpIn Fence.wide n P o a w K Q := by
  obtain ⟨v', w', hrun, r1, r2, r3⟩ := run_append_own (P := P) w base t o.type e i z size bytes h1 h2 h3 h4 h5 h6 h7 v k xs hown ad m c news hn hc h1c b1 b2 b3
  refine ⟨fun _ _ => trivial, ?_⟩
  have hsem : (o.semAt Fence.wide.round a.eval).run P w = .ok (.value v') w' := by
    rw [Oper.semAt_plain _ _ _ (by rw [hop]; intro c hc'; cases hc')]
    simp [execOp, hop, resolve, invoke, builtin, hs, hx, hrun, Result.andThen]
  rw [hsem]
  exact hK v' w' r1 r2 r3
theorem lit_cells (V : World) (x y : Int) : ∀ j u, (opCells ⟨x, y⟩)[j]? = some u → (V.alloc (.cells #[.int .i64 x, .int .i64 y] 23)).cell? ((⟨V.heap.size, 0, none⟩ : Addr).add j) = some u := by
  intro j u h
  have h2 := World.ownsRow_lit (base := V.heap.size) (e := 23) (size := 2) V #[.int .i64 x, .int .i64 y] 1 (Nat.le_refl _) (by unfold maxLen; omega) (by rfl)
  have hj : j < 2 := (List.getElem?_eq_some_iff.1 h).1
  have h3 := h2.cellAt j (by omega)
  have e : ((⟨V.heap.size, 0, none⟩ : Addr).add j) = ⟨V.heap.size, j, none⟩ := by
    unfold Addr.add; split <;> simp_all
  rw [e, h3]
  exact h

set_option maxRecDepth 100000 in
set_option maxHeartbeats 2000000 in
theorem opsOf_in (ao : Option Addr) (b off N cap : Nat) (zs : List Int) (w : World) (hN : N ≤ 1000) (hcap : 2 * N ≤ cap) (hao : N ≠ 0 → ao = some ⟨b, off, none⟩ ∧ b < w.heap.size)
    (hc : ∀ j, j < 2 * N → w.cell? ⟨b, off + j, none⟩ = some (.int .i64 (zs.getD j 0))) (n : Nat) (hn : 3 ≤ n) :
    CallsIn Fence.wide n Try.prog 26 #[.int .i64 (N : Int), .slice ao (2 * N) cap] w fun e w' => ∃ u, e = .returned (.tuple #[u, .bool true]) ∧ w'.ownsRow w.heap.size 23 2 u N (opl (pairs zs N)) ∧ (u = .slice none 0 0 ↔ N = 0) ∧ Below w.heap.size w w' := by
  have h1 : 1 ≤ n := by omega
  obtain ⟨i0, hi, hz0, hz1, hz2⟩ := info_parts Try.info23
  refine callsIn_of_wp_marks Try.func26 rfl trivial ?_ rfl
  simp only [Try.ntmps26, List.size_toArray, List.length_cons, List.length_nil, Nat.reduceAdd, Nat.reduceSub, Array.replicate_succ, Array.replicate_zero, List.push_toArray, List.append_toArray, List.nil_append, List.cons_append]
  gi_wp2
  refine ⟨trivial, ?_⟩
  refine (chunk_in (n - 1) _ _ _ _).mono ?_
  rintro e w' ⟨rfl, rfl⟩
  gi_wp2
  have bO := Boxed.new w 24 (.slice none 0 0)
  have bS := Boxed.new (w.alloc (.cells #[.slice none 0 0] 24)) 36 (.slice ao (2 * N) cap)
  have bN := Boxed.new ((w.alloc (.cells #[.slice none 0 0] 24)).alloc (.cells #[.slice ao (2 * N) cap] 36)) 3 (.int .i64 2)
  rw [World.size_alloc] at bS
  rw [World.size_alloc, World.size_alloc] at bN
  have hB0 : Below w.heap.size w (((w.alloc (.cells #[.slice none 0 0] 24)).alloc (.cells #[.slice ao (2 * N) cap] 36)).alloc (.cells #[.int .i64 2] 3)) := (((Below.refl _ w).alloc (Nat.le_refl _) _).alloc (by simp) _).alloc (by simp; omega) _
  refine wpIn_rangeFunc_ownG rfl h1 (gf := 44) (lb := #[.pointer (some ⟨w.heap.size + 1, 0, none⟩), .pointer (some ⟨w.heap.size + 1 + 1, 0, none⟩)]) rfl trivial (enters_of Try.func44 (by kernel_rfl) rfl)
    (chunk_stops (n - 1) (by omega) (w.heap.size + 1) (w.heap.size + 1 + 1) b off N cap ao (fun h => (hao h).1) hN hcap _ (by simp) (by simp) (bS.alloc _).cell bN.cell) Kpc.trans (kpc_put (by simp) (by simp)) (Below.refl _ _) (fun _ => rfl)
    (fun pre W => (∃ v, Boxed W w.heap.size 24 v ∧ W.ownsRow w.heap.size 23 2 v pre.length (opl (fpre zs pre)) ∧ (v = .slice none 0 0 ↔ pre = [])) ∧ (Boxed W (w.heap.size + 1) 36 (.slice ao (2 * N) cap) ∧ Boxed W (w.heap.size + 1 + 1) 3 (.int .i64 2)) ∧ Below w.heap.size w W)
    (fun _ _ _ => False)
    (OwnFrom.and (Own.from (holdsRow_own w.heap.size w.heap.size 24 23 2 (fun pre => pre.length) (fun pre => opl (fpre zs pre)) (fun pre v => v = .slice none 0 0 ↔ pre = [])) _) (OwnFrom.and (OwnFrom.and (Own.from (boxed_own _ _ _) _) (Own.from (boxed_own _ _ _) _)) (ownFrom_below (Nat.le_refl _) (by simp; omega))))
    (fun _ _ _ _ _ hs _ _ => hs)
    ⟨⟨_, (bO.alloc _).alloc _, World.ownsRow_nil _ _ _ _, by simp⟩, ⟨bS.alloc _, bN⟩, hB0⟩
    (fun x => { tmps := #[.int .i64 (N : Int), .slice ao (2 * N) cap, undef, undef, .slice none 0 0, .bool false, .pointer (some ⟨w.heap.size, 0, none⟩), two b off x.1, .slice ao (2 * N) cap, .int .i64 (2 * (N : Int)), .int .i64 0, .bool false, .bool false, .slice ao (2 * N) cap, .int .i64 (2 * (N : Int)), .int .i64 (N : Int), .int .i64 (N : Int), .bool false, .bool false, .slice ao (2 * N) cap, .func (.func 44) #[] #[.pointer (some ⟨w.heap.size + 1, 0, none⟩), .pointer (some ⟨w.heap.size + 1 + 1, 0, none⟩)], two b off x.1, undef, undef, undef, undef, undef, undef, undef, undef, undef, undef, undef], defers := [] }) ?assign ?body ?done ?stop
  case assign =>
    intro l x W K hK
    gi_wp2
    exact hK
  case body =>
    rintro l pre ⟨k, hk⟩ W ⟨⟨v, hv, hrow, hnil⟩, ⟨hS, hNb⟩, hB⟩ hlt
    obtain ⟨hao1, hbw⟩ := hao (by omega)
    have hcv := hv.cell
    have hfv := hv.frozen
    have c1 : W.cell? ⟨b, off + 2 * k, none⟩ = some (.int .i64 (zs.getD (2 * k) 0)) := (hB.cell (p := ⟨b, off + 2 * k, none⟩) hbw).trans (hc (2 * k) (by omega))
    have c2 : W.cell? ⟨b, off + 2 * k + 1, none⟩ = some (.int .i64 (zs.getD (2 * k + 1) 0)) := (hB.cell (p := ⟨b, off + 2 * k + 1, none⟩) hbw).trans (hc (2 * k + 1) (by omega))
    obtain ⟨x, hx⟩ : ∃ x, Hid (x = zs.getD (2 * k) 0) := ⟨_, rfl⟩
    obtain ⟨y, hy⟩ : ∃ y, Hid (y = zs.getD (2 * k + 1) 0) := ⟨_, rfl⟩
    rw [← hx.out] at c1
    rw [← hy.out] at c2
    dsimp only [two]
    obtain ⟨q, hq⟩ : ∃ q, Hid (q = off + 2 * k) := ⟨_, rfl⟩
    rw [← hq.out] at c1 c2 ⊢
    gi_wp2
    refine wpIn_region_any (by kernel_rfl) ?_
    refine any_round l (noDefer_spec (by kernel_rfl)) _ _ _ _ ?_
    obtain ⟨V, hV⟩ : ∃ V, V = { W with drawn := W.drawn + 1 } := ⟨_, rfl⟩
    have hh : V.heap = W.heap := by rw [hV]
    have hWV : Below w.heap.size W V := by rw [hV]; exact (Below.refl _ W).drew
    have hvV : Boxed V w.heap.size 24 v := by rw [hV]; exact hv
    have hrV : V.ownsRow w.heap.size 23 2 v pre.length (opl (fpre zs pre)) := by rw [hV]; exact hrow
    have hcV : V.cell? ⟨w.heap.size, 0, none⟩ = some v := hvV.cell
    have d1 : V.cell? ⟨b, q, none⟩ = some (.int .i64 x) := by rw [hV]; exact c1
    have d2 : V.cell? ⟨b, q + 1, none⟩ = some (.int .i64 y) := by rw [hV]; exact c2
    have hsV : w.heap.size ≤ V.heap.size := by rw [hh]; exact hB.size
    have hSV : Boxed V (w.heap.size + 1) 36 (.slice ao (2 * N) cap) := by rw [hV]; exact hS
    have hNV : Boxed V (w.heap.size + 1 + 1) 3 (.int .i64 2) := by rw [hV]; exact hNb
    have hkV : KeepsOthers W V := by rw [hV]; exact KeepsOthers.drew W
    rw [← hV]
    clear hV hh
    have hcA : (V.alloc (.cells #[.int .i64 x, .int .i64 y] 23)).cell? ⟨w.heap.size, 0, none⟩ = some v := (hvV.alloc _).cell
    have hf6 : opl (fpre zs (pre ++ [⟨k, hk⟩])) = opl (fpre zs pre) ++ opCells ⟨x, y⟩ := by
      have e : fpre zs (pre ++ [⟨k, hk⟩]) = fpre zs pre ++ [⟨x, y⟩] := by
        unfold fpre
        rw [List.map_append, List.map_cons, List.map_nil, hx.out, hy.out]; rfl
      rw [e, opl_append]; simp [opl]
    refine wpAnyIn_take (i := 1) (v := .slice (some ⟨b, q, none⟩) 2 2) rfl rfl (by kernel_rfl) (by kernel_rfl) (by kernel_rfl) (fun _ _ _ h => h) ⟨Or.inl ⟨by rfl, fun X => by go_simp⟩, fun X => by rfl⟩ ?_
    try dsimp only [Act.put, List.setIfInBounds_toArray, List.set_cons_zero, List.set_cons_succ]
    refine wpAnyIn_take (i := 2) (v := .pointer (some ⟨b, q, none⟩)) rfl rfl (by kernel_rfl) (by kernel_rfl) (by kernel_rfl) (fun _ _ _ h => h) ⟨Or.inl ⟨by rfl, fun X => by go_simp⟩, fun X => by rfl⟩ ?_
    try dsimp only [Act.put, List.setIfInBounds_toArray, List.set_cons_zero, List.set_cons_succ]
    refine wpAnyIn_take (i := 4) (v := .slice (some ⟨b, q, none⟩) 2 2) rfl rfl (by kernel_rfl) (by kernel_rfl) (by kernel_rfl) (fun _ _ _ h => h) ⟨Or.inl ⟨by rfl, fun X => by go_simp⟩, fun X => by rfl⟩ ?_
    try dsimp only [Act.put, List.setIfInBounds_toArray, List.set_cons_zero, List.set_cons_succ]
    refine wpAnyIn_take (i := 5) (v := .pointer (some ⟨b, q + 1, none⟩)) rfl rfl (by kernel_rfl) (by kernel_rfl) (by kernel_rfl) (fun _ _ _ h => h) ⟨Or.inl ⟨by rfl, fun X => by go_simp⟩, fun X => by rfl⟩ ?_
    try dsimp only [Act.put, List.setIfInBounds_toArray, List.set_cons_zero, List.set_cons_succ]
    refine wpAnyIn_ready (rs := [0, 3, 6]) (by kernel_rfl) (by simp) ?_
    refine (AllReadyIn.cons rfl (fun K hK => ?_) (AllReadyIn.cons rfl (fun K hK => ?_) (AllReadyIn.cons rfl (fun K hK => ?_) AllReadyIn.nil)))
    · rw [if_pos (by rfl)]
      refine ⟨fun _ _ => trivial, ?_⟩
      go_simp
      refine hK _ _ ?_
      clear hK K
      try dsimp only [Act.put, List.setIfInBounds_toArray, List.set_cons_zero, List.set_cons_succ]
      refine wpAnyIn_ready (rs := [3, 6]) (by kernel_rfl) (by simp) ?_
      refine (AllReadyIn.cons rfl (fun K hK => ?_) (AllReadyIn.cons rfl (fun K hK => ?_) AllReadyIn.nil))
      · rw [if_pos (by rfl)]
        refine ⟨fun _ _ => trivial, ?_⟩
        go_simp
        refine hK _ _ ?_
        clear hK K
        try dsimp only [Act.put, List.setIfInBounds_toArray, List.set_cons_zero, List.set_cons_succ]
        refine wpAnyIn_ready (rs := [6]) (by kernel_rfl) (by simp) ?_
        refine (AllReadyIn.cons rfl (fun K hK => ?_) AllReadyIn.nil)
        · rw [if_pos (by rfl)]
          refine ⟨fun _ _ => trivial, ?_⟩
          go_simp
          refine hK _ _ ?_
          clear hK K
          try dsimp only [Act.put, List.setIfInBounds_toArray, List.set_cons_zero, List.set_cons_succ]
          refine wpAnyIn_take (i := 7) (v := .agg #[.int .i64 x, .int .i64 y]) rfl rfl (by kernel_rfl) (by kernel_rfl) (by kernel_rfl) (fun _ _ _ h => h) ⟨Or.inl ⟨by rfl, fun X => by go_simp⟩, fun X => by rfl⟩ ?_
          try dsimp only [Act.put, List.setIfInBounds_toArray, List.set_cons_zero, List.set_cons_succ]
          refine wpAnyIn_ready (rs := [8]) (by kernel_rfl) (by simp) ?_
          refine (AllReadyIn.cons rfl (fun K hK => ?_) AllReadyIn.nil)
          · rw [if_pos (by rfl)]
            refine ⟨fun _ _ => trivial, ?_⟩
            go_simp
            refine hK _ _ ?_
            clear hK K
            try dsimp only [Act.put, List.setIfInBounds_toArray, List.set_cons_zero, List.set_cons_succ]
            refine wpAnyIn_ready (rs := [9]) (by kernel_rfl) (by simp) ?_
            refine AllReadyIn.cons rfl (fun K hK => ?_) AllReadyIn.nil
            rw [if_pos (by rfl)]
            refine stepIn_append _ _ 24 rfl w.heap.size 23 i0 _ 2 16 Try.underlying24 hi hz0 hz1 hz2 rfl (by decide) _ _ _ rfl (hrV.alloc _) ⟨V.heap.size, 0, none⟩ 1 1 (opCells ⟨x, y⟩) rfl rfl (lit_cells V x y) (by intro u hu; simp only [opCells, List.mem_cons, List.not_mem_nil, or_false] at hu; rcases hu with rfl | rfl <;> rfl) (by simp only [maxLen]; omega) (by omega) (by have := hB.size; simp; omega) ?_
            intro v' w1 hown' hgrow _
            obtain ⟨g', cap', rfl⟩ := ownsRow_succ hown'
            obtain ⟨hv1, hv2, hr2, hk2, hb2⟩ := hvV.appended (by decide) hrV hsV (Nat.le_refl _) hown' hgrow
            have hc1 := hv1.cell
            have hf1 := hv1.frozen
            refine hK _ _ ?_
            clear hK K
            try dsimp only [Act.put, List.setIfInBounds_toArray, List.set_cons_zero, List.set_cons_succ]
            refine wpAnyIn_ready (rs := [10]) (by kernel_rfl) (by simp) ?_
            refine AllReadyIn.cons rfl (fun K hK => ?_) AllReadyIn.nil
            rw [if_pos (by rfl)]
            refine ⟨fun _ _ => trivial, ?_⟩
            go_simp
            refine hK _ _ ?_
            clear hK K
            try dsimp only [Act.put, List.setIfInBounds_toArray, List.set_cons_zero, List.set_cons_succ]
            refine wpAnyIn_done (by kernel_rfl) ?_ _
            gi_wp2
            have hS1 := ((hSV.alloc _).kept hgrow (hSV.not_row (by decide) hrV)).kept (grownBy_setCell' w1 w.heap.size (Value.slice (some ⟨g', 0, none⟩) (pre.length + 1) cap')) (by simp)
            have hN1 := ((hNV.alloc _).kept hgrow (hNV.not_row (by decide) hrV)).kept (grownBy_setCell' w1 w.heap.size (Value.slice (some ⟨g', 0, none⟩) (pre.length + 1) cap')) (by simp; omega)
            exact ⟨(hkV.trans hk2).from _, ⟨hS1.cell.trans hS.cell.symm, hN1.cell.trans hNb.cell.symm⟩, ⟨_, hv2, by rw [hf6, List.length_append]; exact hr2, by simp⟩, ⟨hS1, hN1⟩, (hB.trans hWV).trans hb2⟩
      · rw [if_pos (by rfl)]
        refine ⟨fun _ _ => trivial, ?_⟩
        go_simp
        refine hK _ _ ?_
        clear hK K
        try dsimp only [Act.put, List.setIfInBounds_toArray, List.set_cons_zero, List.set_cons_succ]
        refine wpAnyIn_ready (rs := [3]) (by kernel_rfl) (by simp) ?_
        refine (AllReadyIn.cons rfl (fun K hK => ?_) AllReadyIn.nil)
        · rw [if_pos (by rfl)]
          refine ⟨fun _ _ => trivial, ?_⟩
          go_simp
          refine hK _ _ ?_
          clear hK K
          try dsimp only [Act.put, List.setIfInBounds_toArray, List.set_cons_zero, List.set_cons_succ]
          refine wpAnyIn_take (i := 7) (v := .agg #[.int .i64 x, .int .i64 y]) rfl rfl (by kernel_rfl) (by kernel_rfl) (by kernel_rfl) (fun _ _ _ h => h) ⟨Or.inl ⟨by rfl, fun X => by go_simp⟩, fun X => by rfl⟩ ?_
          try dsimp only [Act.put, List.setIfInBounds_toArray, List.set_cons_zero, List.set_cons_succ]
          refine wpAnyIn_ready (rs := [8]) (by kernel_rfl) (by simp) ?_
          refine (AllReadyIn.cons rfl (fun K hK => ?_) AllReadyIn.nil)
          · rw [if_pos (by rfl)]
            refine ⟨fun _ _ => trivial, ?_⟩
            go_simp
            refine hK _ _ ?_
            clear hK K
            try dsimp only [Act.put, List.setIfInBounds_toArray, List.set_cons_zero, List.set_cons_succ]
            refine wpAnyIn_ready (rs := [9]) (by kernel_rfl) (by simp) ?_
            refine AllReadyIn.cons rfl (fun K hK => ?_) AllReadyIn.nil
            rw [if_pos (by rfl)]
            refine stepIn_append _ _ 24 rfl w.heap.size 23 i0 _ 2 16 Try.underlying24 hi hz0 hz1 hz2 rfl (by decide) _ _ _ rfl (hrV.alloc _) ⟨V.heap.size, 0, none⟩ 1 1 (opCells ⟨x, y⟩) rfl rfl (lit_cells V x y) (by intro u hu; simp only [opCells, List.mem_cons, List.not_mem_nil, or_false] at hu; rcases hu with rfl | rfl <;> rfl) (by simp only [maxLen]; omega) (by omega) (by have := hB.size; simp; omega) ?_
            intro v' w1 hown' hgrow _
            obtain ⟨g', cap', rfl⟩ := ownsRow_succ hown'
            obtain ⟨hv1, hv2, hr2, hk2, hb2⟩ := hvV.appended (by decide) hrV hsV (Nat.le_refl _) hown' hgrow
            have hc1 := hv1.cell
            have hf1 := hv1.frozen
            refine hK _ _ ?_
            clear hK K
            try dsimp only [Act.put, List.setIfInBounds_toArray, List.set_cons_zero, List.set_cons_succ]
            refine wpAnyIn_ready (rs := [10]) (by kernel_rfl) (by simp) ?_
            refine AllReadyIn.cons rfl (fun K hK => ?_) AllReadyIn.nil
            rw [if_pos (by rfl)]
            refine ⟨fun _ _ => trivial, ?_⟩
            go_simp
            refine hK _ _ ?_
            clear hK K
            try dsimp only [Act.put, List.setIfInBounds_toArray, List.set_cons_zero, List.set_cons_succ]
            refine wpAnyIn_done (by kernel_rfl) ?_ _
            gi_wp2
            have hS1 := ((hSV.alloc _).kept hgrow (hSV.not_row (by decide) hrV)).kept (grownBy_setCell' w1 w.heap.size (Value.slice (some ⟨g', 0, none⟩) (pre.length + 1) cap')) (by simp)
            have hN1 := ((hNV.alloc _).kept hgrow (hNV.not_row (by decide) hrV)).kept (grownBy_setCell' w1 w.heap.size (Value.slice (some ⟨g', 0, none⟩) (pre.length + 1) cap')) (by simp; omega)
            exact ⟨(hkV.trans hk2).from _, ⟨hS1.cell.trans hS.cell.symm, hN1.cell.trans hNb.cell.symm⟩, ⟨_, hv2, by rw [hf6, List.length_append]; exact hr2, by simp⟩, ⟨hS1, hN1⟩, (hB.trans hWV).trans hb2⟩
    · rw [if_pos (by rfl)]
      refine ⟨fun _ _ => trivial, ?_⟩
      go_simp
      refine hK _ _ ?_
      clear hK K
      try dsimp only [Act.put, List.setIfInBounds_toArray, List.set_cons_zero, List.set_cons_succ]
      refine wpAnyIn_ready (rs := [0, 6]) (by kernel_rfl) (by simp) ?_
      refine (AllReadyIn.cons rfl (fun K hK => ?_) (AllReadyIn.cons rfl (fun K hK => ?_) AllReadyIn.nil))
      · rw [if_pos (by rfl)]
        refine ⟨fun _ _ => trivial, ?_⟩
        go_simp
        refine hK _ _ ?_
        clear hK K
        try dsimp only [Act.put, List.setIfInBounds_toArray, List.set_cons_zero, List.set_cons_succ]
        refine wpAnyIn_ready (rs := [6]) (by kernel_rfl) (by simp) ?_
        refine (AllReadyIn.cons rfl (fun K hK => ?_) AllReadyIn.nil)
        · rw [if_pos (by rfl)]
          refine ⟨fun _ _ => trivial, ?_⟩
          go_simp
          refine hK _ _ ?_
          clear hK K
          try dsimp only [Act.put, List.setIfInBounds_toArray, List.set_cons_zero, List.set_cons_succ]
          refine wpAnyIn_take (i := 7) (v := .agg #[.int .i64 x, .int .i64 y]) rfl rfl (by kernel_rfl) (by kernel_rfl) (by kernel_rfl) (fun _ _ _ h => h) ⟨Or.inl ⟨by rfl, fun X => by go_simp⟩, fun X => by rfl⟩ ?_
          try dsimp only [Act.put, List.setIfInBounds_toArray, List.set_cons_zero, List.set_cons_succ]
          refine wpAnyIn_ready (rs := [8]) (by kernel_rfl) (by simp) ?_
          refine (AllReadyIn.cons rfl (fun K hK => ?_) AllReadyIn.nil)
          · rw [if_pos (by rfl)]
            refine ⟨fun _ _ => trivial, ?_⟩
            go_simp
            refine hK _ _ ?_
            clear hK K
            try dsimp only [Act.put, List.setIfInBounds_toArray, List.set_cons_zero, List.set_cons_succ]
            refine wpAnyIn_ready (rs := [9]) (by kernel_rfl) (by simp) ?_
            refine AllReadyIn.cons rfl (fun K hK => ?_) AllReadyIn.nil
            rw [if_pos (by rfl)]
            refine stepIn_append _ _ 24 rfl w.heap.size 23 i0 _ 2 16 Try.underlying24 hi hz0 hz1 hz2 rfl (by decide) _ _ _ rfl (hrV.alloc _) ⟨V.heap.size, 0, none⟩ 1 1 (opCells ⟨x, y⟩) rfl rfl (lit_cells V x y) (by intro u hu; simp only [opCells, List.mem_cons, List.not_mem_nil, or_false] at hu; rcases hu with rfl | rfl <;> rfl) (by simp only [maxLen]; omega) (by omega) (by have := hB.size; simp; omega) ?_
            intro v' w1 hown' hgrow _
            obtain ⟨g', cap', rfl⟩ := ownsRow_succ hown'
            obtain ⟨hv1, hv2, hr2, hk2, hb2⟩ := hvV.appended (by decide) hrV hsV (Nat.le_refl _) hown' hgrow
            have hc1 := hv1.cell
            have hf1 := hv1.frozen
            refine hK _ _ ?_
            clear hK K
            try dsimp only [Act.put, List.setIfInBounds_toArray, List.set_cons_zero, List.set_cons_succ]
            refine wpAnyIn_ready (rs := [10]) (by kernel_rfl) (by simp) ?_
            refine AllReadyIn.cons rfl (fun K hK => ?_) AllReadyIn.nil
            rw [if_pos (by rfl)]
            refine ⟨fun _ _ => trivial, ?_⟩
            go_simp
            refine hK _ _ ?_
            clear hK K
            try dsimp only [Act.put, List.setIfInBounds_toArray, List.set_cons_zero, List.set_cons_succ]
            refine wpAnyIn_done (by kernel_rfl) ?_ _
            gi_wp2
            have hS1 := ((hSV.alloc _).kept hgrow (hSV.not_row (by decide) hrV)).kept (grownBy_setCell' w1 w.heap.size (Value.slice (some ⟨g', 0, none⟩) (pre.length + 1) cap')) (by simp)
            have hN1 := ((hNV.alloc _).kept hgrow (hNV.not_row (by decide) hrV)).kept (grownBy_setCell' w1 w.heap.size (Value.slice (some ⟨g', 0, none⟩) (pre.length + 1) cap')) (by simp; omega)
            exact ⟨(hkV.trans hk2).from _, ⟨hS1.cell.trans hS.cell.symm, hN1.cell.trans hNb.cell.symm⟩, ⟨_, hv2, by rw [hf6, List.length_append]; exact hr2, by simp⟩, ⟨hS1, hN1⟩, (hB.trans hWV).trans hb2⟩
      · rw [if_pos (by rfl)]
        refine ⟨fun _ _ => trivial, ?_⟩
        go_simp
        refine hK _ _ ?_
        clear hK K
        try dsimp only [Act.put, List.setIfInBounds_toArray, List.set_cons_zero, List.set_cons_succ]
        refine wpAnyIn_take (i := 7) (v := .agg #[.int .i64 x, .int .i64 y]) rfl rfl (by kernel_rfl) (by kernel_rfl) (by kernel_rfl) (fun _ _ _ h => h) ⟨Or.inl ⟨by rfl, fun X => by go_simp⟩, fun X => by rfl⟩ ?_
        try dsimp only [Act.put, List.setIfInBounds_toArray, List.set_cons_zero, List.set_cons_succ]
        refine wpAnyIn_ready (rs := [0, 8]) (by kernel_rfl) (by simp) ?_
        refine (AllReadyIn.cons rfl (fun K hK => ?_) (AllReadyIn.cons rfl (fun K hK => ?_) AllReadyIn.nil))
        · rw [if_pos (by rfl)]
          refine ⟨fun _ _ => trivial, ?_⟩
          go_simp
          refine hK _ _ ?_
          clear hK K
          try dsimp only [Act.put, List.setIfInBounds_toArray, List.set_cons_zero, List.set_cons_succ]
          refine wpAnyIn_ready (rs := [8]) (by kernel_rfl) (by simp) ?_
          refine (AllReadyIn.cons rfl (fun K hK => ?_) AllReadyIn.nil)
          · rw [if_pos (by rfl)]
            refine ⟨fun _ _ => trivial, ?_⟩
            go_simp
            refine hK _ _ ?_
            clear hK K
            try dsimp only [Act.put, List.setIfInBounds_toArray, List.set_cons_zero, List.set_cons_succ]
            refine wpAnyIn_ready (rs := [9]) (by kernel_rfl) (by simp) ?_
            refine AllReadyIn.cons rfl (fun K hK => ?_) AllReadyIn.nil
            rw [if_pos (by rfl)]
            refine stepIn_append _ _ 24 rfl w.heap.size 23 i0 _ 2 16 Try.underlying24 hi hz0 hz1 hz2 rfl (by decide) _ _ _ rfl (hrV.alloc _) ⟨V.heap.size, 0, none⟩ 1 1 (opCells ⟨x, y⟩) rfl rfl (lit_cells V x y) (by intro u hu; simp only [opCells, List.mem_cons, List.not_mem_nil, or_false] at hu; rcases hu with rfl | rfl <;> rfl) (by simp only [maxLen]; omega) (by omega) (by have := hB.size; simp; omega) ?_
            intro v' w1 hown' hgrow _
            obtain ⟨g', cap', rfl⟩ := ownsRow_succ hown'
            obtain ⟨hv1, hv2, hr2, hk2, hb2⟩ := hvV.appended (by decide) hrV hsV (Nat.le_refl _) hown' hgrow
            have hc1 := hv1.cell
            have hf1 := hv1.frozen
            refine hK _ _ ?_
            clear hK K
            try dsimp only [Act.put, List.setIfInBounds_toArray, List.set_cons_zero, List.set_cons_succ]
            refine wpAnyIn_ready (rs := [10]) (by kernel_rfl) (by simp) ?_
            refine AllReadyIn.cons rfl (fun K hK => ?_) AllReadyIn.nil
            rw [if_pos (by rfl)]
            refine ⟨fun _ _ => trivial, ?_⟩
            go_simp
            refine hK _ _ ?_
            clear hK K
            try dsimp only [Act.put, List.setIfInBounds_toArray, List.set_cons_zero, List.set_cons_succ]
            refine wpAnyIn_done (by kernel_rfl) ?_ _
            gi_wp2
            have hS1 := ((hSV.alloc _).kept hgrow (hSV.not_row (by decide) hrV)).kept (grownBy_setCell' w1 w.heap.size (Value.slice (some ⟨g', 0, none⟩) (pre.length + 1) cap')) (by simp)
            have hN1 := ((hNV.alloc _).kept hgrow (hNV.not_row (by decide) hrV)).kept (grownBy_setCell' w1 w.heap.size (Value.slice (some ⟨g', 0, none⟩) (pre.length + 1) cap')) (by simp; omega)
            exact ⟨(hkV.trans hk2).from _, ⟨hS1.cell.trans hS.cell.symm, hN1.cell.trans hNb.cell.symm⟩, ⟨_, hv2, by rw [hf6, List.length_append]; exact hr2, by simp⟩, ⟨hS1, hN1⟩, (hB.trans hWV).trans hb2⟩
        · rw [if_pos (by rfl)]
          refine ⟨fun _ _ => trivial, ?_⟩
          go_simp
          refine hK _ _ ?_
          clear hK K
          try dsimp only [Act.put, List.setIfInBounds_toArray, List.set_cons_zero, List.set_cons_succ]
          refine wpAnyIn_ready (rs := [0]) (by kernel_rfl) (by simp) ?_
          refine (AllReadyIn.cons rfl (fun K hK => ?_) AllReadyIn.nil)
          · rw [if_pos (by rfl)]
            refine ⟨fun _ _ => trivial, ?_⟩
            go_simp
            refine hK _ _ ?_
            clear hK K
            try dsimp only [Act.put, List.setIfInBounds_toArray, List.set_cons_zero, List.set_cons_succ]
            refine wpAnyIn_ready (rs := [9]) (by kernel_rfl) (by simp) ?_
            refine AllReadyIn.cons rfl (fun K hK => ?_) AllReadyIn.nil
            rw [if_pos (by rfl)]
            refine stepIn_append _ _ 24 rfl w.heap.size 23 i0 _ 2 16 Try.underlying24 hi hz0 hz1 hz2 rfl (by decide) _ _ _ rfl (hrV.alloc _) ⟨V.heap.size, 0, none⟩ 1 1 (opCells ⟨x, y⟩) rfl rfl (lit_cells V x y) (by intro u hu; simp only [opCells, List.mem_cons, List.not_mem_nil, or_false] at hu; rcases hu with rfl | rfl <;> rfl) (by simp only [maxLen]; omega) (by omega) (by have := hB.size; simp; omega) ?_
            intro v' w1 hown' hgrow _
            obtain ⟨g', cap', rfl⟩ := ownsRow_succ hown'
            obtain ⟨hv1, hv2, hr2, hk2, hb2⟩ := hvV.appended (by decide) hrV hsV (Nat.le_refl _) hown' hgrow
            have hc1 := hv1.cell
            have hf1 := hv1.frozen
            refine hK _ _ ?_
            clear hK K
            try dsimp only [Act.put, List.setIfInBounds_toArray, List.set_cons_zero, List.set_cons_succ]
            refine wpAnyIn_ready (rs := [10]) (by kernel_rfl) (by simp) ?_
            refine AllReadyIn.cons rfl (fun K hK => ?_) AllReadyIn.nil
            rw [if_pos (by rfl)]
            refine ⟨fun _ _ => trivial, ?_⟩
            go_simp
            refine hK _ _ ?_
            clear hK K
            try dsimp only [Act.put, List.setIfInBounds_toArray, List.set_cons_zero, List.set_cons_succ]
            refine wpAnyIn_done (by kernel_rfl) ?_ _
            gi_wp2
            have hS1 := ((hSV.alloc _).kept hgrow (hSV.not_row (by decide) hrV)).kept (grownBy_setCell' w1 w.heap.size (Value.slice (some ⟨g', 0, none⟩) (pre.length + 1) cap')) (by simp)
            have hN1 := ((hNV.alloc _).kept hgrow (hNV.not_row (by decide) hrV)).kept (grownBy_setCell' w1 w.heap.size (Value.slice (some ⟨g', 0, none⟩) (pre.length + 1) cap')) (by simp; omega)
            exact ⟨(hkV.trans hk2).from _, ⟨hS1.cell.trans hS.cell.symm, hN1.cell.trans hNb.cell.symm⟩, ⟨_, hv2, by rw [hf6, List.length_append]; exact hr2, by simp⟩, ⟨hS1, hN1⟩, (hB.trans hWV).trans hb2⟩
    · rw [if_pos (by rfl)]
      refine ⟨fun _ _ => trivial, ?_⟩
      go_simp
      refine hK _ _ ?_
      clear hK K
      try dsimp only [Act.put, List.setIfInBounds_toArray, List.set_cons_zero, List.set_cons_succ]
      refine wpAnyIn_ready (rs := [0, 3]) (by kernel_rfl) (by simp) ?_
      refine (AllReadyIn.cons rfl (fun K hK => ?_) (AllReadyIn.cons rfl (fun K hK => ?_) AllReadyIn.nil))
      · rw [if_pos (by rfl)]
        refine ⟨fun _ _ => trivial, ?_⟩
        go_simp
        refine hK _ _ ?_
        clear hK K
        try dsimp only [Act.put, List.setIfInBounds_toArray, List.set_cons_zero, List.set_cons_succ]
        refine wpAnyIn_ready (rs := [3]) (by kernel_rfl) (by simp) ?_
        refine (AllReadyIn.cons rfl (fun K hK => ?_) AllReadyIn.nil)
        · rw [if_pos (by rfl)]
          refine ⟨fun _ _ => trivial, ?_⟩
          go_simp
          refine hK _ _ ?_
          clear hK K
          try dsimp only [Act.put, List.setIfInBounds_toArray, List.set_cons_zero, List.set_cons_succ]
          refine wpAnyIn_take (i := 7) (v := .agg #[.int .i64 x, .int .i64 y]) rfl rfl (by kernel_rfl) (by kernel_rfl) (by kernel_rfl) (fun _ _ _ h => h) ⟨Or.inl ⟨by rfl, fun X => by go_simp⟩, fun X => by rfl⟩ ?_
          try dsimp only [Act.put, List.setIfInBounds_toArray, List.set_cons_zero, List.set_cons_succ]
          refine wpAnyIn_ready (rs := [8]) (by kernel_rfl) (by simp) ?_
          refine (AllReadyIn.cons rfl (fun K hK => ?_) AllReadyIn.nil)
          · rw [if_pos (by rfl)]
            refine ⟨fun _ _ => trivial, ?_⟩
            go_simp
            refine hK _ _ ?_
            clear hK K
            try dsimp only [Act.put, List.setIfInBounds_toArray, List.set_cons_zero, List.set_cons_succ]
            refine wpAnyIn_ready (rs := [9]) (by kernel_rfl) (by simp) ?_
            refine AllReadyIn.cons rfl (fun K hK => ?_) AllReadyIn.nil
            rw [if_pos (by rfl)]
            refine stepIn_append _ _ 24 rfl w.heap.size 23 i0 _ 2 16 Try.underlying24 hi hz0 hz1 hz2 rfl (by decide) _ _ _ rfl (hrV.alloc _) ⟨V.heap.size, 0, none⟩ 1 1 (opCells ⟨x, y⟩) rfl rfl (lit_cells V x y) (by intro u hu; simp only [opCells, List.mem_cons, List.not_mem_nil, or_false] at hu; rcases hu with rfl | rfl <;> rfl) (by simp only [maxLen]; omega) (by omega) (by have := hB.size; simp; omega) ?_
            intro v' w1 hown' hgrow _
            obtain ⟨g', cap', rfl⟩ := ownsRow_succ hown'
            obtain ⟨hv1, hv2, hr2, hk2, hb2⟩ := hvV.appended (by decide) hrV hsV (Nat.le_refl _) hown' hgrow
            have hc1 := hv1.cell
            have hf1 := hv1.frozen
            refine hK _ _ ?_
            clear hK K
            try dsimp only [Act.put, List.setIfInBounds_toArray, List.set_cons_zero, List.set_cons_succ]
            refine wpAnyIn_ready (rs := [10]) (by kernel_rfl) (by simp) ?_
            refine AllReadyIn.cons rfl (fun K hK => ?_) AllReadyIn.nil
            rw [if_pos (by rfl)]
            refine ⟨fun _ _ => trivial, ?_⟩
            go_simp
            refine hK _ _ ?_
            clear hK K
            try dsimp only [Act.put, List.setIfInBounds_toArray, List.set_cons_zero, List.set_cons_succ]
            refine wpAnyIn_done (by kernel_rfl) ?_ _
            gi_wp2
            have hS1 := ((hSV.alloc _).kept hgrow (hSV.not_row (by decide) hrV)).kept (grownBy_setCell' w1 w.heap.size (Value.slice (some ⟨g', 0, none⟩) (pre.length + 1) cap')) (by simp)
            have hN1 := ((hNV.alloc _).kept hgrow (hNV.not_row (by decide) hrV)).kept (grownBy_setCell' w1 w.heap.size (Value.slice (some ⟨g', 0, none⟩) (pre.length + 1) cap')) (by simp; omega)
            exact ⟨(hkV.trans hk2).from _, ⟨hS1.cell.trans hS.cell.symm, hN1.cell.trans hNb.cell.symm⟩, ⟨_, hv2, by rw [hf6, List.length_append]; exact hr2, by simp⟩, ⟨hS1, hN1⟩, (hB.trans hWV).trans hb2⟩
      · rw [if_pos (by rfl)]
        refine ⟨fun _ _ => trivial, ?_⟩
        go_simp
        refine hK _ _ ?_
        clear hK K
        try dsimp only [Act.put, List.setIfInBounds_toArray, List.set_cons_zero, List.set_cons_succ]
        refine wpAnyIn_take (i := 7) (v := .agg #[.int .i64 x, .int .i64 y]) rfl rfl (by kernel_rfl) (by kernel_rfl) (by kernel_rfl) (fun _ _ _ h => h) ⟨Or.inl ⟨by rfl, fun X => by go_simp⟩, fun X => by rfl⟩ ?_
        try dsimp only [Act.put, List.setIfInBounds_toArray, List.set_cons_zero, List.set_cons_succ]
        refine wpAnyIn_ready (rs := [0, 8]) (by kernel_rfl) (by simp) ?_
        refine (AllReadyIn.cons rfl (fun K hK => ?_) (AllReadyIn.cons rfl (fun K hK => ?_) AllReadyIn.nil))
        · rw [if_pos (by rfl)]
          refine ⟨fun _ _ => trivial, ?_⟩
          go_simp
          refine hK _ _ ?_
          clear hK K
          try dsimp only [Act.put, List.setIfInBounds_toArray, List.set_cons_zero, List.set_cons_succ]
          refine wpAnyIn_ready (rs := [8]) (by kernel_rfl) (by simp) ?_
          refine (AllReadyIn.cons rfl (fun K hK => ?_) AllReadyIn.nil)
          · rw [if_pos (by rfl)]
            refine ⟨fun _ _ => trivial, ?_⟩
            go_simp
            refine hK _ _ ?_
            clear hK K
            try dsimp only [Act.put, List.setIfInBounds_toArray, List.set_cons_zero, List.set_cons_succ]
            refine wpAnyIn_ready (rs := [9]) (by kernel_rfl) (by simp) ?_
            refine AllReadyIn.cons rfl (fun K hK => ?_) AllReadyIn.nil
            rw [if_pos (by rfl)]
            refine stepIn_append _ _ 24 rfl w.heap.size 23 i0 _ 2 16 Try.underlying24 hi hz0 hz1 hz2 rfl (by decide) _ _ _ rfl (hrV.alloc _) ⟨V.heap.size, 0, none⟩ 1 1 (opCells ⟨x, y⟩) rfl rfl (lit_cells V x y) (by intro u hu; simp only [opCells, List.mem_cons, List.not_mem_nil, or_false] at hu; rcases hu with rfl | rfl <;> rfl) (by simp only [maxLen]; omega) (by omega) (by have := hB.size; simp; omega) ?_
            intro v' w1 hown' hgrow _
            obtain ⟨g', cap', rfl⟩ := ownsRow_succ hown'
            obtain ⟨hv1, hv2, hr2, hk2, hb2⟩ := hvV.appended (by decide) hrV hsV (Nat.le_refl _) hown' hgrow
            have hc1 := hv1.cell
            have hf1 := hv1.frozen
            refine hK _ _ ?_
            clear hK K
            try dsimp only [Act.put, List.setIfInBounds_toArray, List.set_cons_zero, List.set_cons_succ]
            refine wpAnyIn_ready (rs := [10]) (by kernel_rfl) (by simp) ?_
            refine AllReadyIn.cons rfl (fun K hK => ?_) AllReadyIn.nil
            rw [if_pos (by rfl)]
            refine ⟨fun _ _ => trivial, ?_⟩
            go_simp
            refine hK _ _ ?_
            clear hK K
            try dsimp only [Act.put, List.setIfInBounds_toArray, List.set_cons_zero, List.set_cons_succ]
            refine wpAnyIn_done (by kernel_rfl) ?_ _
            gi_wp2
            have hS1 := ((hSV.alloc _).kept hgrow (hSV.not_row (by decide) hrV)).kept (grownBy_setCell' w1 w.heap.size (Value.slice (some ⟨g', 0, none⟩) (pre.length + 1) cap')) (by simp)
            have hN1 := ((hNV.alloc _).kept hgrow (hNV.not_row (by decide) hrV)).kept (grownBy_setCell' w1 w.heap.size (Value.slice (some ⟨g', 0, none⟩) (pre.length + 1) cap')) (by simp; omega)
            exact ⟨(hkV.trans hk2).from _, ⟨hS1.cell.trans hS.cell.symm, hN1.cell.trans hNb.cell.symm⟩, ⟨_, hv2, by rw [hf6, List.length_append]; exact hr2, by simp⟩, ⟨hS1, hN1⟩, (hB.trans hWV).trans hb2⟩
        · rw [if_pos (by rfl)]
          refine ⟨fun _ _ => trivial, ?_⟩
          go_simp
          refine hK _ _ ?_
          clear hK K
          try dsimp only [Act.put, List.setIfInBounds_toArray, List.set_cons_zero, List.set_cons_succ]
          refine wpAnyIn_ready (rs := [0]) (by kernel_rfl) (by simp) ?_
          refine (AllReadyIn.cons rfl (fun K hK => ?_) AllReadyIn.nil)
          · rw [if_pos (by rfl)]
            refine ⟨fun _ _ => trivial, ?_⟩
            go_simp
            refine hK _ _ ?_
            clear hK K
            try dsimp only [Act.put, List.setIfInBounds_toArray, List.set_cons_zero, List.set_cons_succ]
            refine wpAnyIn_ready (rs := [9]) (by kernel_rfl) (by simp) ?_
            refine AllReadyIn.cons rfl (fun K hK => ?_) AllReadyIn.nil
            rw [if_pos (by rfl)]
            refine stepIn_append _ _ 24 rfl w.heap.size 23 i0 _ 2 16 Try.underlying24 hi hz0 hz1 hz2 rfl (by decide) _ _ _ rfl (hrV.alloc _) ⟨V.heap.size, 0, none⟩ 1 1 (opCells ⟨x, y⟩) rfl rfl (lit_cells V x y) (by intro u hu; simp only [opCells, List.mem_cons, List.not_mem_nil, or_false] at hu; rcases hu with rfl | rfl <;> rfl) (by simp only [maxLen]; omega) (by omega) (by have := hB.size; simp; omega) ?_
            intro v' w1 hown' hgrow _
            obtain ⟨g', cap', rfl⟩ := ownsRow_succ hown'
            obtain ⟨hv1, hv2, hr2, hk2, hb2⟩ := hvV.appended (by decide) hrV hsV (Nat.le_refl _) hown' hgrow
            have hc1 := hv1.cell
            have hf1 := hv1.frozen
            refine hK _ _ ?_
            clear hK K
            try dsimp only [Act.put, List.setIfInBounds_toArray, List.set_cons_zero, List.set_cons_succ]
            refine wpAnyIn_ready (rs := [10]) (by kernel_rfl) (by simp) ?_
            refine AllReadyIn.cons rfl (fun K hK => ?_) AllReadyIn.nil
            rw [if_pos (by rfl)]
            refine ⟨fun _ _ => trivial, ?_⟩
            go_simp
            refine hK _ _ ?_
            clear hK K
            try dsimp only [Act.put, List.setIfInBounds_toArray, List.set_cons_zero, List.set_cons_succ]
            refine wpAnyIn_done (by kernel_rfl) ?_ _
            gi_wp2
            have hS1 := ((hSV.alloc _).kept hgrow (hSV.not_row (by decide) hrV)).kept (grownBy_setCell' w1 w.heap.size (Value.slice (some ⟨g', 0, none⟩) (pre.length + 1) cap')) (by simp)
            have hN1 := ((hNV.alloc _).kept hgrow (hNV.not_row (by decide) hrV)).kept (grownBy_setCell' w1 w.heap.size (Value.slice (some ⟨g', 0, none⟩) (pre.length + 1) cap')) (by simp; omega)
            exact ⟨(hkV.trans hk2).from _, ⟨hS1.cell.trans hS.cell.symm, hN1.cell.trans hNb.cell.symm⟩, ⟨_, hv2, by rw [hf6, List.length_append]; exact hr2, by simp⟩, ⟨hS1, hN1⟩, (hB.trans hWV).trans hb2⟩
  case done =>
    rintro D ys W hD hys ⟨⟨v, hv, hrow, hnil⟩, _, hB⟩ hK
    have hcv := hv.cell
    gi_wp2
    refine ⟨by simp, .inl ⟨_, _, rfl, run_takeDeferred hK, ?_⟩⟩
    have hl : ys.length = N := by have := congrArg List.length hys; simpa using this
    rw [fpre_all zs ys hys, hl] at hrow
    refine ⟨.tuple #[v, .bool true], by simp [results, Try.results26, go_sem], v, rfl, ownsRow_putObj hrow _ hK rfl, ?_, hB.trans (belowK_b (w := w) (Nat.le_refl _) W D _ _ (by simp at hD; omega) hK rfl rfl)⟩
    rw [hnil]
    exact ⟨fun h => by rw [← hl, h]; rfl, fun h => List.eq_nil_of_length_eq_zero (by omega)⟩
  case stop =>
    rintro D c pre W _ _ h _
    exact h.elim
end Go.Proofs.Ytimeglhoiibhdaa
