/- cordonkeep.Inputs: inputs of small numbers, in new memory. -/
import Derived.Test.YtnamjnopicghhaaFrame
namespace Go.Proofs.Ytnamjnopicghhaa
open Go.RowKit M
open O (RdO)
open O.MO (Oq Pq rightP)
set_option linter.unusedVariables false
set_option linter.unusedSimpArgs false
attribute [local go_sem ↓] Go.wp_at_zero Go.wp_at_succ

/-- An input of small numbers. -/
def Good (i : Inp) : Prop := (i.mrk = true ∧ 0 ≤ i.e.t ∧ i.e.t ≤ 160 ∧ i.e.k = 0 ∧ i.e.v = 0 ∧ i.e.l = 0) ∨ (i.mrk = false ∧ 0 ≤ i.e.t ∧ i.e.t ≤ 120 ∧ 0 ≤ i.e.k ∧ i.e.k ≤ 3 ∧ -50 ≤ i.e.v ∧ i.e.v ≤ 50 ∧ 0 < i.e.l ∧ i.e.l < 256)
theorem Good.lt {i : Inp} (h : Good i) : i.e.l < 18446744073709551616 := by
  rcases h with h | h
  · rw [h.2.2.2.2.2]; omega
  · omega
def izero : Value := .agg #[.bool false, .int .i64 0, .int .i64 0, .int .i64 0, .int .u64 0]
theorem Try.info31z : (Try.prog.info? 31).map (fun i => (i.zero, i.size, i.bytes)) = some (some izero, 5, 40) := by kernel_rfl
/-- Numbers of an input, their block whole. -/
def Qik (w : World) (b : Nat) (t y v m : Int) : Prop := w.heap[b]? = some (.cells #[.int .i64 t, .int .i64 y, .int .i64 v, .int .i64 m] 104 (0, 0))
theorem Qik.c {w : World} {b : Nat} {t y v m : Int} (h : Qik w b t y v m) : w.cell? ⟨b, 0, none⟩ = some (.int .i64 t) ∧ w.cell? ⟨b, 1, none⟩ = some (.int .i64 y) ∧ w.cell? ⟨b, 2, none⟩ = some (.int .i64 v) ∧ w.cell? ⟨b, 3, none⟩ = some (.int .i64 m) := by
  unfold Qik at h; exact ⟨by simp [World.cell?, h], by simp [World.cell?, h], by simp [World.cell?, h], by simp [World.cell?, h]⟩
theorem Qik.lt {w : World} {b : Nat} {t y v m : Int} (h : Qik w b t y v m) : b < w.heap.size := (Array.getElem?_eq_some_iff.1 h).1
theorem Qik.below {w w' : World} {b : Nat} {t y v m : Int} (h : Qik w b t y v m) (hb : Below w.heap.size w w') : Qik w' b t y v m := (hb.block b h.lt).trans h
theorem qik_new (w : World) (t y v m : Int) : Qik (w.alloc (.cells #[.int .i64 t, .int .i64 y, .int .i64 v, .int .i64 m] 104)) w.heap.size t y v m := by
  show (w.heap.push _)[w.heap.size]? = _
  simp
/-- One input in a block of its own, as what is appended. -/
theorem in_src (w : World) (i : Inp) (g : Nat) (hg : w.heap.size = g) : SrcN 5 (w.alloc (.cells #[.bool i.mrk, .int .i64 i.e.t, .int .i64 i.e.k, .int .i64 i.e.v, .int .u64 i.e.l] 31)) (.slice (some ⟨g, 0, none⟩) 1 1) 1 (ins [i]) := by
  subst hg
  refine .inr ⟨_, _, rfl, rfl, fun j x hj => ?_⟩
  rw [ins_single] at hj
  exact src_cells (cs := (inCells i).toArray) (e := 31) (by show (w.heap.push _)[w.heap.size]? = _; simp [inCells]) j x hj
theorem step_append_srcX {P : Program} {w : World} {ops : Array Oper} {o : Oper} {a : Act} {K : Act → World → Prop} {Q : Exit → Act → World → Prop} {E : Prop} {kd : Nat} (hd : o.dst = some kd) (hgd : o.guard = none) (s x : Operand) (t : TypeId)
    (ho : o.op = .call { callee := .builtin .append, args := #[s, x], argTypes := #[t, t] })
    (sz base : Nat) (e : TypeId) (i : TypeInfo) (z : Value) (bytes : Nat) (ht : P.underlying t = some (.slice e)) (hi : P.info? e = some i) (hz : i.zero = some z)
    (hsize : i.size = sz) (hby : i.bytes = bytes) (hzs : z.cells.size = sz) (hsz : 0 < sz)
    (v : Value) (n : Nat) (xs : List Value) (hs : a.eval s = v) (hown : w.ownsRow base e sz v n xs) (u : Value) (m : Nat) (news : List Value) (hx : a.eval x = u) (hsrc : SrcN sz w u m news) (h1 : ∀ u ∈ news, u.oneCell' = true)
    (h63 : n + m ≤ maxLen) (hbytes : (n + m) * bytes ≤ 140737488355328) (hbase : base ≤ w.heap.size)
    (h : ∀ v' w', w'.ownsRow base e sz v' (n + m) (xs ++ news) → Below base w w' → w.grownBy w' v.ownBlock → K (a.put (some kd) v') w') :
    if Region.wanted o (yielded ops a.tmps) = true then Oper.wp P o a w K Q else E := by
  have hw : Region.wanted o (yielded ops a.tmps) = true := by simp [Region.wanted, hgd]
  rw [if_pos hw]
  rw [← hd] at h
  obtain ⟨v', w', hr, h2, h3, h4⟩ := run_append_srcN (P := P) w sz base t o.type e i z bytes ht hi hz hsize hby hzs hsz v n xs hown u m news hsrc h1 h63 hbytes hbase
  unfold Oper.wp execOp
  simp only [ho, resolve, invoke, builtin, Sem.run_bind, Sem.run_pure, Result.andThen_ok, List.map_toArray, List.map_cons, List.map_nil, hs, hx, hr]
  exact h v' w' h2 h3 h4
/-- A list of the call's own doesn't lie in a block of another type. -/
theorem own_typed {w : World} {B b : Nat} {e T : TypeId} {size : Nat} {v : Value} {n : Nat} {xs : List Value} {cs : Array Value} (h : w.ownsRow B e size v n xs) (hb : w.heap[b]? = some (.cells cs T (0, 0))) (ht : e ≠ T) : ∀ k, v.ownBlock = some k → k ≠ b := by
  intro k hk
  obtain ⟨_, ⟨rfl, _⟩ | ⟨g, cap, cur, rfl, _, hh, _⟩⟩ := h
  · cases hk
  · simp only [Value.ownBlock, Option.some.injEq] at hk
    subst hk
    intro e2
    subst e2
    rw [hh] at hb
    simp at hb
    exact ht hb.2
set_option maxHeartbeats 2000000 in
set_option maxRecDepth 100000 in
/-- cordonkeep.Inputs. -/
theorem inputs_is (ao : Option Addr) (len cap : Nat) (w : World) (hI : Ins4 w ao len cap) :
    Calls Try.prog 27 #[.slice ao len cap] w fun e w' => ∃ u is, e = .returned u ∧ is.length ≤ 25 ∧ (∀ i ∈ is, Good i) ∧ w'.ownsRow w.heap.size 31 5 u is.length (ins is) ∧ Below w.heap.size w w' := by
  obtain ⟨i0, hi, hz0, hz1, hz2⟩ := info_parts Try.info31z
  obtain ⟨hn1, hn2, hn3, hc⟩ := hI
  have hc' : Hid (∀ k, k < len → ∃ b off t y v m, ao = some ⟨b, off, none⟩ ∧ b < w.heap.size ∧ w.cell? ⟨b, off + k * 4, none⟩ = some (.int .i64 t) ∧ w.cell? ⟨b, off + k * 4 + 1, none⟩ = some (.int .i64 y) ∧ w.cell? ⟨b, off + k * 4 + 2, none⟩ = some (.int .i64 v) ∧ w.cell? ⟨b, off + k * 4 + 3, none⟩ = some (.int .i64 m)) := hc
  clear hc
  go_enter Try.func27, Try.ntmps27
  go_wp2_with fail
  go_loopw [3, 4] (fun u i wr => ∃ (is : List Inp), is.length ≤ 25 ∧ is.length ≤ len ∧ i = .int .i64 is.length ∧ Hid (∀ i ∈ is, Good i) ∧ Hid (wr.ownsRow w.heap.size 31 5 u is.length (ins is)) ∧ Hid (Below w.heap.size w wr)) (fun _ i _ => len - (intOf i).toNat)
  case atStart => exact ⟨[], by simp, by simp, rfl, (by intro i hi; cases hi), World.ownsRow_nil _ _ _ _, Below.refl _ _⟩
  case round =>
    obtain ⟨is, hl25, hll, rfl, hG, hown, hbw⟩ := hrel
    obtain ⟨j, hj⟩ : ∃ j, Hid (is.length = j) := ⟨_, rfl⟩
    rw [hj.out] at hl25 hll hown ⊢
    have hws : w.heap.size ≤ wr.heap.size := hbw.out.size
    by_cases h25 : j < 25
    · by_cases hlt : j < len
      · obtain ⟨b, off, t, y, v, m, rfl, hb, d0, d1, d2, d3⟩ := hc'.out j hlt
        have e0 := (hbw.out.cell (p := ⟨b, off + j * 4, none⟩) hb).trans d0
        have e1 := (hbw.out.cell (p := ⟨b, off + j * 4 + 1, none⟩) hb).trans d1
        have e2 := (hbw.out.cell (p := ⟨b, off + j * 4 + 2, none⟩) hb).trans d2
        have e3 := (hbw.out.cell (p := ⟨b, off + j * 4 + 3, none⟩) hb).trans d3
        clear d0 d1 d2 d3
        go_upto_region 6 with fail
        clear e0 e1 e2 e3
        refine world_gen (fun W => Hid (Qik W wr.heap.size t y v m) ∧ Hid (W.ownsRow w.heap.size 31 5 u3 j (ins is)) ∧ Hid (Below w.heap.size w W)) ⟨qik_new _ _ _ _ _, hown.out.alloc _, hbw.out.alloc hws _⟩ ?_
        clear hown hbw
        rintro W ⟨hq, hown, hbw⟩
        generalize wr.heap.size = g at hq hws ⊢
        obtain ⟨c0, c1, c2, c3⟩ := hq.out.c
        have hWs : w.heap.size ≤ W.heap.size := hbw.out.size
        go_upto_if 23 with fail
        go_wp2_with fail

        · refine (O.within_any t 0 160 _ (by decide) (by decide) (by decide)).mono ?_
          rintro e W2 ⟨⟨kt, hk1, hk2, rfl⟩, he⟩; obtain rfl := he.symm; clear he
          have hgi : Good ⟨true, ⟨kt, 0, 0, 0⟩⟩ := .inl ⟨rfl, hk1, hk2, rfl, rfl, rfl⟩
          go_wp2_with (at_builtin; refine wpList_append_srcN _ (by rfl) _ _ 44 rfl 5 w.heap.size 31 i0 izero 40 Try.underlying44 hi hz0 hz1 hz2 rfl (by decide) u3 j (ins is) rfl (hown.out.alloc _) (.slice (some ⟨W.heap.size, 0, none⟩) 1 1) 1 (ins [⟨true, ⟨kt, 0, 0, 0⟩⟩]) rfl (in_src W ⟨true, ⟨kt, 0, 0, 0⟩⟩ _ rfl) (ins_one _) (by unfold maxLen; omega) (by omega) (by simp; omega) ?_)
          intro v5 W5 o5 b5
          have hb5 : Hid (Below w.heap.size w W5) := (hbw.out.alloc hWs _).trans b5
          clear b5
          have hG2 : Hid (∀ x ∈ is ++ [(⟨true, ⟨kt, 0, 0, 0⟩⟩ : Inp)], Good x) := by
            intro x hx
            rcases List.mem_append.1 hx with hx | hx
            · exact hG.out x hx
            · rw [List.mem_singleton.1 hx]; exact hgi
          have hl2 : Hid ((is ++ [(⟨true, ⟨kt, 0, 0, 0⟩⟩ : Inp)]).length = j + 1) := by
            have h : (is ++ [(⟨true, ⟨kt, 0, 0, 0⟩⟩ : Inp)]).length = j + 1 := by simp [hj.out]
            exact h
          have hown2 : Hid (W5.ownsRow w.heap.size 31 5 v5 (j + 1) (ins (is ++ [(⟨true, ⟨kt, 0, 0, 0⟩⟩ : Inp)]))) := by
            have h : W5.ownsRow w.heap.size 31 5 v5 (j + 1) (ins (is ++ [(⟨true, ⟨kt, 0, 0, 0⟩⟩ : Inp)])) := by rw [ins_append]; exact o5
            exact h
          clear o5 hgi
          go_wp2_with fail
          go_roundw
          case rel => exact ⟨is ++ [(⟨true, ⟨kt, 0, 0, 0⟩⟩ : Inp)], by rw [hl2.out]; omega, by rw [hl2.out]; omega, by rw [hl2.out]; go_num, hG2, by rw [hl2.out]; exact hown2, hb5⟩
          case measure => simp [intOf]; omega
        · refine wp_region_held_drew (S := fun X => Qik X g t y v m) (by kernel_rfl) hq.out (fun hHeld => ?_)
          have hown' : Hid (W.drew.ownsRow w.heap.size 31 5 u3 j (ins is)) := hown.out
          have hb0 : Hid (Below w.heap.size w W.drew) := hbw.out.drew
          clear hown
          generalize hVd : W.drew = V at hHeld hown' hb0 ⊢
          refine take_at (i := 0) (v := u3) rfl rfl (by kernel_rfl) (by kernel_rfl) (by kernel_rfl) (fun _ _ _ h => h) (Or.inl ⟨by rfl, fun X _ => by go_simp⟩) hHeld ?_
          try simp only [Act.put, List.setIfInBounds_toArray, List.set_cons_zero, List.set_cons_succ]
          refine take_at (i := 1) (v := .pointer (some ⟨g, 0, none⟩)) rfl rfl (by kernel_rfl) (by kernel_rfl) (by kernel_rfl) (fun _ _ _ h => h) (Or.inl ⟨by rfl, fun X _ => by go_simp⟩) hHeld ?_
          try simp only [Act.put, List.setIfInBounds_toArray, List.set_cons_zero, List.set_cons_succ]
          refine take_at (i := 2) (v := .int .i64 t) rfl rfl (by kernel_rfl) (by kernel_rfl) (by kernel_rfl) (fun _ _ _ h => h) (Or.inl ⟨by rfl, fun X hX => by obtain ⟨k0, k1, k2, k3⟩ := hX.c; go_simp⟩) hHeld ?_
          try simp only [Act.put, List.setIfInBounds_toArray, List.set_cons_zero, List.set_cons_succ]
          refine take_at (i := 4) (v := .pointer (some ⟨g, 1, none⟩)) rfl rfl (by kernel_rfl) (by kernel_rfl) (by kernel_rfl) (fun _ _ _ h => h) (Or.inl ⟨by rfl, fun X _ => by go_simp⟩) hHeld ?_
          try simp only [Act.put, List.setIfInBounds_toArray, List.set_cons_zero, List.set_cons_succ]
          refine take_at (i := 5) (v := .int .i64 y) rfl rfl (by kernel_rfl) (by kernel_rfl) (by kernel_rfl) (fun _ _ _ h => h) (Or.inl ⟨by rfl, fun X hX => by obtain ⟨k0, k1, k2, k3⟩ := hX.c; go_simp⟩) hHeld ?_
          try simp only [Act.put, List.setIfInBounds_toArray, List.set_cons_zero, List.set_cons_succ]
          refine take_at (i := 7) (v := .pointer (some ⟨g, 2, none⟩)) rfl rfl (by kernel_rfl) (by kernel_rfl) (by kernel_rfl) (fun _ _ _ h => h) (Or.inl ⟨by rfl, fun X _ => by go_simp⟩) hHeld ?_
          try simp only [Act.put, List.setIfInBounds_toArray, List.set_cons_zero, List.set_cons_succ]
          refine take_at (i := 8) (v := .int .i64 v) rfl rfl (by kernel_rfl) (by kernel_rfl) (by kernel_rfl) (fun _ _ _ h => h) (Or.inl ⟨by rfl, fun X hX => by obtain ⟨k0, k1, k2, k3⟩ := hX.c; go_simp⟩) hHeld ?_
          try simp only [Act.put, List.setIfInBounds_toArray, List.set_cons_zero, List.set_cons_succ]
          refine take_at (i := 10) (v := .pointer (some ⟨g, 3, none⟩)) rfl rfl (by kernel_rfl) (by kernel_rfl) (by kernel_rfl) (fun _ _ _ h => h) (Or.inl ⟨by rfl, fun X _ => by go_simp⟩) hHeld ?_
          try simp only [Act.put, List.setIfInBounds_toArray, List.set_cons_zero, List.set_cons_succ]
          refine take_at (i := 11) (v := .int .i64 m) rfl rfl (by kernel_rfl) (by kernel_rfl) (by kernel_rfl) (fun _ _ _ h => h) (Or.inl ⟨by rfl, fun X hX => by obtain ⟨k0, k1, k2, k3⟩ := hX.c; go_simp⟩) hHeld ?_
          try simp only [Act.put, List.setIfInBounds_toArray, List.set_cons_zero, List.set_cons_succ]
          refine wpAnyH_ready (rs := [3]) (by kernel_rfl) (by simp) ?_
          refine AllReadyH.cons rfl (fun K hK => ?_) AllReadyH.nil
          rw [if_pos (by rfl)]
          go_wp2_with fail
          refine (O.within_any t 0 120 _ (by decide) (by decide) (by decide)).mono ?_
          rintro e W2 ⟨⟨kt, hkt1, hkt2, rfl⟩, he⟩; obtain rfl := he.symm; clear he
          go_wp2_with fail
          refine hK.out _ _ (hHeld) (fun hHeld => ?_)
          clear hK K
          try simp only [Act.put, List.setIfInBounds_toArray, List.set_cons_zero, List.set_cons_succ]
          refine wpAnyH_ready (rs := [6]) (by kernel_rfl) (by simp) ?_
          refine AllReadyH.cons rfl (fun K hK => ?_) AllReadyH.nil
          rw [if_pos (by rfl)]
          go_wp2_with fail
          refine (O.within_any y 0 3 _ (by decide) (by decide) (by decide)).mono ?_
          rintro e W2 ⟨⟨kk, hkk1, hkk2, rfl⟩, he⟩; obtain rfl := he.symm; clear he
          go_wp2_with fail
          refine hK.out _ _ (hHeld) (fun hHeld => ?_)
          clear hK K
          try simp only [Act.put, List.setIfInBounds_toArray, List.set_cons_zero, List.set_cons_succ]
          refine wpAnyH_ready (rs := [9]) (by kernel_rfl) (by simp) ?_
          refine AllReadyH.cons rfl (fun K hK => ?_) AllReadyH.nil
          rw [if_pos (by rfl)]
          go_wp2_with fail
          refine (O.within_any v (-50) 50 _ (by decide) (by decide) (by decide)).mono ?_
          rintro e W2 ⟨⟨kv, hkv1, hkv2, rfl⟩, he⟩; obtain rfl := he.symm; clear he
          go_wp2_with fail
          refine hK.out _ _ (hHeld) (fun hHeld => ?_)
          clear hK K
          try simp only [Act.put, List.setIfInBounds_toArray, List.set_cons_zero, List.set_cons_succ]
          refine wpAnyH_ready (rs := [12]) (by kernel_rfl) (by simp) ?_
          refine AllReadyH.cons rfl (fun K hK => ?_) AllReadyH.nil
          rw [if_pos (by rfl)]
          go_wp2_with fail
          refine (O.within_any m 0 7 _ (by decide) (by decide) (by decide)).mono ?_
          rintro e W2 ⟨⟨kl, hkl1, hkl2, rfl⟩, he⟩; obtain rfl := he.symm; clear he
          go_wp2_with fail
          refine hK.out _ _ (hHeld) (fun hHeld => ?_)
          clear hK K
          try simp only [Act.put, List.setIfInBounds_toArray, List.set_cons_zero, List.set_cons_succ]
          refine take_at (i := 13) (v := .int .u64 ((2 ^ kl.toNat : Nat) : Int)) rfl rfl (by kernel_rfl) (by kernel_rfl) (by kernel_rfl) (fun _ _ _ h => h) (Or.inl ⟨by rfl, fun X _ => by rcases (show kl = 0 ∨ kl = 1 ∨ kl = 2 ∨ kl = 3 ∨ kl = 4 ∨ kl = 5 ∨ kl = 6 ∨ kl = 7 by omega) with rfl | rfl | rfl | rfl | rfl | rfl | rfl | rfl <;> go_simp <;> rfl⟩) hHeld ?_
          try simp only [Act.put, List.setIfInBounds_toArray, List.set_cons_zero, List.set_cons_succ]
          refine take_at (i := 14) (v := .agg #[.int .i64 kt, .int .i64 kk, .int .i64 kv, .int .u64 ((2 ^ kl.toNat : Nat) : Int)]) rfl rfl (by kernel_rfl) (by kernel_rfl) (by kernel_rfl) (fun _ _ _ h => h) (Or.inl ⟨by rfl, fun X _ => by go_simp⟩) hHeld ?_
          try simp only [Act.put, List.setIfInBounds_toArray, List.set_cons_zero, List.set_cons_succ]
          refine take_at (i := 15) (v := .agg #[.bool false, .int .i64 kt, .int .i64 kk, .int .i64 kv, .int .u64 ((2 ^ kl.toNat : Nat) : Int)]) rfl rfl (by kernel_rfl) (by kernel_rfl) (by kernel_rfl) (fun _ _ _ h => h) (Or.inl ⟨by rfl, fun X _ => by go_simp⟩) hHeld ?_
          try simp only [Act.put, List.setIfInBounds_toArray, List.set_cons_zero, List.set_cons_succ]
          have hVz : w.heap.size ≤ V.heap.size := hb0.out.size
          have hgi : Good ⟨false, ⟨kt, kk, kv, 2 ^ kl.toNat⟩⟩ := by
            refine .inr ⟨rfl, hkt1, hkt2, hkk1, hkk2, hkv1, hkv2, Nat.two_pow_pos _, ?_⟩
            have h : kl.toNat ≤ 7 := by omega
            exact Nat.lt_of_le_of_lt (Nat.pow_le_pow_right (by decide) h) (by decide)
          refine wpAnyH_ready (rs := [16]) (by kernel_rfl) (by simp) ?_
          refine AllReadyH.cons rfl (fun K hK => ?_) AllReadyH.nil
          rw [if_pos (by rfl)]
          go_simp
          have hb1 : Hid (Below w.heap.size w (V.alloc (.cells #[.bool false, .int .i64 kt, .int .i64 kk, .int .i64 kv, .int .u64 ((2 ^ kl.toNat : Nat) : Int)] 31))) := hb0.out.alloc hVz _
          refine hK.out _ _ (hHeld.below (below_alloc _ _)) (fun hHeld => ?_)
          clear hK K
          try simp only [Act.put, List.setIfInBounds_toArray, List.set_cons_zero, List.set_cons_succ]
          refine wpAnyH_ready (rs := [17]) (by kernel_rfl) (by simp) ?_
          refine AllReadyH.cons rfl (fun K hK => ?_) AllReadyH.nil
          refine step_append_srcX rfl rfl (.tmp 32) (.tmp 48) 44 rfl 5 w.heap.size 31 i0 izero 40 Try.underlying44 hi hz0 hz1 hz2 rfl (by decide) u3 j (ins is) rfl (hown'.out.alloc _) (.slice (some ⟨V.heap.size, 0, none⟩) 1 1) 1 (ins [⟨false, ⟨kt, kk, kv, 2 ^ kl.toNat⟩⟩]) rfl (in_src V ⟨false, ⟨kt, kk, kv, 2 ^ kl.toNat⟩⟩ _ rfl) (ins_one _) (by unfold maxLen; omega) (by omega) (by simp; omega) ?_
          intro v5 W5 o5 b5 g5
          have hb5 : Hid (Below w.heap.size w W5) := hb1.out.trans b5
          have hq5 : Qik W5 g t y v m := (g5.block g hHeld.lt (fun e => own_typed (hown'.out.alloc _) hHeld (by decide) g e.symm rfl)).trans hHeld
          clear b5 hb1 g5
          refine hK.out _ _ (hq5) (fun hHeld => ?_)
          clear hK K
          try simp only [Act.put, List.setIfInBounds_toArray, List.set_cons_zero, List.set_cons_succ]
          refine take_at (i := 18) (v := v5) rfl rfl (by kernel_rfl) (by kernel_rfl) (by kernel_rfl) (fun _ _ _ h => h) (Or.inl ⟨by rfl, fun X _ => by go_simp⟩) hHeld ?_
          try simp only [Act.put, List.setIfInBounds_toArray, List.set_cons_zero, List.set_cons_succ]
          refine wpAnyH_done (by kernel_rfl) ?_ _
          go_wp2_with fail
          have hG2 : Hid (∀ x ∈ is ++ [(⟨false, ⟨kt, kk, kv, 2 ^ kl.toNat⟩⟩ : Inp)], Good x) := by
            intro x hx
            rcases List.mem_append.1 hx with hx | hx
            · exact hG.out x hx
            · rw [List.mem_singleton.1 hx]; exact hgi
          have hl2 : Hid ((is ++ [(⟨false, ⟨kt, kk, kv, 2 ^ kl.toNat⟩⟩ : Inp)]).length = j + 1) := by
            have h : (is ++ [(⟨false, ⟨kt, kk, kv, 2 ^ kl.toNat⟩⟩ : Inp)]).length = j + 1 := by simp [hj.out]
            exact h
          have hown2 : Hid (W5.ownsRow w.heap.size 31 5 v5 (j + 1) (ins (is ++ [(⟨false, ⟨kt, kk, kv, 2 ^ kl.toNat⟩⟩ : Inp)]))) := by
            have h : W5.ownsRow w.heap.size 31 5 v5 (j + 1) (ins (is ++ [(⟨false, ⟨kt, kk, kv, 2 ^ kl.toNat⟩⟩ : Inp)])) := by rw [ins_append]; exact o5
            exact h
          clear o5 hgi
          go_wp2_with fail
          go_roundw
          case rel => exact ⟨is ++ [(⟨false, ⟨kt, kk, kv, 2 ^ kl.toNat⟩⟩ : Inp)], by rw [hl2.out]; omega, by rw [hl2.out]; omega, by rw [hl2.out]; go_num, hG2, by rw [hl2.out]; exact hown2, hb5⟩
          case measure => simp [intOf]; omega
      · go_wp2_with fail
        go_ret
        exact ⟨_, is, rfl, by rw [hj.out]; exact hl25, hG.out, by rw [hj.out]; exact hown.out, hbw.out⟩
    · go_wp2_with fail
      all_goals
        go_ret
        exact ⟨_, is, rfl, by rw [hj.out]; exact hl25, hG.out, by rw [hj.out]; exact hown.out, hbw.out⟩
end Go.Proofs.Ytnamjnopicghhaa
