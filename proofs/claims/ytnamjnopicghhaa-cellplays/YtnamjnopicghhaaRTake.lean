/- Runner.Take. -/
import Derived.Test.YtnamjnopicghhaaRSee
namespace Go.Proofs.Ytnamjnopicghhaa
open Go.RowKit M
open O (RdO)
open O.MO (Oq Pq rightP)
set_option linter.unusedVariables false
set_option linter.unusedSimpArgs false
attribute [local go_sem ↓] Go.wp_at_zero Go.wp_at_succ

/-- The five cells of an input. -/
def InAt (w : World) (b o : Nat) (i : Inp) : Prop :=
  w.cell? ⟨b, o, none⟩ = some (.bool i.mrk) ∧ w.cell? ⟨b, o + 1, none⟩ = some (.int .i64 i.e.t) ∧ w.cell? ⟨b, o + 2, none⟩ = some (.int .i64 i.e.k) ∧ w.cell? ⟨b, o + 3, none⟩ = some (.int .i64 i.e.v) ∧ w.cell? ⟨b, o + 4, none⟩ = some (.int .u64 i.e.l)
theorem InAt.keep {w w' : World} {b o : Nat} {i : Inp} (h : InAt w b o i) (hb : w'.heap[b]? = w.heap[b]?) : InAt w' b o i := by
  have hc : ∀ p : Addr, p.block = b → w'.cell? p = w.cell? p := fun p hp => World.cell?_of_block (w := w) (by rw [hp]; exact hb)
  obtain ⟨h0, h1, h2, h3, h4⟩ := h
  exact ⟨(hc _ rfl).trans h0, (hc _ rfl).trans h1, (hc _ rfl).trans h2, (hc _ rfl).trans h3, (hc _ rfl).trans h4⟩
/-- A slice of inputs, in block qb. -/
def RdI (w : World) (v : Value) (qb : Nat) (is : List Inp) : Prop :=
  is.length ≤ 9223372036854775807 ∧ (∀ i ∈ is, i.e.l < 18446744073709551616) ∧ ∃ ao cap, v = .slice ao is.length cap ∧ is.length ≤ cap ∧ cap ≤ 9223372036854775807 ∧ (is.length ≠ 0 → ∃ off, ao = some ⟨qb, off, none⟩ ∧ qb < w.heap.size ∧ ∀ j, j < is.length → InAt w qb (off + j * 5) (iAt is j))
theorem RdI.keep {w w' : World} {v : Value} {qb : Nat} {is : List Inp} (h : RdI w v qb is) (hz : w.heap.size ≤ w'.heap.size) (hb : qb < w.heap.size → w'.heap[qb]? = w.heap[qb]?) : RdI w' v qb is := by
  obtain ⟨h1, h2, ao, cap, rfl, h3, h4, hc⟩ := h
  refine ⟨h1, h2, ao, cap, rfl, h3, h4, fun hn => ?_⟩
  obtain ⟨off, rfl, hl, hcell⟩ := hc hn
  exact ⟨off, rfl, Nat.lt_of_lt_of_le hl hz, fun j hj => (hcell j hj).keep (hb hl)⟩
theorem RdI.below {w w' : World} {v : Value} {qb : Nat} {is : List Inp} (h : RdI w v qb is) (hb : Below w.heap.size w w') : RdI w' v qb is := h.keep hb.size (fun hl => hb.block qb hl)
theorem RdI.ch {w w' : World} {v : Value} {qb b q o : Nat} {is : List Inp} (h : RdI w v qb is) (hc : Ch3 b q o w w') (h1 : qb ≠ b) (h2 : qb ≠ q) (h3 : qb ≠ o) : RdI w' v qb is := h.keep hc.size (fun hl => hc.other qb hl h1 h2 h3)
theorem rdi_nil (w : World) (qb : Nat) : RdI w (.slice none 0 0) qb [] := ⟨by simp, by simp, none, 0, rfl, by simp, by simp, by simp⟩
def inCells (i : Inp) : List Value := [.bool i.mrk, .int .i64 i.e.t, .int .i64 i.e.k, .int .i64 i.e.v, .int .u64 i.e.l]
abbrev inv (i : Inp) : Value := .agg #[.bool i.mrk, .int .i64 i.e.t, .int .i64 i.e.k, .int .i64 i.e.v, .int .u64 i.e.l]
/-- An input's block whole. -/
def Ink (w : World) (b : Nat) (i : Inp) : Prop := w.heap[b]? = some (.cells #[.bool i.mrk, .int .i64 i.e.t, .int .i64 i.e.k, .int .i64 i.e.v, .int .u64 i.e.l] 31 (0, 0))
theorem Ink.c {w : World} {b : Nat} {i : Inp} (h : Ink w b i) : InAt w b 0 i := by
  unfold Ink at h; exact ⟨by simp [World.cell?, h], by simp [World.cell?, h], by simp [World.cell?, h], by simp [World.cell?, h], by simp [World.cell?, h]⟩
theorem Ink.lt {w : World} {b : Nat} {i : Inp} (h : Ink w b i) : b < w.heap.size := (Array.getElem?_eq_some_iff.1 h).1
theorem Ink.keep {w w' : World} {b : Nat} {i : Inp} (h : Ink w b i) (hb : w'.heap[b]? = w.heap[b]?) : Ink w' b i := hb.trans h
theorem ink_new (w : World) (i : Inp) : Ink (w.alloc (.cells #[.bool i.mrk, .int .i64 i.e.t, .int .i64 i.e.k, .int .i64 i.e.v, .int .u64 i.e.l] 31)) w.heap.size i := by
  show (w.heap.push _)[w.heap.size]? = _
  simp
/-- A list of the call's own stays where its block does. -/
theorem own_ch3 {w w' : World} {b q o B : Nat} {e : TypeId} {size : Nat} {v : Value} {n : Nat} {xs : List Value} (h : w.ownsRow B e size v n xs) (hc : Ch3 b q o w w') (hk : ∀ k, v.ownBlock = some k → k ≠ b ∧ k ≠ q ∧ k ≠ o) : w'.ownsRow B e size v n xs := by
  obtain ⟨h1, h | ⟨g, cap, cur, rfl, h2, hh, r⟩⟩ := h
  · exact ⟨h1, .inl h⟩
  · have hg : g < w.heap.size := (Array.getElem?_eq_some_iff.1 hh).1
    obtain ⟨k1, k2, k3⟩ := hk g rfl
    exact ⟨h1, .inr ⟨g, cap, cur, rfl, h2, (hc.other g hg k1 k2 k3).trans hh, r⟩⟩
/-- A list of rows of the call's own doesn't lie in a runner's blocks. -/
theorem own_rows_apart {w : World} {b q o g : Nat} {p : Pq} {r : Rs} {B : Nat} {v : Value} {n : Nat} {xs : List Value} (h : w.ownsRow B 39 5 v n xs) (hR : Rnr w b q o g p r) (hb : b < B) (hq : q < B) : ∀ k, v.ownBlock = some k → k ≠ b ∧ k ≠ q ∧ k ≠ o := by
  intro k hk
  obtain ⟨_, ⟨rfl, _⟩ | ⟨g', cap, cur, rfl, h2, hh, _⟩⟩ := h
  · cases hk
  · simp only [Value.ownBlock, Option.some.injEq] at hk
    subst hk
    exact ⟨by omega, by omega, hR.ot.ne hh (by decide) (by decide)⟩
theorem grown_ch3 {w w' : World} {b q o : Nat} {v : Value} (hg : w.grownBy w' v.ownBlock) (hk : ∀ k, v.ownBlock = some k → k ≠ b ∧ k ≠ q ∧ k ≠ o) : ∀ x, x < w.heap.size → (x = b ∨ x = q ∨ x = o) → w'.heap[x]? = w.heap[x]? := by
  intro x hx he
  refine hg.block x hx (fun e => ?_)
  have := hk x e.symm
  omega
/-- A runner stays while such a list grows. -/
theorem Rnr.grown {w w' : World} {b q o g : Nat} {p : Pq} {r : Rs} {v : Value} (h : Rnr w b q o g p r) (hg : w.grownBy w' v.ownBlock) (hz : w.heap.size ≤ w'.heap.size) (hk : ∀ k, v.ownBlock = some k → k ≠ b ∧ k ≠ q ∧ k ≠ o ∧ k ≠ g) : Rnr w' b q o g p r := by
  obtain ⟨l1, l2, l3, l4⟩ := h.lt
  have hx : ∀ x, x < w.heap.size → (x = b ∨ x = q ∨ x = o ∨ x = g) → w'.heap[x]? = w.heap[x]? := fun x hx he => hg.block x hx (fun e => by have := hk x e.symm; omega)
  obtain ⟨u, h1, h2, h3, h4, h5, h6, h7, h8, h9, h10, h11⟩ := h
  refine ⟨u, h1.keep (hx b l1 (by omega)), ?_, h3.keep (fun k hk2 hl => hx k hl (by rw [h4 k hk2]; omega)), h4, h5, h6, h7, h8, h9, by omega, h11.keep (hx o l3 (by omega))⟩
  obtain ⟨v, hh, hs, hkk, ho⟩ := h2
  refine ⟨v, (hx q l2 (by omega)).trans hh, ?_, hkk, by omega⟩
  rcases hs with hs | ⟨cap, rfl, hp⟩
  · exact .inl hs
  · exact .inr ⟨cap, rfl, hp.keep (hx o l3 (by omega))⟩
section
variable {P : Program} (w : World)
/-- As wpList_append_srcN, and nothing but the list's own block has turned. -/
theorem wpList_append_srcG {ops : Array Oper} {rest : List Oper} {o : Oper} {a : Act} {Q : Exit → Act → World → Prop} (hw : Region.wanted o (yielded ops a.tmps) = true) (s x : Operand) (t : TypeId)
    (ho : o.op = .call { callee := .builtin .append, args := #[s, x], argTypes := #[t, t] })
    (sz base : Nat) (e : TypeId) (i : TypeInfo) (z : Value) (bytes : Nat) (ht : P.underlying t = some (.slice e)) (hi : P.info? e = some i) (hz : i.zero = some z)
    (hsize : i.size = sz) (hby : i.bytes = bytes) (hzs : z.cells.size = sz) (hsz : 0 < sz)
    (v : Value) (n : Nat) (xs : List Value) (hs : a.eval s = v) (hown : w.ownsRow base e sz v n xs) (u : Value) (m : Nat) (news : List Value) (hx : a.eval x = u) (hsrc : SrcN sz w u m news) (h1 : ∀ u ∈ news, u.oneCell' = true)
    (h63 : n + m ≤ maxLen) (hbytes : (n + m) * bytes ≤ 140737488355328) (hbase : base ≤ w.heap.size)
    (h : ∀ v' w', w'.ownsRow base e sz v' (n + m) (xs ++ news) → Below base w w' → w.grownBy w' v.ownBlock → wpList P ops Q rest (a.put o.dst v') w') : wpList P ops Q (o :: rest) a w :=
  BigFrame.wpList_want hw fun K hK => by
    obtain ⟨v', w', hr, h2, h3, h4⟩ := run_append_srcN (P := P) w sz base t o.type e i z bytes ht hi hz hsize hby hzs hsz v n xs hown u m news hsrc h1 h63 hbytes hbase
    unfold Oper.wp execOp
    simp only [ho, resolve, invoke, builtin, Sem.run_bind, Sem.run_pure, Result.andThen_ok, List.map_toArray, List.map_cons, List.map_nil, hs, hx, hr]
    exact hK _ _ (h v' w' h2 h3 h4)
end
set_option maxHeartbeats 2000000 in
set_option maxRecDepth 100000 in
/-- Runner.Take. -/
theorem rtake_is (b q o g : Nat) (p : Pq) (r : Rs) (v : Value) (qb : Nat) (is : List Inp) (w : World) (hR : Rnr w b q o g p r) (hI : RdI w v qb is) (hqb : qb ≠ b) (hqq : qb ≠ q) (hqo : qb ≠ o)
    (hl : r.L.length + 8 * is.length ≤ 800000) (hlt : 0 ≤ r.l ∧ r.l + is.length ≤ 1000000) (hsn : 0 ≤ r.s ∧ r.s + is.length ≤ 1000000) :
    Calls Try.prog 38 #[.pointer (some ⟨b, 0, none⟩), v] w fun e w' => ∃ u o', e = .returned u ∧ w'.ownsRow w.heap.size 39 5 u (rowsR p r is).length (rcs (rowsR p r is)) ∧ Rnr w' b q o' g p (stR p r is) ∧ (o' = o ∨ o' = q ∨ w.heap.size ≤ o') ∧ Ch3 b q o w w' := by
  obtain ⟨i0, hi, hz0, hz1, hz2⟩ := info_parts Try.info39
  obtain ⟨hn1, hlab, ao, cap, rfl, hn2, hn3, hc⟩ := hI
  have hcell : Hid (∀ j, j < is.length → ∃ off, ao = some ⟨qb, off, none⟩ ∧ qb < w.heap.size ∧ InAt w qb (off + j * 5) (iAt is j)) := fun j hj => by
    obtain ⟨off, e1, e2, e3⟩ := hc (by omega)
    exact ⟨off, e1, e2, e3 j hj⟩
  have hlab' : Hid (∀ i ∈ is, i.e.l < 18446744073709551616) := hlab
  have hR' : Hid (Rnr w b q o g p r) := hR
  have hl' : Hid (r.L.length + 8 * is.length ≤ 800000) := hl
  have hlt' : Hid (0 ≤ r.l ∧ r.l + is.length ≤ 1000000) := hlt
  have hsn' : Hid (0 ≤ r.s ∧ r.s + is.length ≤ 1000000) := hsn
  obtain ⟨hbw, hqw, how, hgw⟩ := hR.lt
  obtain ⟨a1, a2, a3, a4, a5⟩ := hR.apart
  clear hc hlab hR hl hlt hsn
  obtain ⟨m, hm⟩ : ∃ m, Hid (is.length = m) := ⟨_, rfl⟩
  rw [hm.out] at hn1 hn2 hcell hl' hlt' hsn' ⊢
  go_enter Try.func38, Try.ntmps38
  go_wp2_with fail
  go_loopw [5, 10] (fun u i wr => ∃ j o1 : Nat, j ≤ m ∧ i = .int .i64 j ∧ Hid (wr.ownsRow w.heap.size 39 5 u (rowsR p r (is.take j)).length (rcs (rowsR p r (is.take j)))) ∧ Hid (Rnr wr b q o1 g p (stR p r (is.take j))) ∧ (o1 = o ∨ o1 = q ∨ w.heap.size ≤ o1) ∧ Hid (Ch3 b q o w wr)) (fun _ i _ => m - (intOf i).toNat)
  case atStart => exact ⟨0, o, Nat.zero_le _, rfl, World.ownsRow_nil _ _ _ _, hR', .inl rfl, Ch3.refl _ _ _ _⟩
  case round =>
    obtain ⟨j, o1, hj, rfl, hown, hR, ho1, hch⟩ := hrel
    clear hR'
    by_cases hlt : j < m
    · obtain ⟨off, rfl, hq1, hin⟩ := hcell.out j hlt
      have hjl : j < is.length := by rw [hm.out]; exact hlt
      have hin2 := hin.keep (hch.out.other qb hq1 hqb hqq hqo)
      have hel := hlab'.out _ (iAt_mem is j hjl)
      have hT := all_total p (is.take j) r
      have hC := all_counts p (is.take j) r
      have hjm : (is.take j).length = j := by rw [List.length_take]; omega
      rw [hjm] at hT hC
      have hst : Hid (stR p r (is.take (j + 1)) = stepR p (stR p r (is.take j)) (iAt is j)) := by
        have h : stR p r (is.take (j + 1)) = stepR p (stR p r (is.take j)) (iAt is j) := by rw [take_in is j hjl, stR_snoc]
        exact h
      have hrw : Hid (rowsR p r (is.take (j + 1)) = rowsR p r (is.take j) ++ rowR p (stR p r (is.take j)) (iAt is j)) := by
        have h : rowsR p r (is.take (j + 1)) = rowsR p r (is.take j) ++ rowR p (stR p r (is.take j)) (iAt is j) := by rw [take_in is j hjl, rowsR_snoc]
        exact h
      obtain ⟨x, hx⟩ : ∃ x, Hid (iAt is j = x) := ⟨_, rfl⟩
      obtain ⟨r1, hr1⟩ : ∃ x, Hid (stR p r (is.take j) = x) := ⟨_, rfl⟩
      obtain ⟨R1, hR1⟩ : ∃ x, Hid (rowsR p r (is.take j) = x) := ⟨_, rfl⟩
      rw [hx.out] at hin2 hel hst hrw
      rw [hr1.out] at hR hst hrw hT hC
      rw [hR1.out] at hown hrw hT
      have hL1 : Hid (r1.L.length ≤ 800000 ∧ R1.length ≤ 800000) := by
        have h : r1.L.length ≤ 800000 ∧ R1.length ≤ 800000 := by have := hl'.out; omega
        exact h
      have hC1 : Hid ((0 ≤ r1.l ∧ r1.l ≤ 1000000) ∧ (0 ≤ r1.s ∧ r1.s ≤ 1000000)) := by
        have h : (0 ≤ r1.l ∧ r1.l ≤ 1000000) ∧ (0 ≤ r1.s ∧ r1.s ≤ 1000000) := by have := hlt'.out; have := hsn'.out; omega
        exact h
      have hel' : Hid (x.e.l < 18446744073709551616) := hel
      clear hin hx hr1 hR1 hT hC hel
      obtain ⟨c0, c1, c2, c3, c4⟩ := hin2
      go_upto_region 5 with fail
      clear c0 c1 c2 c3 c4
      have hwz : w.heap.size ≤ wr.heap.size := hch.out.size
      refine world_gen (fun W => Hid (Ink W wr.heap.size x) ∧ Hid (W.ownsRow w.heap.size 39 5 u5 R1.length (rcs R1)) ∧ Hid (Rnr W b q o1 g p r1) ∧ Hid (Ch3 b q o w W)) ⟨ink_new _ _, hown.out.alloc _, hR.out.below (below_alloc _ _), hch.out.alloc _⟩ ?_
      clear hown hR hch
      rintro W ⟨hK, hown, hR, hch⟩
      generalize wr.heap.size = gi at hK hwz ⊢
      obtain ⟨mk, ⟨et, ek, ev, el⟩⟩ := x
      obtain ⟨c0, c1, c2, c3, c4⟩ := hK.out.c
      simp only at c0 c1 c2 c3 c4
      have hWz : w.heap.size ≤ W.heap.size := hch.out.size
      cases mk with
      | true =>
        go_wp2_with fail
        refine (pass_is b q o1 g p r1 ⟨et, ek, ev, el⟩ _ hR.out (by have := hL1.out; omega)).mono ?_
        rintro e W1 ⟨u, o2, rfl, hu, ho2, hR2, hch2⟩
        have hap := own_rows_apart hown.out hR.out hbw hqw
        have hown2 : Hid (W1.ownsRow w.heap.size 39 5 u5 R1.length (rcs R1)) := own_ch3 hown.out hch2 hap
        have hu' : Hid (W1.ownsRow W.heap.size 39 5 u (rowR p r1 ⟨true, ⟨et, ek, ev, el⟩⟩).length (rcs (rowR p r1 ⟨true, ⟨et, ek, ev, el⟩⟩))) := hu
        have hR2' : Hid (Rnr W1 b q o2 g p (stepR p r1 ⟨true, ⟨et, ek, ev, el⟩⟩)) := hR2
        have hch3 : Hid (Ch3 b q o w W1) := hch.out.trans hch2 ho1
        have hW1 : W.heap.size ≤ W1.heap.size := hch2.size
        have hRl := step_len p r1 ⟨true, ⟨et, ek, ev, el⟩⟩
        clear hu hR2 hch2 hap hR hown c0 c1 c2 c3 c4
        go_wp2_with (at_builtin; refine wpList_append_srcG _ (by rfl) _ _ 34 rfl 5 w.heap.size 39 i0 rzero 40 Try.underlying34 hi hz0 hz1 hz2 rfl (by decide) u5 R1.length (rcs R1) rfl hown2.out u (rowR p r1 ⟨true, ⟨et, ek, ev, el⟩⟩).length (rcs (rowR p r1 ⟨true, ⟨et, ek, ev, el⟩⟩)) rfl (srcN_own hu'.out) (rcs_one _) ?c1 ?c2 ?c3 ?_)
        case c1 => have := hL1.out; unfold maxLen; omega
        case c2 => have := hL1.out; omega
        case c3 => omega
        intro v' W5 o5 b5 g5
        have hap2 := own_rows_apart hown2.out hR2'.out hbw hqw
        have hR5 : Hid (Rnr W5 b q o2 g p (stepR p r1 ⟨true, ⟨et, ek, ev, el⟩⟩)) := hR2'.out.grown g5 b5.size (fun k hk => by
          have h := hap2 k hk
          have h2 := (hown2.out.lt k hk).1
          exact ⟨h.1, h.2.1, h.2.2, by omega⟩)
        have hch5 : Hid (Ch3 b q o w W5) := ⟨b5.os.trans hch3.out.os, b5.tape.trans hch3.out.tape, b5.output.trans hch3.out.output, Nat.le_trans hch3.out.size b5.size, fun x hx h1 h2 h3 => (b5.block x hx).trans (hch3.out.other x hx h1 h2 h3)⟩
        have ho5 : Hid (W5.ownsRow w.heap.size 39 5 v' (rowsR p r (is.take (j + 1))).length (rcs (rowsR p r (is.take (j + 1))))) := by
          have h : W5.ownsRow w.heap.size 39 5 v' (rowsR p r (is.take (j + 1))).length (rcs (rowsR p r (is.take (j + 1)))) := by rw [hrw.out, rcs_append, List.length_append]; exact o5
          exact h
        have hR6 : Hid (Rnr W5 b q o2 g p (stR p r (is.take (j + 1)))) := by
          have h : Rnr W5 b q o2 g p (stR p r (is.take (j + 1))) := by rw [hst.out]; exact hR5.out
          exact h
        clear hap2 o5 b5 g5 hR5 hch3 hu' hown2 hR2'
        go_wp2_with fail
        go_roundw
        case rel => exact ⟨j + 1, o2, by omega, by go_num, ho5, hR6, by omega, hch5⟩
        case measure => simp [intOf]; omega
      | false =>
        go_wp2_with fail
        refine (see_is b q o1 g p r1 ⟨et, ek, ev, el⟩ _ hR.out hel'.out (by have := hL1.out; omega) hC1.out.1 hC1.out.2).mono ?_
        rintro e W1 ⟨o2, rfl, hR2, ho2, hch2⟩
        have hap := own_rows_apart hown.out hR.out hbw hqw
        have hrow : Hid (rowsR p r (is.take (j + 1)) = R1) := by
          have h : rowsR p r (is.take (j + 1)) = R1 := by rw [hrw.out, row_event rfl, List.append_nil]
          exact h
        have ho5 : Hid (W1.ownsRow w.heap.size 39 5 u5 (rowsR p r (is.take (j + 1))).length (rcs (rowsR p r (is.take (j + 1))))) := by
          have h : W1.ownsRow w.heap.size 39 5 u5 (rowsR p r (is.take (j + 1))).length (rcs (rowsR p r (is.take (j + 1)))) := by rw [hrow.out]; exact own_ch3 hown.out hch2 hap
          exact h
        have hR6 : Hid (Rnr W1 b q o2 g p (stR p r (is.take (j + 1)))) := by
          have h : Rnr W1 b q o2 g p (stR p r (is.take (j + 1))) := by rw [hst.out]; exact hR2
          exact h
        have hch5 : Hid (Ch3 b q o w W1) := hch.out.trans hch2 ho1
        clear hap hR2 hch2 hR hown hch c0 c1 c2 c3 c4
        go_wp2_with fail
        go_roundw
        case rel => exact ⟨j + 1, o2, by omega, by go_num, ho5, hR6, by omega, hch5⟩
        case measure => simp [intOf]; omega
    · obtain rfl : j = m := by omega
      rw [List.take_of_length_le (Nat.le_of_eq hm.out)] at hown hR
      go_wp2_with fail
      go_ret
      exact ⟨_, o1, rfl, hown.out, hR.out, ho1, hch.out⟩
end Go.Proofs.Ytnamjnopicghhaa
