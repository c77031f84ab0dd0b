/- What the methods of a Cell do: which input may be, Offer, Feed, New. -/
import Derived.Test.YtnamjnopicghhaaRst
namespace Go.Proofs.Ytnamjnopicghhaa
open Go.RowKit M
open O.MO (Oq Pq rightP)
set_option linter.unusedVariables false
set_option linter.unusedSimpArgs false
attribute [local go_sem ↓] Go.wp_at_zero Go.wp_at_succ

/-- May this event be? -/
def rightE (e : Ev) : Bool := decide ((0 ≤ e.t ∧ e.t ≤ 1099511627776) ∧ (0 ≤ e.k ∧ e.k ≤ 255) ∧ e.l ≠ 0)
/-- An input as a tenant sends it; may it be? -/
def ownI (n : Nat) (x : Inp) : Inp := if x.mrk = true then ⟨true, ⟨x.e.t, 0, 0, 0⟩⟩ else ⟨false, ⟨x.e.t, x.e.k, x.e.v, 2 ^ n⟩⟩
def okO (x : Inp) : Bool := if x.mrk = true then decide (1 ≤ x.e.t ∧ x.e.t ≤ 1099512676352) else decide ((0 ≤ x.e.t ∧ x.e.t ≤ 1099511627776) ∧ (0 ≤ x.e.k ∧ x.e.k ≤ 255))
def zeroI : Inp := ⟨false, ⟨0, 0, 0, 0⟩⟩
theorem Ink.kept {w w' : World} {b : Nat} {i : Inp} (h : Ink w b i) (hb : Below w.heap.size w w') : Ink w' b i := h.keep (hb.block b h.lt)
theorem ewithin_is (n m : Int) (w : World) (p : Bool) (hp : decide (0 ≤ n ∧ n ≤ m) = p) :
    Calls Try.prog 57 #[.int .i64 n, .int .i64 m] w fun e w' => e = .returned (.bool p) ∧ w' = w := by
  have hq : Hid (decide (0 ≤ n ∧ n ≤ m) = p) := hp
  clear hp
  by_cases h0 : 0 ≤ n
  · by_cases h1 : n ≤ m
    · have hd : Hid (p = true) := hq.out.symm.trans (decide_eq_true ⟨h0, h1⟩)
      go_enter Try.func57, Try.ntmps57
      go_wp2
      go_ret
      exact ⟨ret_bool hd.out.symm, rfl⟩
    · have hd : Hid (p = false) := hq.out.symm.trans (decide_eq_false fun h => h1 h.2)
      go_enter Try.func57, Try.ntmps57
      go_wp2
      go_ret
      exact ⟨ret_bool hd.out.symm, rfl⟩
  · have hd : Hid (p = false) := hq.out.symm.trans (decide_eq_false fun h => h0 h.1)
    go_enter Try.func57, Try.ntmps57
    go_wp2
    go_ret
    exact ⟨ret_bool hd.out.symm, rfl⟩
set_option maxHeartbeats 400000 in
/-- event.Right. -/
theorem eright_is (a : Ev) (w : World) (p : Bool) (hp : rightE a = p) :
    Calls Try.prog 41 #[evv a] w fun e w' => e = .returned (.bool p) ∧ Below w.heap.size w w' := by
  have hq : Hid (rightE a = p) := hp
  clear hp
  obtain ⟨t, k, v, l⟩ := a
  simp only [evv]
  by_cases h0 : 0 ≤ t ∧ t ≤ 1099511627776
  · by_cases h1 : 0 ≤ k ∧ k ≤ 255
    · by_cases h2 : l = 0
      · have hd : Hid (p = false) := hq.out.symm.trans (decide_eq_false fun h => h.2.2 h2)
        subst h2
        go_enter Try.func41, Try.ntmps41
        go_wp2_with fail
        refine (ewithin_is t _ _ true (decide_eq_true h0)).mono ?_
        rintro e w' ⟨rfl, he⟩; subst he
        go_wp2_with fail
        refine (ewithin_is k _ _ true (decide_eq_true h1)).mono ?_
        rintro e w' ⟨rfl, he⟩; subst he
        go_wp2
        go_ret
        exact ⟨ret_bool hd.out.symm, below_alloc _ _⟩
      · have hd : Hid (p = true) := hq.out.symm.trans (decide_eq_true ⟨h0, h1, h2⟩)
        go_enter Try.func41, Try.ntmps41
        go_wp2_with fail
        refine (ewithin_is t _ _ true (decide_eq_true h0)).mono ?_
        rintro e w' ⟨rfl, he⟩; subst he
        go_wp2_with fail
        refine (ewithin_is k _ _ true (decide_eq_true h1)).mono ?_
        rintro e w' ⟨rfl, he⟩; subst he
        have h3 : ((l : Int) != 0) = true := by simp; exact h2
        go_wp2
        go_ret
        exact ⟨ret_bool hd.out.symm, below_alloc _ _⟩
    · have hd : Hid (p = false) := hq.out.symm.trans (decide_eq_false fun h => h1 h.2.1)
      go_enter Try.func41, Try.ntmps41
      go_wp2_with fail
      refine (ewithin_is t _ _ true (decide_eq_true h0)).mono ?_
      rintro e w' ⟨rfl, he⟩; subst he
      go_wp2_with fail
      refine (ewithin_is k _ _ false (decide_eq_false h1)).mono ?_
      rintro e w' ⟨rfl, he⟩; subst he
      go_wp2
      go_ret
      exact ⟨ret_bool hd.out.symm, below_alloc _ _⟩
  · have hd : Hid (p = false) := hq.out.symm.trans (decide_eq_false fun h => h0 h.1)
    go_enter Try.func41, Try.ntmps41
    go_wp2_with fail
    refine (ewithin_is t _ _ false (decide_eq_false h0)).mono ?_
    rintro e w' ⟨rfl, he⟩; subst he
    go_wp2
    go_ret
    exact ⟨ret_bool hd.out.symm, below_alloc _ _⟩
theorem Ink.thaw {w : World} {b : Nat} {x : Inp} (h : Ink w b x) (j : Nat) : w.frozen? ⟨b, j, none⟩ = false := by unfold Ink at h; simp [World.frozen?, h]
theorem Try.size31 : (Try.prog.info? 31).map (·.size) = some 5 := by kernel_rfl
/-- A whole input is stored into its variable. -/
theorem wpList_store_I {ops : Array Oper} {rest : List Oper} {o : Oper} {a : Act} {w : World} {Q : Exit → Act → World → Prop} (hgd : o.guard = none) (x y : Operand) (ho : o.op = .store 31 x y)
    (b : Nat) (i0 i1 : Inp) (hx : a.eval x = .pointer (some ⟨b, 0, none⟩)) (hy : a.eval y = inv i1) (hK : Ink w b i0)
    (h : ∀ W, Ink W b i1 → Chf (fun k => k = b) w W → wpList Try.prog ops Q rest (a.put o.dst undef) W) : wpList Try.prog ops Q (o :: rest) a w := by
  refine wpList_store_row hgd 31 x y ho b _ hx hy 31 _ hK Try.size31 rfl (all_oneCell_toArray (cs := inCells i1) (fun v hv => by simp only [inCells, List.mem_cons, List.not_mem_nil, or_false] at hv; rcases hv with rfl | rfl | rfl | rfl | rfl <;> rfl)) (h _ ?_ ?_)
  · exact setRow_heap w b _ _ 31 _ hK
  · exact ⟨rfl, rfl, rfl, by simp, fun k hl hk => setRow_other w b k _ hk⟩
/-- cell.markAt. -/
theorem markAt_is (t : Int) (w : World) (p : Bool) (hp : decide (1 ≤ t ∧ t ≤ 1099512676352) = p) :
    Calls Try.prog 52 #[.int .i64 t] w fun e w' => e = .returned (.tuple #[inv (if p = true then ⟨true, ⟨t, 0, 0, 0⟩⟩ else zeroI), .bool p]) ∧ Below w.heap.size w w' := by
  have hq : Hid (decide (1 ≤ t ∧ t ≤ 1099512676352) = p) := hp
  clear hp
  by_cases h0 : t < 1
  · obtain rfl : p = false := hq.out.symm.trans (decide_eq_false fun h => by omega)
    clear hq
    go_enter Try.func52, Try.ntmps52
    go_wp2
    exact bodyPost_ret (v := .tuple #[inv zeroI, .bool false]) (by simp [results, Try.results52, go_sem, zeroI]) rfl ⟨rfl, below_alloc _ _⟩
  · by_cases h1 : 1099512676352 < t
    · obtain rfl : p = false := hq.out.symm.trans (decide_eq_false fun h => by omega)
      clear hq
      go_enter Try.func52, Try.ntmps52
      go_wp2
      exact bodyPost_ret (v := .tuple #[inv zeroI, .bool false]) (by simp [results, Try.results52, go_sem, zeroI]) rfl ⟨rfl, below_alloc _ _⟩
    · obtain rfl : p = true := hq.out.symm.trans (decide_eq_true (by omega))
      clear hq
      go_enter Try.func52, Try.ntmps52
      go_wp2
      exact bodyPost_ret (v := .tuple #[inv ⟨true, ⟨t, 0, 0, 0⟩⟩, .bool true]) (by simp [results, Try.results52, go_sem]) rfl ⟨rfl, below_alloc _ _⟩
theorem wrap_two (n : Nat) (h : n < 8) : IntKind.u64.wrap (2 ^ n) = ((2 ^ n : Nat) : Int) := by
  rcases (show n = 0 ∨ n = 1 ∨ n = 2 ∨ n = 3 ∨ n = 4 ∨ n = 5 ∨ n = 6 ∨ n = 7 by omega) with rfl | rfl | rfl | rfl | rfl | rfl | rfl | rfl <;> rfl
theorem Evk.setl {w : World} {b : Nat} {e : Ev} (h : Evk w b e) (l : Nat) : Evk (w.setCell ⟨b, 3, none⟩ (.int .u64 (l : Int))) b ⟨e.t, e.k, e.v, l⟩ := by
  unfold Evk evCells at *; simp [World.setCell, Array.getElem?_modify, h]
set_option maxHeartbeats 2000000 in
/-- Cell.own. -/
theorem own_is (c : Nat) (l s f : Int) (v : Value) (b n : Nat) (vr vt : Value) (x : Inp) (w : World) (hk : Ckb w c l s f v b (n : Nat) vr vt) (hn : n < 8) (p : Bool) (hp : okO x = p) :
    Calls Try.prog 33 #[.pointer (some ⟨c, 0, none⟩), inv x] w fun e w' => e = .returned (.tuple #[inv (if p = true then ownI n x else zeroI), .bool p]) ∧ Below w.heap.size w w' := by
  obtain ⟨z, hz0⟩ : ∃ z, Hid ((if p = true then ownI n x else zeroI) = z) := ⟨_, rfl⟩
  rw [hz0.out]
  obtain ⟨mk, ⟨t, k, y, lb⟩⟩ := x
  cases mk with
  | true =>
    have hp' : Hid (decide (1 ≤ t ∧ t ≤ 1099512676352) = p) := hp
    clear hp
    have hfin : Hid ((if p = true then (⟨true, ⟨t, 0, 0, 0⟩⟩ : Inp) else zeroI) = z) := hz0
    go_enter Try.func33, Try.ntmps33
    go_upto_region 1 with fail
    refine world_gen (fun W => Hid (Ink W w.heap.size ⟨true, ⟨t, k, y, lb⟩⟩) ∧ Hid (Ink W (w.heap.size + 1) zeroI) ∧ Hid (Below w.heap.size w W)) ⟨(ink_new w ⟨true, ⟨t, k, y, lb⟩⟩).kept (below_alloc _ _), ?_, (below_alloc _ _).alloc (by simp) _⟩ ?_
    · have h := ink_new (w.alloc (.cells #[.bool true, .int .i64 t, .int .i64 k, .int .i64 y, .int .u64 lb] 31)) zeroI
      have e : (w.alloc (.cells #[.bool true, .int .i64 t, .int .i64 k, .int .i64 y, .int .u64 lb] 31)).heap.size = w.heap.size + 1 := by simp
      rw [e] at h
      exact h
    clear hk
    rintro W ⟨hi, hz, hb⟩
    obtain ⟨g0, hg0⟩ : ∃ g, Hid (w.heap.size = g) := ⟨_, rfl⟩
    rw [hg0.out] at hi hz hb ⊢
    obtain ⟨c0, c1, c2, c3, c4⟩ := hi.out.c
    simp only [Nat.zero_add] at c0 c1 c2 c3 c4
    go_wp2_with fail
    refine (markAt_is t _ p hp'.out).mono ?_
    rintro e w' ⟨rfl, hb2⟩
    have hz2 : Hid (Ink w' (g0 + 1) zeroI) := hz.out.kept hb2
    have hb3 : Hid (Below g0 w w') := hb.out.trans (hb2.mono (Nat.le_of_lt (Nat.lt_of_lt_of_le (Nat.lt_succ_self _) (Nat.le_of_lt hz.out.lt))))
    clear c0 c1 c2 c3 c4 hi hb hz hb2
    rw [hfin.out]
    have hlt := hz2.out.lt
    go_wp2_with (refine wpList_store_I rfl _ _ rfl (g0 + 1) zeroI z rfl rfl hz2.out ?_; intro W5 k5 h5)
    have hb5 : Hid (Below g0 w W5) := hb3.out.trans (h5.below (fun k hk => by omega) (by omega))
    obtain ⟨d0, d1, d2, d3, d4⟩ := k5.c
    simp only [Nat.zero_add] at d0 d1 d2 d3 d4
    exact bodyPost_ret (v := .tuple #[inv z, .bool p]) (by simp [results, Try.results33, go_sem, d0, d1, d2, d3, d4]) rfl ⟨rfl, by rw [hg0.out]; exact hb5.out⟩
  | false =>
    have c5 := hk.c5
    have hlt := hk.lt
    have hp' : Hid (rightE ⟨t, k, y, 2 ^ n⟩ = p) := by
      have h : rightE ⟨t, k, y, 2 ^ n⟩ = p := by
        rw [← hp]
        have h2 : (2 : Nat) ^ n ≠ 0 := Nat.pos_iff_ne_zero.1 (Nat.two_pow_pos n)
        unfold rightE okO
        simp [h2]
      exact h
    have hfin : Hid ((if p = true then (⟨false, ⟨t, k, y, 2 ^ n⟩⟩ : Inp) else zeroI) = z) := hz0
    clear hp
    go_enter Try.func33, Try.ntmps33
    go_upto_region 4 with fail
    refine world_gen (fun W => Hid (Ckb W c l s f v b (n : Nat) vr vt) ∧ Hid (Ink W (w.heap.size + 1) zeroI) ∧ Hid (Evk W (w.heap.size + 1 + 1) ⟨t, k, y, lb⟩) ∧ Hid (Below w.heap.size w W)) ?_ ?_
    · have b1 := below_alloc w (.cells #[.bool false, .int .i64 t, .int .i64 k, .int .i64 y, .int .u64 lb] 31)
      generalize hW1 : w.alloc (.cells #[.bool false, .int .i64 t, .int .i64 k, .int .i64 y, .int .u64 lb] 31) = W1 at *
      have e1 : W1.heap.size = w.heap.size + 1 := by rw [← hW1]; simp
      have k2 := ink_new W1 zeroI
      have b2 := below_alloc W1 (.cells #[.bool false, .int .i64 0, .int .i64 0, .int .i64 0, .int .u64 0] 31)
      have e2 : (W1.alloc (.cells #[.bool false, .int .i64 0, .int .i64 0, .int .i64 0, .int .u64 0] 31)).heap.size = w.heap.size + 1 + 1 := by simp [e1]
      have k3 := evk_new (W1.alloc (.cells #[.bool false, .int .i64 0, .int .i64 0, .int .i64 0, .int .u64 0] 31)) ⟨t, k, y, lb⟩
      have b3 := below_alloc (W1.alloc (.cells #[.bool false, .int .i64 0, .int .i64 0, .int .i64 0, .int .u64 0] 31)) (.cells #[.int .i64 t, .int .i64 k, .int .i64 y, .int .u64 lb] 29)
      rw [e2] at k3
      rw [e1] at k2
      exact ⟨(hk.call b1).call (b2.trans (b3.mono b2.size)), Ink.kept k2 b3, k3, below_call (below_call b1 b2) b3⟩
    clear c5
    rintro W ⟨hk2, hz, he, hb⟩
    obtain ⟨g0, hg0⟩ : ∃ g, Hid (w.heap.size = g) := ⟨_, rfl⟩
    rw [hg0.out] at hz he hlt hb ⊢
    have c5 := hk2.out.c5
    have e3 := he.out.free' 3
    obtain ⟨d0, d1, d2, d3⟩ := he.out.c
    have hz2 : Hid (Ink (W.setCell ⟨g0 + 1 + 1, 3, none⟩ (.int .u64 (IntKind.u64.wrap (2 ^ n)))) (g0 + 1) zeroI) := hz.out.keep (Below.heap_setCell _ _ _ _ (show g0 + 1 ≠ g0 + 1 + 1 by omega))
    have he2 : Hid (Evk (W.setCell ⟨g0 + 1 + 1, 3, none⟩ (.int .u64 (IntKind.u64.wrap (2 ^ n)))) (g0 + 1 + 1) ⟨t, k, y, 2 ^ n⟩) := by
      have h := he.out.setl (2 ^ n)
      rw [← wrap_two n hn] at h
      exact h
    have hb2 : Hid (Below g0 w (W.setCell ⟨g0 + 1 + 1, 3, none⟩ (.int .u64 (IntKind.u64.wrap (2 ^ n))))) := hb.out.setCell (show g0 ≤ g0 + 1 + 1 by omega) _
    clear hz he hb hk hk2
    go_upto_region 5 with fail
    clear c5 e3 d0 d1 d2 d3
    generalize W.setCell ⟨g0 + 1 + 1, 3, none⟩ (.int .u64 (IntKind.u64.wrap (2 ^ n))) = W2 at *
    obtain ⟨d0, d1, d2, d3⟩ := he2.out.c
    go_wp2_with fail
    refine (eright_is ⟨t, k, y, 2 ^ n⟩ _ p hp'.out).mono ?_
    rintro e w' ⟨rfl, hb3⟩
    have hz3 : Hid (Ink w' (g0 + 1) zeroI) := hz2.out.kept hb3
    have he3 : Hid (Evk w' (g0 + 1 + 1) ⟨t, k, y, 2 ^ n⟩) := he2.out.below hb3
    have hlt3 := hz2.out.lt
    have hb4 : Hid (Below g0 w w') := hb2.out.trans (hb3.mono (by omega))
    clear d0 d1 d2 d3 hz2 he2 hb2 hb3
    obtain ⟨d0, d1, d2, d3⟩ := he3.out.c
    have hlt4 := hz3.out.lt
    cases p with
    | true =>
      go_wp2_with (refine wpList_store_I rfl _ _ rfl (g0 + 1) zeroI ⟨false, ⟨t, k, y, 2 ^ n⟩⟩ rfl rfl hz3.out ?_; intro W5 k5 h5)
      have hb5 : Hid (Below g0 w W5) := hb4.out.trans (h5.below (fun k hk => by omega) (by omega))
      obtain ⟨x0, x1, x2, x3, x4⟩ := k5.c
      simp only [Nat.zero_add] at x0 x1 x2 x3 x4
      exact bodyPost_ret (v := .tuple #[inv ⟨false, ⟨t, k, y, 2 ^ n⟩⟩, .bool true]) (by simp [results, Try.results33, go_sem, x0, x1, x2, x3, x4]) rfl ⟨by rw [← hfin.out]; rfl, by rw [hg0.out]; exact hb5.out⟩
    | false =>
      go_wp2_with (refine wpList_store_I rfl _ _ rfl (g0 + 1) zeroI zeroI rfl rfl hz3.out ?_; intro W5 k5 h5)
      have hb5 : Hid (Below g0 w W5) := hb4.out.trans (h5.below (fun k hk => by omega) (by omega))
      obtain ⟨x0, x1, x2, x3, x4⟩ := k5.c
      simp only [Nat.zero_add, zeroI] at x0 x1 x2 x3 x4
      exact bodyPost_ret (v := .tuple #[inv zeroI, .bool false]) (by simp [results, Try.results33, go_sem, x0, x1, x2, x3, x4, zeroI]) rfl ⟨by rw [← hfin.out]; rfl, by rw [hg0.out]; exact hb5.out⟩
end Go.Proofs.Ytnamjnopicghhaa
