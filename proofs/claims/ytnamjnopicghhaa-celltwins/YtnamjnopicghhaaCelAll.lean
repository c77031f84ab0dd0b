/- Twin and New of a Cell. -/
import Derived.Test.YtnamjnopicghhaaRst
/- What the methods of a Cell do: which input may be, Offer, Feed, New. -/
namespace Go.Proofs.Ytnamjnopicghhaa
open Go.RowKit M
open O.MO (Oq Pq rightP)
set_option linter.unusedVariables false
set_option linter.unusedSimpArgs false
attribute [local go_sem ↓] Go.wp_at_zero Go.wp_at_succ

/-- May this event be? -/
def rightE (e : Ev) : Bool := decide ((0 ≤ e.t ∧ e.t ≤ 1099511627776) ∧ (0 ≤ e.k ∧ e.k ≤ 255) ∧ e.l ≠ 0)
/-- An input as a tenant sends it; may it be? -/
def ownI (n : Nat) (x : Inp) : Inp := if x.mrk = true then ⟨true, ⟨x.e.t, 0, 0, 0⟩⟩ else ⟨false, ⟨x.e.t, x.e.k, x.e.v, 2 ^ n⟩⟩
def okO (x : Inp) : Bool := if x.mrk = true then decide (1 ≤ x.e.t ∧ x.e.t ≤ 1099512676352) else decide ((0 ≤ x.e.t ∧ x.e.t ≤ 1099511627776) ∧ (0 ≤ x.e.k ∧ x.e.k ≤ 255))
def zeroI : Inp := ⟨false, ⟨0, 0, 0, 0⟩⟩
theorem Ink.kept {w w' : World} {b : Nat} {i : Inp} (h : Ink w b i) (hb : Below w.heap.size w w') : Ink w' b i := h.keep (hb.block b h.lt)
theorem ewithin_is (n m : Int) (w : World) (p : Bool) (hp : decide (0 ≤ n ∧ n ≤ m) = p) :
    Calls Try.prog 57 #[.int .i64 n, .int .i64 m] w fun e w' => e = .returned (.bool p) ∧ w' = w := by
  have hq : Hid (decide (0 ≤ n ∧ n ≤ m) = p) := hp
  clear hp
  by_cases h0 : 0 ≤ n
  · by_cases h1 : n ≤ m
    · have hd : Hid (p = true) := hq.out.symm.trans (decide_eq_true ⟨h0, h1⟩)
      go_enter Try.func57, Try.ntmps57
      go_wp2
      go_ret
      exact ⟨ret_bool hd.out.symm, rfl⟩
    · have hd : Hid (p = false) := hq.out.symm.trans (decide_eq_false fun h => h1 h.2)
      go_enter Try.func57, Try.ntmps57
      go_wp2
      go_ret
      exact ⟨ret_bool hd.out.symm, rfl⟩
  · have hd : Hid (p = false) := hq.out.symm.trans (decide_eq_false fun h => h0 h.1)
    go_enter Try.func57, Try.ntmps57
    go_wp2
    go_ret
    exact ⟨ret_bool hd.out.symm, rfl⟩
set_option maxHeartbeats 400000 in
/-- event.Right. -/
theorem eright_is (a : Ev) (w : World) (p : Bool) (hp : rightE a = p) :
    Calls Try.prog 41 #[evv a] w fun e w' => e = .returned (.bool p) ∧ Below w.heap.size w w' := by
  have hq : Hid (rightE a = p) := hp
  clear hp
  obtain ⟨t, k, v, l⟩ := a
  simp only [evv]
  by_cases h0 : 0 ≤ t ∧ t ≤ 1099511627776
  · by_cases h1 : 0 ≤ k ∧ k ≤ 255
    · by_cases h2 : l = 0
      · have hd : Hid (p = false) := hq.out.symm.trans (decide_eq_false fun h => h.2.2 h2)
        subst h2
        go_enter Try.func41, Try.ntmps41
        go_wp2_with fail
        refine (ewithin_is t _ _ true (decide_eq_true h0)).mono ?_
        rintro e w' ⟨rfl, he⟩; subst he
        go_wp2_with fail
        refine (ewithin_is k _ _ true (decide_eq_true h1)).mono ?_
        rintro e w' ⟨rfl, he⟩; subst he
        go_wp2
        go_ret
        exact ⟨ret_bool hd.out.symm, below_alloc _ _⟩
      · have hd : Hid (p = true) := hq.out.symm.trans (decide_eq_true ⟨h0, h1, h2⟩)
        go_enter Try.func41, Try.ntmps41
        go_wp2_with fail
        refine (ewithin_is t _ _ true (decide_eq_true h0)).mono ?_
        rintro e w' ⟨rfl, he⟩; subst he
        go_wp2_with fail
        refine (ewithin_is k _ _ true (decide_eq_true h1)).mono ?_
        rintro e w' ⟨rfl, he⟩; subst he
        have h3 : ((l : Int) != 0) = true := by simp; exact h2
        go_wp2
        go_ret
        exact ⟨ret_bool hd.out.symm, below_alloc _ _⟩
    · have hd : Hid (p = false) := hq.out.symm.trans (decide_eq_false fun h => h1 h.2.1)
      go_enter Try.func41, Try.ntmps41
      go_wp2_with fail
      refine (ewithin_is t _ _ true (decide_eq_true h0)).mono ?_
      rintro e w' ⟨rfl, he⟩; subst he
      go_wp2_with fail
      refine (ewithin_is k _ _ false (decide_eq_false h1)).mono ?_
      rintro e w' ⟨rfl, he⟩; subst he
      go_wp2
      go_ret
      exact ⟨ret_bool hd.out.symm, below_alloc _ _⟩
  · have hd : Hid (p = false) := hq.out.symm.trans (decide_eq_false fun h => h0 h.1)
    go_enter Try.func41, Try.ntmps41
    go_wp2_with fail
    refine (ewithin_is t _ _ false (decide_eq_false h0)).mono ?_
    rintro e w' ⟨rfl, he⟩; subst he
    go_wp2
    go_ret
    exact ⟨ret_bool hd.out.symm, below_alloc _ _⟩
theorem Ink.thaw {w : World} {b : Nat} {x : Inp} (h : Ink w b x) (j : Nat) : w.frozen? ⟨b, j, none⟩ = false := by unfold Ink at h; simp [World.frozen?, h]
theorem Try.size31 : (Try.prog.info? 31).map (·.size) = some 5 := by kernel_rfl
/-- A whole input is stored into its variable. -/
theorem wpList_store_I {ops : Array Oper} {rest : List Oper} {o : Oper} {a : Act} {w : World} {Q : Exit → Act → World → Prop} (hgd : o.guard = none) (x y : Operand) (ho : o.op = .store 31 x y)
    (b : Nat) (i0 i1 : Inp) (hx : a.eval x = .pointer (some ⟨b, 0, none⟩)) (hy : a.eval y = inv i1) (hK : Ink w b i0)
    (h : ∀ W, Ink W b i1 → Chf (fun k => k = b) w W → wpList Try.prog ops Q rest (a.put o.dst undef) W) : wpList Try.prog ops Q (o :: rest) a w := by
  refine wpList_store_row hgd 31 x y ho b _ hx hy 31 _ hK Try.size31 rfl (all_oneCell_toArray (cs := inCells i1) (fun v hv => by simp only [inCells, List.mem_cons, List.not_mem_nil, or_false] at hv; rcases hv with rfl | rfl | rfl | rfl | rfl <;> rfl)) (h _ ?_ ?_)
  · exact setRow_heap w b _ _ 31 _ hK
  · exact ⟨rfl, rfl, rfl, by simp, fun k hl hk => setRow_other w b k _ hk⟩
/-- cell.markAt. -/
theorem markAt_is (t : Int) (w : World) (p : Bool) (hp : decide (1 ≤ t ∧ t ≤ 1099512676352) = p) :
    Calls Try.prog 52 #[.int .i64 t] w fun e w' => e = .returned (.tuple #[inv (if p = true then ⟨true, ⟨t, 0, 0, 0⟩⟩ else zeroI), .bool p]) ∧ Below w.heap.size w w' := by
  have hq : Hid (decide (1 ≤ t ∧ t ≤ 1099512676352) = p) := hp
  clear hp
  by_cases h0 : t < 1
  · obtain rfl : p = false := hq.out.symm.trans (decide_eq_false fun h => by omega)
    clear hq
    go_enter Try.func52, Try.ntmps52
    go_wp2
    exact bodyPost_ret (v := .tuple #[inv zeroI, .bool false]) (by simp [results, Try.results52, go_sem, zeroI]) rfl ⟨rfl, below_alloc _ _⟩
  · by_cases h1 : 1099512676352 < t
    · obtain rfl : p = false := hq.out.symm.trans (decide_eq_false fun h => by omega)
      clear hq
      go_enter Try.func52, Try.ntmps52
      go_wp2
      exact bodyPost_ret (v := .tuple #[inv zeroI, .bool false]) (by simp [results, Try.results52, go_sem, zeroI]) rfl ⟨rfl, below_alloc _ _⟩
    · obtain rfl : p = true := hq.out.symm.trans (decide_eq_true (by omega))
      clear hq
      go_enter Try.func52, Try.ntmps52
      go_wp2
      exact bodyPost_ret (v := .tuple #[inv ⟨true, ⟨t, 0, 0, 0⟩⟩, .bool true]) (by simp [results, Try.results52, go_sem]) rfl ⟨rfl, below_alloc _ _⟩
theorem wrap_two (n : Nat) (h : n < 8) : IntKind.u64.wrap (2 ^ n) = ((2 ^ n : Nat) : Int) := by
  rcases (show n = 0 ∨ n = 1 ∨ n = 2 ∨ n = 3 ∨ n = 4 ∨ n = 5 ∨ n = 6 ∨ n = 7 by omega) with rfl | rfl | rfl | rfl | rfl | rfl | rfl | rfl <;> rfl
theorem Evk.setl {w : World} {b : Nat} {e : Ev} (h : Evk w b e) (l : Nat) : Evk (w.setCell ⟨b, 3, none⟩ (.int .u64 (l : Int))) b ⟨e.t, e.k, e.v, l⟩ := by
  unfold Evk evCells at *; simp [World.setCell, Array.getElem?_modify, h]
set_option maxHeartbeats 2000000 in
/-- Cell.own. -/
theorem own_is (c : Nat) (l s f : Int) (v : Value) (b n : Nat) (vr vt : Value) (x : Inp) (w : World) (hk : Ckb w c l s f v b (n : Nat) vr vt) (hn : n < 8) (p : Bool) (hp : okO x = p) :
    Calls Try.prog 33 #[.pointer (some ⟨c, 0, none⟩), inv x] w fun e w' => e = .returned (.tuple #[inv (if p = true then ownI n x else zeroI), .bool p]) ∧ Below w.heap.size w w' := by
  obtain ⟨z, hz0⟩ : ∃ z, Hid ((if p = true then ownI n x else zeroI) = z) := ⟨_, rfl⟩
  rw [hz0.out]
  obtain ⟨mk, ⟨t, k, y, lb⟩⟩ := x
  cases mk with
  | true =>
    have hp' : Hid (decide (1 ≤ t ∧ t ≤ 1099512676352) = p) := hp
    clear hp
    have hfin : Hid ((if p = true then (⟨true, ⟨t, 0, 0, 0⟩⟩ : Inp) else zeroI) = z) := hz0
    go_enter Try.func33, Try.ntmps33
    go_upto_region 1 with fail
    refine world_gen (fun W => Hid (Ink W w.heap.size ⟨true, ⟨t, k, y, lb⟩⟩) ∧ Hid (Ink W (w.heap.size + 1) zeroI) ∧ Hid (Below w.heap.size w W)) ⟨(ink_new w ⟨true, ⟨t, k, y, lb⟩⟩).kept (below_alloc _ _), ?_, (below_alloc _ _).alloc (by simp) _⟩ ?_
    · have h := ink_new (w.alloc (.cells #[.bool true, .int .i64 t, .int .i64 k, .int .i64 y, .int .u64 lb] 31)) zeroI
      have e : (w.alloc (.cells #[.bool true, .int .i64 t, .int .i64 k, .int .i64 y, .int .u64 lb] 31)).heap.size = w.heap.size + 1 := by simp
      rw [e] at h
      exact h
    clear hk
    rintro W ⟨hi, hz, hb⟩
    obtain ⟨g0, hg0⟩ : ∃ g, Hid (w.heap.size = g) := ⟨_, rfl⟩
    rw [hg0.out] at hi hz hb ⊢
    obtain ⟨c0, c1, c2, c3, c4⟩ := hi.out.c
    simp only [Nat.zero_add] at c0 c1 c2 c3 c4
    go_wp2_with fail
    refine (markAt_is t _ p hp'.out).mono ?_
    rintro e w' ⟨rfl, hb2⟩
    have hz2 : Hid (Ink w' (g0 + 1) zeroI) := hz.out.kept hb2
    have hb3 : Hid (Below g0 w w') := hb.out.trans (hb2.mono (Nat.le_of_lt (Nat.lt_of_lt_of_le (Nat.lt_succ_self _) (Nat.le_of_lt hz.out.lt))))
    clear c0 c1 c2 c3 c4 hi hb hz hb2
    rw [hfin.out]
    have hlt := hz2.out.lt
    go_wp2_with (refine wpList_store_I rfl _ _ rfl (g0 + 1) zeroI z rfl rfl hz2.out ?_; intro W5 k5 h5)
    have hb5 : Hid (Below g0 w W5) := hb3.out.trans (h5.below (fun k hk => by omega) (by omega))
    obtain ⟨d0, d1, d2, d3, d4⟩ := k5.c
    simp only [Nat.zero_add] at d0 d1 d2 d3 d4
    exact bodyPost_ret (v := .tuple #[inv z, .bool p]) (by simp [results, Try.results33, go_sem, d0, d1, d2, d3, d4]) rfl ⟨rfl, by rw [hg0.out]; exact hb5.out⟩
  | false =>
    have c5 := hk.c5
    have hlt := hk.lt
    have hp' : Hid (rightE ⟨t, k, y, 2 ^ n⟩ = p) := by
      have h : rightE ⟨t, k, y, 2 ^ n⟩ = p := by
        rw [← hp]
        have h2 : (2 : Nat) ^ n ≠ 0 := Nat.pos_iff_ne_zero.1 (Nat.two_pow_pos n)
        unfold rightE okO
        simp [h2]
      exact h
    have hfin : Hid ((if p = true then (⟨false, ⟨t, k, y, 2 ^ n⟩⟩ : Inp) else zeroI) = z) := hz0
    clear hp
    go_enter Try.func33, Try.ntmps33
    go_upto_region 4 with fail
    refine world_gen (fun W => Hid (Ckb W c l s f v b (n : Nat) vr vt) ∧ Hid (Ink W (w.heap.size + 1) zeroI) ∧ Hid (Evk W (w.heap.size + 1 + 1) ⟨t, k, y, lb⟩) ∧ Hid (Below w.heap.size w W)) ?_ ?_
    · have b1 := below_alloc w (.cells #[.bool false, .int .i64 t, .int .i64 k, .int .i64 y, .int .u64 lb] 31)
      generalize hW1 : w.alloc (.cells #[.bool false, .int .i64 t, .int .i64 k, .int .i64 y, .int .u64 lb] 31) = W1 at *
      have e1 : W1.heap.size = w.heap.size + 1 := by rw [← hW1]; simp
      have k2 := ink_new W1 zeroI
      have b2 := below_alloc W1 (.cells #[.bool false, .int .i64 0, .int .i64 0, .int .i64 0, .int .u64 0] 31)
      have e2 : (W1.alloc (.cells #[.bool false, .int .i64 0, .int .i64 0, .int .i64 0, .int .u64 0] 31)).heap.size = w.heap.size + 1 + 1 := by simp [e1]
      have k3 := evk_new (W1.alloc (.cells #[.bool false, .int .i64 0, .int .i64 0, .int .i64 0, .int .u64 0] 31)) ⟨t, k, y, lb⟩
      have b3 := below_alloc (W1.alloc (.cells #[.bool false, .int .i64 0, .int .i64 0, .int .i64 0, .int .u64 0] 31)) (.cells #[.int .i64 t, .int .i64 k, .int .i64 y, .int .u64 lb] 29)
      rw [e2] at k3
      rw [e1] at k2
      exact ⟨(hk.call b1).call (b2.trans (b3.mono b2.size)), Ink.kept k2 b3, k3, below_call (below_call b1 b2) b3⟩
    clear c5
    rintro W ⟨hk2, hz, he, hb⟩
    obtain ⟨g0, hg0⟩ : ∃ g, Hid (w.heap.size = g) := ⟨_, rfl⟩
    rw [hg0.out] at hz he hlt hb ⊢
    have c5 := hk2.out.c5
    have e3 := he.out.free' 3
    obtain ⟨d0, d1, d2, d3⟩ := he.out.c
    have hz2 : Hid (Ink (W.setCell ⟨g0 + 1 + 1, 3, none⟩ (.int .u64 (IntKind.u64.wrap (2 ^ n)))) (g0 + 1) zeroI) := hz.out.keep (Below.heap_setCell _ _ _ _ (show g0 + 1 ≠ g0 + 1 + 1 by omega))
    have he2 : Hid (Evk (W.setCell ⟨g0 + 1 + 1, 3, none⟩ (.int .u64 (IntKind.u64.wrap (2 ^ n)))) (g0 + 1 + 1) ⟨t, k, y, 2 ^ n⟩) := by
      have h := he.out.setl (2 ^ n)
      rw [← wrap_two n hn] at h
      exact h
    have hb2 : Hid (Below g0 w (W.setCell ⟨g0 + 1 + 1, 3, none⟩ (.int .u64 (IntKind.u64.wrap (2 ^ n))))) := hb.out.setCell (show g0 ≤ g0 + 1 + 1 by omega) _
    clear hz he hb hk hk2
    go_upto_region 5 with fail
    clear c5 e3 d0 d1 d2 d3
    generalize W.setCell ⟨g0 + 1 + 1, 3, none⟩ (.int .u64 (IntKind.u64.wrap (2 ^ n))) = W2 at *
    obtain ⟨d0, d1, d2, d3⟩ := he2.out.c
    go_wp2_with fail
    refine (eright_is ⟨t, k, y, 2 ^ n⟩ _ p hp'.out).mono ?_
    rintro e w' ⟨rfl, hb3⟩
    have hz3 : Hid (Ink w' (g0 + 1) zeroI) := hz2.out.kept hb3
    have he3 : Hid (Evk w' (g0 + 1 + 1) ⟨t, k, y, 2 ^ n⟩) := he2.out.below hb3
    have hlt3 := hz2.out.lt
    have hb4 : Hid (Below g0 w w') := hb2.out.trans (hb3.mono (by omega))
    clear d0 d1 d2 d3 hz2 he2 hb2 hb3
    obtain ⟨d0, d1, d2, d3⟩ := he3.out.c
    have hlt4 := hz3.out.lt
    cases p with
    | true =>
      go_wp2_with (refine wpList_store_I rfl _ _ rfl (g0 + 1) zeroI ⟨false, ⟨t, k, y, 2 ^ n⟩⟩ rfl rfl hz3.out ?_; intro W5 k5 h5)
      have hb5 : Hid (Below g0 w W5) := hb4.out.trans (h5.below (fun k hk => by omega) (by omega))
      obtain ⟨x0, x1, x2, x3, x4⟩ := k5.c
      simp only [Nat.zero_add] at x0 x1 x2 x3 x4
      exact bodyPost_ret (v := .tuple #[inv ⟨false, ⟨t, k, y, 2 ^ n⟩⟩, .bool true]) (by simp [results, Try.results33, go_sem, x0, x1, x2, x3, x4]) rfl ⟨by rw [← hfin.out]; rfl, by rw [hg0.out]; exact hb5.out⟩
    | false =>
      go_wp2_with (refine wpList_store_I rfl _ _ rfl (g0 + 1) zeroI zeroI rfl rfl hz3.out ?_; intro W5 k5 h5)
      have hb5 : Hid (Below g0 w W5) := hb4.out.trans (h5.below (fun k hk => by omega) (by omega))
      obtain ⟨x0, x1, x2, x3, x4⟩ := k5.c
      simp only [Nat.zero_add, zeroI] at x0 x1 x2 x3 x4
      exact bodyPost_ret (v := .tuple #[inv zeroI, .bool false]) (by simp [results, Try.results33, go_sem, x0, x1, x2, x3, x4, zeroI]) rfl ⟨by rw [← hfin.out]; rfl, by rw [hg0.out]; exact hb5.out⟩
end Go.Proofs.Ytnamjnopicghhaa
/- Offer and Feed of a Cell. -/
namespace Go.Proofs.Ytnamjnopicghhaa
open Go.RowKit M
open O.MO (Oq Pq rightP)
set_option linter.unusedVariables false
set_option linter.unusedSimpArgs false
attribute [local go_sem ↓] Go.wp_at_zero Go.wp_at_succ

section
variable {W0 : World} {us : List Th} {c : Nat} {l s f : Int} {v : Value} {b : Nat} {i : Int} {vr vt : Value}
/-- Cell.refused. -/
theorem refused_is (why : Int) (w : World) (hS : St W0 w (cb c l s f v b i vr vt :: us)) (hf : 0 ≤ f ∧ f ≤ 1000000) :
    Calls Try.prog 34 #[.pointer (some ⟨c, 0, none⟩), .int .i64 why] w fun e w' => e = .returned (.int .i64 why) ∧ St W0 w' (cb c l s (f + 1) v b i vr vt :: us) := by
  go_enter Try.func34, Try.ntmps34
  go_wp2_with fail
  refine (refuse_is _ hS hf).mono ?_
  rintro e w' ⟨rfl, h⟩
  go_wp2_with fail
  go_ret
  exact ⟨rfl, h⟩
end
/-- What Offer answers, and what stands behind it. -/
def Off (n : Nat) (room : Int) (x : Inp) (l s f : Int) (wait : List Inp) (E l' s' f' : Int) (wait' : List Inp) : Prop :=
  (okO x = false ∧ E = 1 ∧ l' = l ∧ s' = s ∧ f' = f + 1 ∧ wait' = wait) ∨
  (okO x = true ∧ l = 0 ∧ E = 4 ∧ l' = l ∧ s' = s ∧ f' = f + 1 ∧ wait' = wait) ∨
  (okO x = true ∧ l ≠ 0 ∧ room < ((wait.length + 1 : Nat) : Int) ∧ E = 3 ∧ l' = l ∧ s' = s ∧ f' = f + 1 ∧ wait' = wait) ∨
  (okO x = true ∧ l ≠ 0 ∧ ((wait.length + 1 : Nat) : Int) ≤ room ∧ E = 0 ∧ l' = l - 1 ∧ s' = s + 1 ∧ f' = f ∧ wait' = wait ++ [ownI n x])
theorem off_ex (n : Nat) (room : Int) (x : Inp) (l s f : Int) (wait : List Inp) : ∃ E l' s' f' wait', Off n room x l s f wait E l' s' f' wait' := by
  unfold Off
  by_cases h1 : okO x = true
  · by_cases h2 : l = 0
    · exact ⟨_, _, _, _, _, .inr (.inl ⟨h1, h2, rfl, rfl, rfl, rfl, rfl⟩)⟩
    · by_cases h3 : room < ((wait.length + 1 : Nat) : Int)
      · exact ⟨_, _, _, _, _, .inr (.inr (.inl ⟨h1, h2, h3, rfl, rfl, rfl, rfl, rfl⟩))⟩
      · exact ⟨_, _, _, _, _, .inr (.inr (.inr ⟨h1, h2, by omega, rfl, rfl, rfl, rfl, rfl⟩))⟩
  · exact ⟨_, _, _, _, _, .inl ⟨by simpa using h1, rfl, rfl, rfl, rfl, rfl⟩⟩
theorem lit_rdi (w : World) (x : Inp) (hx : x.e.l < 18446744073709551616) (g : Nat) (hg : w.heap.size = g) : RdI (w.alloc (.cells #[.bool x.mrk, .int .i64 x.e.t, .int .i64 x.e.k, .int .i64 x.e.v, .int .u64 x.e.l] 31)) (.slice (some ⟨g, 0, none⟩) 1 1) g [x] := by
  subst hg
  exact rdi_lit w [x] (by simp) (Labl.one hx)
theorem ownI_lt (n : Nat) (hn : n < 8) (x : Inp) : (ownI n x).e.l < 18446744073709551616 := by
  unfold ownI
  split
  · show 0 < 18446744073709551616
    decide
  · exact Nat.lt_of_le_of_lt (Nat.pow_le_pow_right (by decide) (show n ≤ 7 by omega)) (by decide)
set_option maxHeartbeats 2000000 in
set_option maxRecDepth 100000 in
/-- Cell.Offer. -/
theorem offer_is {W0 : World} {us : List Th} {c n : Nat} {p : Pq} {l s f : Int} {wait taken : List Inp} (room : Int) (x : Inp) (w : World) (hS : St W0 w (cel c p (n : Nat) l s f wait taken :: us)) (hn : n < 8) (hl : 0 ≤ l ∧ l ≤ 1000000) (hs : 0 ≤ s ∧ s ≤ 1000000) (hf : 0 ≤ f ∧ f ≤ 1000000) (hw : wait.length ≤ 10000)
    (E l' s' f' : Int) (wait' : List Inp) (hE : Off n room x l s f wait E l' s' f' wait') :
    Calls Try.prog 10 #[.pointer (some ⟨c, 0, none⟩), .int .i64 room, inv x] w fun e w' => e = .returned (.int .i64 E) ∧ St W0 w' (cel c p (n : Nat) l' s' f' wait' taken :: us) := by
  obtain ⟨v, b, vr, vt, hO⟩ := hS.opn
  have hE' : Hid (Off n room x l s f wait E l' s' f' wait') := hE
  have hl' : Hid (0 ≤ l ∧ l ≤ 1000000) := hl
  have hs' : Hid (0 ≤ s ∧ s ≤ 1000000) := hs
  have hf' : Hid (0 ≤ f ∧ f ≤ 1000000) := hf
  have hw' : Hid (wait.length ≤ 10000) := hw
  clear hE hl hs hf hw hS
  obtain ⟨ok, hok⟩ : ∃ ok, Hid (okO x = ok) := ⟨_, rfl⟩
  go_enter Try.func10, Try.ntmps10
  go_upto_region 1 with fail
  refine world_gen (fun W => Hid (St W0 W (cb c l s f v b (n : Nat) vr vt :: inl v wait :: rnt b p (stR p r0 taken) :: rwl vr (rowsR p r0 taken) :: inl vt taken :: us)) ∧ Hid (Ink W w.heap.size x)) ⟨hO.below (below_alloc _ _), ink_new _ _⟩ ?_
  clear hO
  rintro W ⟨hO, hi⟩
  generalize w.heap.size = g0 at *
  obtain ⟨c0, c1, c2, c3, c4⟩ := hi.out.c
  simp only [Nat.zero_add] at c0 c1 c2 c3 c4
  go_wp2_with fail
  refine (own_is c l s f v b n vr vt x _ hO.out.ck hn ok hok.out).mono ?_
  rintro e w1 ⟨rfl, hb1⟩
  obtain ⟨z, hz⟩ : ∃ z, Hid ((if ok = true then ownI n x else zeroI) = z) := ⟨_, rfl⟩
  rw [hz.out]
  have hO1 : Hid (St W0 w1 (cb c l s f v b (n : Nat) vr vt :: inl v wait :: rnt b p (stR p r0 taken) :: rwl vr (rowsR p r0 taken) :: inl vt taken :: us)) := hO.out.below hb1
  clear c0 c1 c2 c3 c4 hi hO hb1
  go_upto_region 2 with fail
  refine world_gen (fun W => Hid (St W0 W (blkT w1.heap.size (.cells #[.bool z.mrk, .int .i64 z.e.t, .int .i64 z.e.k, .int .i64 z.e.v, .int .u64 z.e.l] 31) :: cb c l s f v b (n : Nat) vr vt :: inl v wait :: rnt b p (stR p r0 taken) :: rwl vr (rowsR p r0 taken) :: inl vt taken :: us))) (hO1.out.newBlk _ _ rfl) ?_
  clear hO1
  rintro W2 hO
  generalize w1.heap.size = g1 at *
  cases ok with
  | false =>
    obtain ⟨rfl, rfl, rfl, rfl, rfl⟩ : E = 1 ∧ l' = l ∧ s' = s ∧ f' = f + 1 ∧ wait' = wait := by
      rcases hE'.out with h | h | h | h
      · exact h.2
      · have := hok.out; rw [h.1] at this; cases this
      · have := hok.out; rw [h.1] at this; cases this
      · have := hok.out; rw [h.1] at this; cases this
    clear hE'
    go_wp2_with fail
    refine (refused_is 1 _ hO.out.drop hf'.out).mono ?_
    rintro e w3 ⟨rfl, h⟩
    have hfin : Hid (St W0 w3 (cel c p (n : Nat) l' s' (f + 1) wait' taken :: us)) := St.cls h
    clear h hO
    go_wp2_with fail
    go_ret
    exact ⟨rfl, hfin.out⟩
  | true =>
    obtain ⟨c0, c1, c2⟩ : W2.cell? ⟨c, 0, none⟩ = some (.int .i64 l) ∧ W2.cell? ⟨c, 1, none⟩ = some (.int .i64 s) ∧ W2.cell? ⟨c, 2, none⟩ = some (.int .i64 f) := ⟨hO.out.drop.ck.c0, hO.out.drop.ck.c1, hO.out.drop.ck.c2⟩
    go_wp2_with fail
    refine (qleft_is l s f _).mono ?_
    rintro e w3 ⟨rfl, hb3⟩
    have hO3 : Hid (St W0 w3 (blkT g1 (.cells #[.bool z.mrk, .int .i64 z.e.t, .int .i64 z.e.k, .int .i64 z.e.v, .int .u64 z.e.l] 31) :: cb c l s f v b (n : Nat) vr vt :: inl v wait :: rnt b p (stR p r0 taken) :: rwl vr (rowsR p r0 taken) :: inl vt taken :: us)) := hO.out.below hb3
    clear hO hb3 c0 c1 c2
    by_cases hl0 : l = 0
    · obtain ⟨rfl, rfl, rfl, rfl, rfl⟩ : E = 4 ∧ l' = l ∧ s' = s ∧ f' = f + 1 ∧ wait' = wait := by
        rcases hE'.out with h | h | h | h
        · have := hok.out; rw [h.1] at this; cases this
        · exact h.2.2
        · exact absurd hl0 h.2.1
        · exact absurd hl0 h.2.1
      clear hE'
      subst hl0
      go_wp2_with fail
      refine (refused_is 4 _ hO3.out.drop hf'.out).mono ?_
      rintro e w4 ⟨rfl, h⟩
      have hfin : Hid (St W0 w4 (cel c p (n : Nat) 0 s' (f + 1) wait' taken :: us)) := St.cls h
      clear h hO3
      go_wp2_with fail
      go_ret
      exact ⟨rfl, hfin.out⟩
    have hlb : Hid ((l == 0) = false) := by
      have h : (l == 0) = false := by simpa using hl0
      exact h
    have hi2 : Hid (Ink w3 g1 z) := hO3.out.blk
    obtain ⟨ok2, wait1, hpush, hE2⟩ : ∃ ok2 wait1, Hid ((room < ((wait.length + [z].length : Nat) : Int) ∧ ok2 = false ∧ wait1 = wait) ∨ (((wait.length + [z].length : Nat) : Int) ≤ room ∧ ok2 = true ∧ wait1 = wait ++ [z])) ∧ Hid ((ok2 = false ∧ E = 3 ∧ l' = l ∧ s' = s ∧ f' = f + 1 ∧ wait' = wait1) ∨ (ok2 = true ∧ E = 0 ∧ l' = l - 1 ∧ s' = s + 1 ∧ f' = f ∧ wait' = wait1)) := by
      have hzz : ownI n x = z := hz.out
      rcases hE'.out with h | h | h | h
      · have := hok.out; rw [h.1] at this; cases this
      · exact absurd h.2.1 hl0
      · exact ⟨false, wait, .inl ⟨h.2.2.1, rfl, rfl⟩, .inl ⟨rfl, h.2.2.2⟩⟩
      · exact ⟨true, wait ++ [z], .inr ⟨h.2.2.1, rfl, rfl⟩, .inr ⟨rfl, h.2.2.2.1, h.2.2.2.2.1, h.2.2.2.2.2.1, h.2.2.2.2.2.2.1, hzz ▸ h.2.2.2.2.2.2.2⟩⟩
    have hzl : Hid (z.e.l < 18446744073709551616) := by
      have h : z.e.l < 18446744073709551616 := by
        have hzz : ownI n x = z := hz.out
        rw [← hzz]; exact ownI_lt n hn x
      exact h
    clear hE' hok hz
    have hlx := hlb.out
    go_upto_region 6 with fail
    clear hlx
    refine wp_region_held_drew (S := fun X => Ink X g1 z) (by kernel_rfl) hi2.out (fun hHeld => ?_)
    have hO4 : Hid (St W0 w3.drew (blkT g1 (.cells #[.bool z.mrk, .int .i64 z.e.t, .int .i64 z.e.k, .int .i64 z.e.v, .int .u64 z.e.l] 31) :: cb c l s f v b (n : Nat) vr vt :: inl v wait :: rnt b p (stR p r0 taken) :: rwl vr (rowsR p r0 taken) :: inl vt taken :: us)) := hO3.out.below (Below.refl _ _).drew
    clear hO3 hi2
    generalize w3.drew = V at hHeld hO4 ⊢
    refine take_at (i := 0) (v := .pointer (some ⟨c, 0, none⟩)) rfl rfl (by kernel_rfl) (by kernel_rfl) (by kernel_rfl) (fun _ _ _ h => h) (Or.inl ⟨by rfl, fun X _ => by go_simp⟩) hHeld ?_
    try simp only [Act.put, List.setIfInBounds_toArray, List.set_cons_zero, List.set_cons_succ]
    refine take_at (i := 1) (v := .pointer (some ⟨c, 0, none⟩)) rfl rfl (by kernel_rfl) (by kernel_rfl) (by kernel_rfl) (fun _ _ _ h => h) (Or.inl ⟨by rfl, fun X _ => by go_simp⟩) hHeld ?_
    try simp only [Act.put, List.setIfInBounds_toArray, List.set_cons_zero, List.set_cons_succ]
    refine take_at (i := 2) (v := .pointer (some ⟨c, 3, none⟩)) rfl rfl (by kernel_rfl) (by kernel_rfl) (by kernel_rfl) (fun _ _ _ h => h) (Or.inl ⟨by rfl, fun X _ => by go_simp⟩) hHeld ?_
    try simp only [Act.put, List.setIfInBounds_toArray, List.set_cons_zero, List.set_cons_succ]
    refine take_at (i := 3) (v := .int .i64 room) rfl rfl (by kernel_rfl) (by kernel_rfl) (by kernel_rfl) (fun _ _ _ h => h) (Or.inl ⟨by rfl, fun X _ => by go_simp⟩) hHeld ?_
    try simp only [Act.put, List.setIfInBounds_toArray, List.set_cons_zero, List.set_cons_succ]
    refine take_at (i := 4) (v := inv z) rfl rfl (by kernel_rfl) (by kernel_rfl) (by kernel_rfl) (fun _ _ _ h => h) (Or.inl ⟨by rfl, fun X hX => by obtain ⟨k0, k1, k2, k3, k4⟩ := hX.c; simp only [Nat.zero_add] at k0 k1 k2 k3 k4; go_simp⟩) hHeld ?_
    try simp only [Act.put, List.setIfInBounds_toArray, List.set_cons_zero, List.set_cons_succ]
    refine wpAnyH_ready (rs := [5]) (by kernel_rfl) (by simp) ?_
    refine AllReadyH.cons rfl (fun K hK => ?_) AllReadyH.nil
    rw [if_pos (by rfl)]
    go_simp
    have hO5 : Hid (St W0 (V.alloc (.cells #[.bool z.mrk, .int .i64 z.e.t, .int .i64 z.e.k, .int .i64 z.e.v, .int .u64 z.e.l] 31)) (cb c l s f v b (n : Nat) vr vt :: inl v wait :: blkT g1 (.cells #[.bool z.mrk, .int .i64 z.e.t, .int .i64 z.e.k, .int .i64 z.e.v, .int .u64 z.e.l] 31) :: rnt b p (stR p r0 taken) :: rwl vr (rowsR p r0 taken) :: inl vt taken :: us)) := (hO4.out.below (below_alloc _ _)).perm (perm_pop _ _ _ _)
    have hrd : Hid (RdI (V.alloc (.cells #[.bool z.mrk, .int .i64 z.e.t, .int .i64 z.e.k, .int .i64 z.e.v, .int .u64 z.e.l] 31)) (.slice (some ⟨V.heap.size, 0, none⟩) 1 1) V.heap.size [z]) := lit_rdi V z hzl.out _ rfl
    clear hO4
    refine hK.out _ _ (hHeld.kept (below_alloc _ _)) (fun hHeld => ?_)
    clear hK K
    try simp only [Act.put, List.setIfInBounds_toArray, List.set_cons_zero, List.set_cons_succ]
    generalize V.alloc (.cells #[.bool z.mrk, .int .i64 z.e.t, .int .i64 z.e.k, .int .i64 z.e.v, .int .u64 z.e.l] 31) = V2 at *
    generalize V.heap.size = gv at *
    refine wpAnyH_ready (rs := [6]) (by kernel_rfl) (by simp) ?_
    refine AllReadyH.cons rfl (fun K hK => ?_) AllReadyH.nil
    rw [if_pos (by rfl)]
    go_wp2_with fail
    refine (push_is room (.slice (some ⟨gv, 0, none⟩) 1 1) gv [z] _ hO5.out hrd.out (by have := hw'.out; simp; omega) wait1 ok2 hpush.out).mono ?_
    rintro e V3 ⟨rfl, v', hO6⟩
    have hO7 : Hid (St W0 V3 (blkT g1 (.cells #[.bool z.mrk, .int .i64 z.e.t, .int .i64 z.e.k, .int .i64 z.e.v, .int .u64 z.e.l] 31) :: cb c l s f v' b (n : Nat) vr vt :: inl v' wait1 :: rnt b p (stR p r0 taken) :: rwl vr (rowsR p r0 taken) :: inl vt taken :: us)) := hO6.perm (perm_pop2 _ _ _ _)
    have hh : Ink V3 g1 z := hO7.out.blk
    clear hHeld hO5 hO6 hrd
    go_wp2_with fail
    refine hK.out _ _ (hh) (fun hHeld => ?_)
    clear hK K
    try simp only [Act.put, List.setIfInBounds_toArray, List.set_cons_zero, List.set_cons_succ]
    refine take_at (i := 7) (v := .bool (!ok2)) rfl rfl (by kernel_rfl) (by kernel_rfl) (by kernel_rfl) (fun _ _ _ h => h) (Or.inl ⟨by rfl, fun X _ => by go_simp⟩) hHeld ?_
    try simp only [Act.put, List.setIfInBounds_toArray, List.set_cons_zero, List.set_cons_succ]
    refine take_at (i := 8) (v := .bool (!ok2)) rfl rfl (by kernel_rfl) (by kernel_rfl) (by kernel_rfl) (fun _ _ _ h => h) (Or.inl ⟨by rfl, fun X _ => by go_simp⟩) hHeld ?_
    try simp only [Act.put, List.setIfInBounds_toArray, List.set_cons_zero, List.set_cons_succ]
    refine wpAnyH_done (by kernel_rfl) ?_ _
    have hO8 : Hid (St W0 V3 (cb c l s f v' b (n : Nat) vr vt :: inl v' wait1 :: rnt b p (stR p r0 taken) :: rwl vr (rowsR p r0 taken) :: inl vt taken :: us)) := hO7.out.drop
    clear hO7 hh hHeld
    cases ok2 with
    | false =>
      obtain ⟨rfl, rfl, rfl, rfl, rfl⟩ : E = 3 ∧ l' = l ∧ s' = s ∧ f' = f + 1 ∧ wait' = wait1 := by
        rcases hE2.out with h | h
        · exact h.2
        · exact absurd h.1 (by decide)
      clear hE2 hpush
      go_wp2_with fail
      refine (refused_is 3 _ hO8.out hf'.out).mono ?_
      rintro e w4 ⟨rfl, h⟩
      have hfin : Hid (St W0 w4 (cel c p (n : Nat) l' s' (f + 1) wait' taken :: us)) := St.cls h
      clear h hO8
      go_wp2_with fail
      go_ret
      exact ⟨rfl, hfin.out⟩
    | true =>
      obtain ⟨rfl, rfl, rfl, rfl, rfl⟩ : E = 0 ∧ l' = l - 1 ∧ s' = s + 1 ∧ f' = f ∧ wait' = wait1 := by
        rcases hE2.out with h | h
        · exact absurd h.1 (by decide)
        · exact h.2
      clear hE2 hpush
      go_wp2_with fail
      refine (spend_is (.slice (some ⟨V3.heap.size, 0, none⟩) 1 1) _ (hO8.out.below (below_alloc _ _)) (rd_lit V3 [1] (by simp)) ⟨by have := hl'.out; omega, hl'.out.2⟩ hs'.out).mono ?_
      rintro e w4 ⟨rfl, h⟩
      have hfin : Hid (St W0 w4 (cel c p (n : Nat) (l - 1) (s + 1) f' wait' taken :: us)) := St.cls h
      clear h hO8
      go_wp2_with fail
      go_ret
      exact ⟨rfl, hfin.out⟩
set_option maxHeartbeats 1000000 in
set_option maxRecDepth 100000 in
/-- Cell.Feed. -/
theorem feed_is {W0 : World} {us : List Th} {c : Nat} {p : Pq} {i l s f : Int} {wait taken : List Inp} (x : Ev) (w : World) (hS : St W0 w (cel c p i l s f wait taken :: us)) (hx : x.l < 18446744073709551616) (hw : wait.length ≤ 10000)
    (wait' : List Inp) (hE : (rightE x = true ∧ wait' = wait ++ [⟨false, x⟩]) ∨ (rightE x = false ∧ wait' = wait)) :
    Calls Try.prog 18 #[.pointer (some ⟨c, 0, none⟩), evv x] w fun e w' => e = .returned (.tuple #[]) ∧ St W0 w' (cel c p i l s f wait' taken :: us) := by
  obtain ⟨v, b, vr, vt, hO⟩ := hS.opn
  have hE' : Hid ((rightE x = true ∧ wait' = wait ++ [⟨false, x⟩]) ∨ (rightE x = false ∧ wait' = wait)) := hE
  have hw' : Hid (wait.length ≤ 10000) := hw
  have hx' : Hid (x.l < 18446744073709551616) := hx
  clear hE hw hS hx
  obtain ⟨t, k, y, lb⟩ := x
  simp only [evv]
  go_enter Try.func18, Try.ntmps18
  go_upto_region 1 with fail
  refine world_gen (fun W => Hid (St W0 W (blkT w.heap.size (.cells #[.int .i64 t, .int .i64 k, .int .i64 y, .int .u64 lb] 29) :: cb c l s f v b i vr vt :: inl v wait :: rnt b p (stR p r0 taken) :: rwl vr (rowsR p r0 taken) :: inl vt taken :: us))) (hO.newBlk _ _ rfl) ?_
  clear hO
  rintro W hO
  generalize w.heap.size = g1 at *
  have hi : Hid (Evk W g1 ⟨t, k, y, lb⟩) := hO.out.blk
  obtain ⟨c0, c1, c2, c3⟩ := hi.out.c
  obtain ⟨ok, hok⟩ : ∃ ok, Hid (rightE ⟨t, k, y, lb⟩ = ok) := ⟨_, rfl⟩
  go_wp2_with fail
  refine (eright_is ⟨t, k, y, lb⟩ _ ok hok.out).mono ?_
  rintro e w3 ⟨rfl, hb3⟩
  have hO3 : Hid (St W0 w3 (blkT g1 (.cells #[.int .i64 t, .int .i64 k, .int .i64 y, .int .u64 lb] 29) :: cb c l s f v b i vr vt :: inl v wait :: rnt b p (stR p r0 taken) :: rwl vr (rowsR p r0 taken) :: inl vt taken :: us)) := hO.out.below hb3
  clear c0 c1 c2 c3 hi hO hb3
  cases ok with
  | false =>
    obtain rfl : wait' = wait := by
      rcases hE'.out with h | h
      · have := hok.out; rw [h.1] at this; cases this
      · exact h.2
    have hfin : Hid (St W0 w3 (cel c p i l s f wait' taken :: us)) := St.cls hO3.out.drop
    clear hO3 hE'
    go_wp2_with fail
    go_end0
    exact ⟨rfl, hfin.out⟩
  | true =>
    obtain rfl : wait' = wait ++ [⟨false, ⟨t, k, y, lb⟩⟩] := by
      rcases hE'.out with h | h
      · exact h.2
      · have := hok.out; rw [h.1] at this; cases this
    clear hE'
    have hi2 : Hid (Evk w3 g1 ⟨t, k, y, lb⟩) := hO3.out.blk
    go_upto_region 2 with fail
    refine wp_region_held_drew (S := fun X => Evk X g1 ⟨t, k, y, lb⟩) (by kernel_rfl) hi2.out (fun hHeld => ?_)
    have hO4 : Hid (St W0 w3.drew (blkT g1 (.cells #[.int .i64 t, .int .i64 k, .int .i64 y, .int .u64 lb] 29) :: cb c l s f v b i vr vt :: inl v wait :: rnt b p (stR p r0 taken) :: rwl vr (rowsR p r0 taken) :: inl vt taken :: us)) := hO3.out.below (Below.refl _ _).drew
    clear hO3 hi2
    generalize w3.drew = V at hHeld hO4 ⊢
    refine take_at (i := 0) (v := .pointer (some ⟨c, 0, none⟩)) rfl rfl (by kernel_rfl) (by kernel_rfl) (by kernel_rfl) (fun _ _ _ h => h) (Or.inl ⟨by rfl, fun X _ => by go_simp⟩) hHeld ?_
    try simp only [Act.put, List.setIfInBounds_toArray, List.set_cons_zero, List.set_cons_succ]
    refine take_at (i := 1) (v := .pointer (some ⟨c, 0, none⟩)) rfl rfl (by kernel_rfl) (by kernel_rfl) (by kernel_rfl) (fun _ _ _ h => h) (Or.inl ⟨by rfl, fun X _ => by go_simp⟩) hHeld ?_
    try simp only [Act.put, List.setIfInBounds_toArray, List.set_cons_zero, List.set_cons_succ]
    refine take_at (i := 2) (v := .pointer (some ⟨c, 3, none⟩)) rfl rfl (by kernel_rfl) (by kernel_rfl) (by kernel_rfl) (fun _ _ _ h => h) (Or.inl ⟨by rfl, fun X _ => by go_simp⟩) hHeld ?_
    try simp only [Act.put, List.setIfInBounds_toArray, List.set_cons_zero, List.set_cons_succ]
    refine take_at (i := 3) (v := .agg #[.int .i64 t, .int .i64 k, .int .i64 y, .int .u64 lb]) rfl rfl (by kernel_rfl) (by kernel_rfl) (by kernel_rfl) (fun _ _ _ h => h) (Or.inl ⟨by rfl, fun X hX => by obtain ⟨k0, k1, k2, k3⟩ := hX.c; go_simp⟩) hHeld ?_
    try simp only [Act.put, List.setIfInBounds_toArray, List.set_cons_zero, List.set_cons_succ]
    refine take_at (i := 4) (v := inv ⟨false, ⟨t, k, y, lb⟩⟩) rfl rfl (by kernel_rfl) (by kernel_rfl) (by kernel_rfl) (fun _ _ _ h => h) (Or.inl ⟨by rfl, fun X _ => by go_simp⟩) hHeld ?_
    try simp only [Act.put, List.setIfInBounds_toArray, List.set_cons_zero, List.set_cons_succ]
    refine wpAnyH_ready (rs := [5]) (by kernel_rfl) (by simp) ?_
    refine AllReadyH.cons rfl (fun K hK => ?_) AllReadyH.nil
    rw [if_pos (by rfl)]
    go_simp
    have hO5 : Hid (St W0 (V.alloc (.cells #[.bool false, .int .i64 t, .int .i64 k, .int .i64 y, .int .u64 lb] 31)) (cb c l s f v b i vr vt :: inl v wait :: blkT g1 (.cells #[.int .i64 t, .int .i64 k, .int .i64 y, .int .u64 lb] 29) :: rnt b p (stR p r0 taken) :: rwl vr (rowsR p r0 taken) :: inl vt taken :: us)) := (hO4.out.below (below_alloc _ _)).perm (perm_pop _ _ _ _)
    have hrd : Hid (RdI (V.alloc (.cells #[.bool false, .int .i64 t, .int .i64 k, .int .i64 y, .int .u64 lb] 31)) (.slice (some ⟨V.heap.size, 0, none⟩) 1 1) V.heap.size [⟨false, ⟨t, k, y, lb⟩⟩]) := lit_rdi V ⟨false, ⟨t, k, y, lb⟩⟩ hx'.out _ rfl
    clear hO4
    refine hK.out _ _ (hHeld.below (below_alloc _ _)) (fun hHeld => ?_)
    clear hK K
    try simp only [Act.put, List.setIfInBounds_toArray, List.set_cons_zero, List.set_cons_succ]
    generalize V.alloc (.cells #[.bool false, .int .i64 t, .int .i64 k, .int .i64 y, .int .u64 lb] 31) = V2 at *
    generalize V.heap.size = gv at *
    refine wpAnyH_ready (rs := [6]) (by kernel_rfl) (by simp) ?_
    refine AllReadyH.cons rfl (fun K hK => ?_) AllReadyH.nil
    rw [if_pos (by rfl)]
    go_wp2_with fail
    refine (push_is 9223372036854775807 (.slice (some ⟨gv, 0, none⟩) 1 1) gv [⟨false, ⟨t, k, y, lb⟩⟩] _ hO5.out hrd.out (by have := hw'.out; simp; omega) (wait ++ [⟨false, ⟨t, k, y, lb⟩⟩]) true (.inr ⟨by have := hw'.out; simp; omega, rfl, rfl⟩)).mono ?_
    rintro e V3 ⟨rfl, v', hO6⟩
    have hO7 : Hid (St W0 V3 (blkT g1 (.cells #[.int .i64 t, .int .i64 k, .int .i64 y, .int .u64 lb] 29) :: cb c l s f v' b i vr vt :: inl v' (wait ++ [⟨false, ⟨t, k, y, lb⟩⟩]) :: rnt b p (stR p r0 taken) :: rwl vr (rowsR p r0 taken) :: inl vt taken :: us)) := hO6.perm (perm_pop2 _ _ _ _)
    have hh : Evk V3 g1 ⟨t, k, y, lb⟩ := hO7.out.blk
    clear hHeld hO5 hO6 hrd
    go_wp2_with fail
    refine hK.out _ _ (hh) (fun hHeld => ?_)
    clear hK K
    try simp only [Act.put, List.setIfInBounds_toArray, List.set_cons_zero, List.set_cons_succ]
    refine wpAnyH_done (by kernel_rfl) ?_ _
    have hfin : Hid (St W0 V3 (cel c p i l s f (wait ++ [⟨false, ⟨t, k, y, lb⟩⟩]) taken :: us)) := St.cls hO7.out.drop
    clear hO7 hh hHeld
    go_wp2_with fail
    go_end0
    exact ⟨rfl, hfin.out⟩
end Go.Proofs.Ytnamjnopicghhaa
/- Serve, Count, Taken, Rows of a Cell. -/
namespace Go.Proofs.Ytnamjnopicghhaa
open Go.RowKit M
open O.MO (Oq Pq rightP)
set_option linter.unusedVariables false
set_option linter.unusedSimpArgs false
attribute [local go_sem ↓] Go.wp_at_zero Go.wp_at_succ

/-- The first ones of n, none where n is below 0. -/
def Fst (nn : Int) (L k : Nat) : Prop := (nn < 0 ∧ k = 0) ∨ (0 ≤ nn ∧ nn ≤ ((L : Nat) : Int) ∧ nn = (k : Nat)) ∨ (((L : Nat) : Int) < nn ∧ k = L)
theorem fst_ex (nn : Int) (L : Nat) : ∃ k, Fst nn L k := by
  unfold Fst
  by_cases h : nn < 0
  · exact ⟨0, .inl ⟨h, rfl⟩⟩
  · by_cases h2 : nn ≤ (L : Int)
    · exact ⟨nn.toNat, .inr (.inl ⟨by omega, h2, by omega⟩)⟩
    · exact ⟨L, .inr (.inr ⟨by omega, rfl⟩)⟩
theorem Fst.le {nn : Int} {L k : Nat} (h : Fst nn L k) : k ≤ L := by unfold Fst at h; omega
section
variable {W0 : World} {us : List Th} {c : Nat} {p : Pq} {i l s f : Int} {wait taken : List Inp}
/-- Taken is appended. -/
theorem taken_mid {W0 w w1 : World} {us : List Th} {c : Nat} {l s f : Int} {v : Value} {b : Nat} {i : Int} {vr vt v1 : Value} {L L1 : List Inp} (h : St W0 w (cb c l s f v b i vr vt :: inl vt L :: us)) (hq1 : Qv w1 v1 L1) (hl1 : Labl L1) (hg1 : w.grownBy w1 vt.ownBlock) (hf1 : ∀ k, v1.ownBlock = some k → vt.ownBlock = some k ∨ w.heap.size ≤ k) :
    ∃ a1 n1 x1, v1 = .slice a1 n1 x1 ∧ w1.cell? ⟨c, 7, none⟩ = some vt ∧ w1.frozen? ⟨c, 7, none⟩ = false ∧ Hid (St W0 (w1.setCell ⟨c, 7, none⟩ v1) (cb c l s f v b i vr v1 :: inl v1 L1 :: us)) := by
  have h1 : St W0 w1 (inl v1 L1 :: cb c l s f v b i vr vt :: us) := h.sw.grow hq1 hl1 hg1 hf1
  have h2 := h1.sw
  obtain ⟨a1, x1, e, _⟩ := hq1.len
  exact ⟨a1, _, x1, e, h2.ck.c7, h2.ck.free 7, h2.setC _ _ (h2.ck.set7 _)⟩
theorem rows_mid {W0 w w1 : World} {us : List Th} {c : Nat} {l s f : Int} {v : Value} {b : Nat} {i : Int} {vr vt v1 : Value} {L L1 : List Pn} (h : St W0 w (cb c l s f v b i vr vt :: rwl vr L :: us)) (hq1 : w1.ownsRow 0 39 5 v1 L1.length (rcs L1)) (hg1 : w.grownBy w1 vr.ownBlock) (hf1 : ∀ k, v1.ownBlock = some k → vr.ownBlock = some k ∨ w.heap.size ≤ k) :
    ∃ a1 n1 x1, v1 = .slice a1 n1 x1 ∧ w1.cell? ⟨c, 6, none⟩ = some vr ∧ w1.frozen? ⟨c, 6, none⟩ = false ∧ Hid (St W0 (w1.setCell ⟨c, 6, none⟩ v1) (cb c l s f v b i v1 vt :: rwl v1 L1 :: us)) := by
  have h1 : St W0 w1 (rwl v1 L1 :: cb c l s f v b i vr vt :: us) := h.sw.growr hq1 hg1 hf1
  have h2 := h1.sw
  obtain ⟨a1, l1, x1, e⟩ := own_slice hq1
  exact ⟨a1, _, x1, e, h2.ck.c6, h2.ck.free 6, h2.setC _ _ (h2.ck.set6 _)⟩
theorem own_len' {w : World} {B : Nat} {e : TypeId} {size n : Nat} {v : Value} {xs : List Value} (h : w.ownsRow B e size v n xs) : ∃ a c, v = .slice a n c := by
  obtain ⟨h1, h | ⟨g, cap, cur, rfl, h2, hh, r⟩⟩ := h
  · obtain ⟨rfl, rfl⟩ := h
    exact ⟨none, 0, rfl⟩
  · exact ⟨_, _, rfl⟩
theorem rw_src {w : World} {v : Value} {R : List Pn} (h : w.ownsRow 0 39 5 v R.length (rcs R)) : SrcN 5 w v R.length (rcs R) := srcN_own h
set_option maxHeartbeats 2000000 in
set_option maxRecDepth 100000 in
/-- Cell.Serve. -/
theorem serve_is (nn : Int) (w : World) (hS : St W0 w (cel c p i l s f wait taken :: us)) (k : Nat) (hk : Fst nn wait.length k) (hw : wait.length + taken.length ≤ 10000) :
    Calls Try.prog 11 #[.pointer (some ⟨c, 0, none⟩), .int .i64 nn] w fun e w' => ∃ u, e = .returned u ∧ St W0 w' (rwl u (rowsR p (stR p r0 taken) (wait.take k)) :: cel c p i l s f (wait.drop k) (taken ++ wait.take k) :: us) := by
  obtain ⟨i0, hi, hz0, hz1, hz2⟩ := info_parts Try.info39
  obtain ⟨v, b, vr, vt, hO⟩ := hS.opn
  have hk' : Hid (Fst nn wait.length k) := hk
  have hw' : Hid (wait.length + taken.length ≤ 10000) := hw
  have hO' : Hid (St W0 w (cb c l s f v b i vr vt :: inl v wait :: rnt b p (stR p r0 taken) :: rwl vr (rowsR p r0 taken) :: inl vt taken :: us)) := hO
  clear hk hw hS hO
  obtain ⟨js, hjs⟩ : ∃ js, Hid (wait.take k = js) := ⟨_, rfl⟩
  obtain ⟨rest, hrest⟩ : ∃ rest, Hid (wait.drop k = rest) := ⟨_, rfl⟩
  have hjl : Hid (js.length + taken.length ≤ 10000) := by
    have h : js.length + taken.length ≤ 10000 := by have := hw'.out; rw [← hjs.out, List.length_take]; omega
    exact h
  obtain ⟨r, hr⟩ : ∃ r, Hid (stR p r0 taken = r) := ⟨_, rfl⟩
  obtain ⟨R, hR⟩ : ∃ R, Hid (rowsR p r0 taken = R) := ⟨_, rfl⟩
  have hb : Hid (r.L.length + 8 * js.length ≤ 800000 ∧ (0 ≤ r.l ∧ r.l + js.length ≤ 1000000) ∧ (0 ≤ r.s ∧ r.s + js.length ≤ 1000000) ∧ R.length ≤ 80000 ∧ (rowsR p r js).length ≤ 200000) := by
    have h : r.L.length + 8 * js.length ≤ 800000 ∧ (0 ≤ r.l ∧ r.l + js.length ≤ 1000000) ∧ (0 ≤ r.s ∧ r.s + js.length ≤ 1000000) ∧ R.length ≤ 80000 ∧ (rowsR p r js).length ≤ 200000 := by
      have h1 := rows_len p taken
      have h2 := all_counts p taken r0
      have h3 := all_total p js (stR p r0 taken)
      have h4 := hjl.out
      simp only [r0] at h2
      rw [← hr.out, ← hR.out]
      simp only [r0] at h1 h3 ⊢
      omega
    exact h
  have hnew : Hid (rowsR p r0 (taken ++ js) = R ++ rowsR p r js ∧ stR p r0 (taken ++ js) = stR p r js) := by
    have h : rowsR p r0 (taken ++ js) = R ++ rowsR p r js ∧ stR p r0 (taken ++ js) = stR p r js := by rw [rowsR_append, stR_append, hr.out, hR.out]; exact ⟨rfl, rfl⟩
    exact h
  rw [hr.out, hR.out] at hO'
  rw [hr.out, hjs.out, hrest.out]
  go_enter Try.func11, Try.ntmps11
  go_wp2_with fail
  refine (pop_is nn _ hO'.out (by have := hw'.out; omega) k hk'.out).mono ?_
  rintro e w1 ⟨u, v1, rfl, hO1⟩
  rw [hjs.out, hrest.out] at hO1
  have hO2 : Hid (St W0 w1 (rnt b p r :: inl u js :: cb c l s f v1 b i vr vt :: inl v1 rest :: rwl vr R :: inl vt taken :: us)) := hO1.re [3, 0, 1, 2] 4
  clear hO' hO1
  have d4 := (hO2.out.re [2, 0, 1] 3).ck.c4
  go_upto_region 2 with fail
  go_wp2_with fail
  refine (rtake_st b p r u js _ hO2.out hb.out.1 hb.out.2.1 hb.out.2.2.1).mono ?_
  rintro e w2 ⟨q, rfl, hO3⟩
  have hO4 : Hid (St W0 w2 (cb c l s f v1 b i vr vt :: inl vt taken :: inl u js :: rwl q (rowsR p r js) :: rnt b p (stR p r js) :: inl v1 rest :: rwl vr R :: us)) := hO3.re [3, 6, 2, 0, 1, 4, 5] 7
  clear hO2 hO3 d4
  have d7 := hO4.out.ck.c7
  obtain ⟨qt, htl⟩ := (hO4.out.re [1, 0] 2).qv
  obtain ⟨qu, hul⟩ := (hO4.out.re [2, 0, 1] 3).qv
  obtain ⟨qb, hrd, hx1, hx2⟩ := qu.rdi hul 0
  clear hx1 hx2
  obtain ⟨ta, tc, rfl, ht1, ht2, ht3⟩ := qt.len
  obtain ⟨ua, uc, rfl, hu1, hu2, hu3⟩ := qu.len
  have hlab : Hid (Labl (taken ++ js)) := htl.app hul
  have hrd' : Hid (RdI w2 (.slice ua js.length uc) qb js) := hrd
  have hqt : Hid (Qv w2 (.slice ta taken.length tc) taken) := qt
  clear qt qu htl hul hrd ht3 hu3
  obtain ⟨nt, hnt⟩ : ∃ nt, Hid (taken.length = nt) := ⟨_, rfl⟩
  obtain ⟨nj, hnj⟩ : ∃ nj, Hid (js.length = nj) := ⟨_, rfl⟩
  rw [hnt.out] at d7 ht1 hqt
  rw [hnj.out] at hu1 hrd'
  rw [hnt.out, hnj.out] at hO4 hjl
  rw [hnj.out]
  go_upto_region 3 with fail
  go_upto_region 4 with (at_builtin; refine wpList_append_q (by rfl) _ _ rfl (.slice ta nt tc) taken rfl hqt.out (.slice ua nj uc) qb js rfl hrd'.out (by rw [hnt.out, hnj.out]; have := hjl.out; omega) ?_; rintro v3 w3 hq3 hg3 hf3; obtain ⟨a3, n3, x3, rfl, d0, f0, hO5⟩ := taken_mid hO4.out hq3 hlab.out hg3 hf3; clear hq3 hg3 hf3 d7 hqt hrd')
  clear d0 f0 hO4
  generalize w3.setCell ⟨c, 7, none⟩ (.slice a3 n3 x3) = w4 at *
  have hO6 : Hid (St W0 w4 (cb c l s f v1 b i vr (.slice a3 n3 x3) :: rwl vr R :: rwl q (rowsR p r js) :: inl (.slice a3 n3 x3) (taken ++ js) :: rnt b p (stR p r js) :: inl v1 rest :: us)) := (hO5.out.re [0, 6, 3, 1, 4, 5, 2] 7).rm 6
  clear hO5
  have d6 := hO6.out.ck.c6
  have hr1 := (hO6.out.re [1, 0] 2).rw
  have hr2 := (hO6.out.re [2, 0, 1] 3).rw
  obtain ⟨ra, rl, rc, rfl⟩ := own_slice hr1
  obtain ⟨qa, ql, qc, rfl⟩ := own_slice hr2
  have hr1' : Hid (w4.ownsRow 0 39 5 (.slice ra rl rc) R.length (rcs R)) := hr1
  have hr2' : Hid (w4.ownsRow 0 39 5 (.slice qa ql qc) (rowsR p r js).length (rcs (rowsR p r js))) := hr2
  obtain ⟨N, hN⟩ : ∃ N, Hid (rowsR p r js = N) := ⟨_, rfl⟩
  have hb2 : R.length ≤ 80000 ∧ N.length ≤ 200000 := by have := hb.out; rw [hN.out] at this; exact this.2.2.2
  have hN2 : Hid (rowsR p r0 (taken ++ js) = R ++ N) := by
    have h : rowsR p r0 (taken ++ js) = R ++ N := by rw [hnew.out.1, hN.out]
    exact h
  rw [hN.out] at hr2' hO6
  clear hr1 hr2
  go_upto_region 5 with (at_builtin; refine wpList_append_srcF _ (by rfl) _ _ 34 rfl 5 0 39 i0 rzero 40 Try.underlying34 hi hz0 hz1 hz2 rfl (by decide) (.slice ra rl rc) R.length (rcs R) rfl hr1'.out (.slice qa ql qc) N.length (rcs N) rfl (srcN_own hr2'.out) (rcs_one _) (by unfold maxLen; omega) (by omega) (by omega) ?_; rintro v5 w5 hq5 _ hg5 hf5; obtain ⟨a5, n5, x5, rfl, d0, f0, hO7⟩ := rows_mid (L1 := R ++ N) hO6.out (by rw [rcs_append, List.length_append]; exact hq5) hg5 hf5; clear hq5 hg5 hf5 d6 hr1' hr2')
  clear d0 f0 hO6
  have hfin : Hid (St W0 (w5.setCell ⟨c, 6, none⟩ (.slice a5 n5 x5)) (rwl (.slice qa ql qc) N :: cel c p i l s f rest (taken ++ js) :: us)) := by
    have h : St W0 (w5.setCell ⟨c, 6, none⟩ (.slice a5 n5 x5)) (rwl (.slice qa ql qc) N :: cel c p i l s f rest (taken ++ js) :: us) := by
      have h1 := hO7.out.re [0, 5, 4, 1, 3, 2] 6
      have h2 : St W0 (w5.setCell ⟨c, 6, none⟩ (.slice a5 n5 x5)) (cb c l s f v1 b i (.slice a5 n5 x5) (.slice a3 n3 x3) :: inl v1 rest :: rnt b p (stR p r0 (taken ++ js)) :: rwl (.slice a5 n5 x5) (rowsR p r0 (taken ++ js)) :: inl (.slice a3 n3 x3) (taken ++ js) :: rwl (.slice qa ql qc) N :: us) := by
        rw [hnew.out.2, hN2.out]; exact h1
      exact St.sw h2.cls
    exact h
  clear hO7
  rw [← hN.out] at hfin
  go_wp2_with fail
  go_ret
  exact ⟨_, rfl, hfin.out⟩
/-- Cell.Count. -/
theorem count_is (w : World) (hS : St W0 w (cel c p i l s f wait taken :: us)) :
    Calls Try.prog 26 #[.pointer (some ⟨c, 0, none⟩)] w fun e w' => e = .returned (.int .i64 ((rowsR p r0 taken).length : Nat)) ∧ w' = w := by
  obtain ⟨v, b, vr, vt, hO⟩ := hS.opn
  have d6 := hO.ck.c6
  have hr := (hO.re [3, 0, 1, 2] 4).rw
  obtain ⟨ra, rc, rfl⟩ := own_len' hr
  generalize (rowsR p r0 taken).length = n at *
  clear hO hr hS
  go_enter Try.func26, Try.ntmps26
  go_wp2
  go_ret
  exact ⟨rfl, rfl⟩
/-- Cell.Taken. -/
theorem takenl_is (w : World) (hS : St W0 w (cel c p i l s f wait taken :: us)) (hl : taken.length ≤ 100000) :
    Calls Try.prog 25 #[.pointer (some ⟨c, 0, none⟩)] w fun e w' => ∃ u, e = .returned u ∧ St W0 w' (inl u taken :: cel c p i l s f wait taken :: us) ∧ Below w.heap.size w w' := by
  obtain ⟨v, b, vr, vt, hO⟩ := hS.opn
  have d7 := hO.ck.c7
  obtain ⟨qt, htl⟩ := (hO.re [4, 0, 1, 2, 3] 5).qv
  obtain ⟨qb, hrd, hx1, hx2⟩ := qt.rdi htl 0
  have hS' : Hid (St W0 w (cel c p i l s f wait taken :: us)) := hS
  have hlab : Hid (Labl taken) := htl
  clear hx1 hx2 hO qt htl hS
  go_enter Try.func25, Try.ntmps25
  go_wp2_with fail
  refine (ccopy_is vt qb taken _ hrd (by omega)).mono ?_
  rintro e w1 ⟨u, rfl, hu, hb, hf⟩
  have hS2 : Hid (St W0 w1 (inl u taken :: cel c p i l s f wait taken :: us)) := hS'.out.newl hb hu hlab.out hf
  go_wp2_with fail
  go_ret
  exact ⟨_, rfl, hS2.out, hb⟩
end
end Go.Proofs.Ytnamjnopicghhaa
/- Rows of a Cell: copies of a part of its rows. -/
namespace Go.Proofs.Ytnamjnopicghhaa
open Go.RowKit M
open O.MO (Oq Pq rightP)
set_option linter.unusedVariables false
set_option linter.unusedSimpArgs false
attribute [local go_sem ↓] Go.wp_at_zero Go.wp_at_succ

theorem rcs_drop : ∀ (es : List Pn) (i : Nat), rcs (es.drop i) = (rcs es).drop (i * 5)
  | [], i => by simp [rcs]
  | e :: r, 0 => by simp
  | e :: r, i + 1 => by
    have e1 : rcs (e :: r) = rcell e ++ rcs r := by simp [rcs]
    rw [List.drop_succ_cons, rcs_drop r i, e1, show (i + 1) * 5 = 5 + i * 5 by omega, ← List.drop_drop]
    rfl
theorem rcs_take : ∀ (es : List Pn) (i : Nat), rcs (es.take i) = (rcs es).take (i * 5)
  | [], i => by simp [rcs]
  | e :: r, 0 => by simp [rcs]
  | e :: r, i + 1 => by
    have e1 : rcs (e :: r) = rcell e ++ rcs r := by simp [rcs]
    have e2 : rcs (e :: r.take i) = rcell e ++ rcs (r.take i) := by simp [rcs]
    rw [List.take_succ_cons, e2, rcs_take r i, e1, show (i + 1) * 5 = (rcell e).length + i * 5 by show _ = 5 + i * 5; omega, List.take_length_add_append]
/-- A part of a list of rows, read. -/
theorem rows_part {w : World} {ao : Option Addr} {n cap : Nat} {R : List Pn} (h : w.ownsRow 0 39 5 (.slice ao n cap) n (rcs R)) (hn : n = R.length) (F m : Nat) (hm : F + m ≤ n) (ao' : Option Addr) (ha : ao' = if cap - F = 0 then ao else ao.map (fun x => x.add (F * 5))) :
    SrcN 5 w (.slice ao' m (cap - F)) m (rcs ((R.drop F).take m)) := by
  have h' := h
  obtain ⟨_, h0 | ⟨g, cap', cur, e, hb, hh, hnn, hmx, hs, ht⟩⟩ := h
  · obtain ⟨e, h0⟩ := h0
    cases e
    have : m = 0 := by omega
    subst this
    exact .inl ⟨by subst ha; simp, rfl, by simp [rcs]⟩
  · cases e
    have hlen : (rcs ((R.drop F).take m)).length = m * 5 := by rw [rcs_len, List.length_take, List.length_drop]; congr 1; omega
    by_cases hc : cap - F = 0
    · have : m = 0 := by omega
      subst this
      rw [if_pos hc] at ha
      subst ha
      exact .inr ⟨_, _, rfl, by simp [rcs], fun j x hj => by simp [rcs] at hj⟩
    · rw [if_neg hc] at ha
      have e1 : (some (⟨g, 0, none⟩ : Addr)).map (fun x => x.add (F * 5)) = some ⟨g, F * 5, none⟩ := by simp [Addr.add_lit]
      rw [e1] at ha
      subst ha
      refine .inr ⟨_, _, rfl, hlen, fun j x hj => ?_⟩
      have hjl := (List.getElem?_eq_some_iff.1 hj).1
      rw [hlen] at hjl
      have hx := h'.cellAt (F * 5 + j) (by omega)
      rw [Addr.add_lit, hx]
      rw [rcs_take, rcs_drop, List.getElem?_take, if_pos hjl, List.getElem?_drop] at hj
      exact hj
/-- cell.copyOf of rows. -/
theorem rcopy_is (u : Value) (L : List Pn) (w : World) (hs : SrcN 5 w u L.length (rcs L)) (hl : L.length ≤ 1000000) :
    Calls Try.prog 39 #[u] w fun e w' => ∃ v, e = .returned v ∧ w'.ownsRow w.heap.size 39 5 v L.length (rcs L) ∧ Below w.heap.size w w' := by
  obtain ⟨i0, hi, hz0, hz1, hz2⟩ := info_parts Try.info39
  go_enter Try.func39, Try.ntmps39
  go_wp2_with (at_builtin; refine wpList_append_srcF _ (by rfl) _ _ 34 rfl 5 w.heap.size 39 i0 rzero 40 Try.underlying34 hi hz0 hz1 hz2 rfl (by decide) (.slice none 0 0) 0 [] rfl (World.ownsRow_nil _ _ _ _) u L.length (rcs L) rfl hs (rcs_one _) (by unfold maxLen; omega) (by omega) (by omega) ?_; rintro v5 w5 hq5 hb5 _ _)
  go_ret
  exact ⟨_, rfl, by simpa using hq5, hb5⟩
/-- How many rows are told. -/
def Rwm (n : Int) (D m : Nat) : Prop := (n < 0 ∧ m = 0) ∨ (0 ≤ n ∧ n ≤ 32 ∧ n ≤ (D : Int) ∧ n = (m : Nat)) ∨ (32 < n ∧ 32 ≤ (D : Int) ∧ m = 32) ∨ (0 ≤ n ∧ (D : Int) < n ∧ (D : Int) < 32 ∧ m = D)
theorem rwm_ex (n : Int) (D : Nat) : ∃ m, Rwm n D m := by
  unfold Rwm
  by_cases h : n < 0
  · exact ⟨0, .inl ⟨h, rfl⟩⟩
  · by_cases h2 : n ≤ 32 ∧ n ≤ (D : Int)
    · exact ⟨n.toNat, .inr (.inl ⟨by omega, h2.1, h2.2, by omega⟩)⟩
    · by_cases h3 : 32 ≤ (D : Int)
      · exact ⟨32, .inr (.inr (.inl ⟨by omega, h3, rfl⟩))⟩
      · exact ⟨D, .inr (.inr (.inr ⟨by omega, by omega, by omega, rfl⟩))⟩
theorem Rwm.le {n : Int} {D m : Nat} (h : Rwm n D m) : m ≤ D ∧ m ≤ 32 := by unfold Rwm at h; omega
section
variable {W0 : World} {us : List Th} {c : Nat} {p : Pq} {i l s f : Int} {wait taken : List Inp}
/-- Cell.Rows from no number of a row. -/
theorem crows_no (fr n : Int) (w : World) (hS : St W0 w (cel c p i l s f wait taken :: us)) (hf : fr < 0 ∨ (((rowsR p r0 taken).length : Nat) : Int) < fr) :
    Calls Try.prog 12 #[.pointer (some ⟨c, 0, none⟩), .int .i64 fr, .int .i64 n] w fun e w' => e = .returned (.tuple #[.slice none 0 0, .int .i64 5]) ∧ w' = w := by
  obtain ⟨v, b, vr, vt, hO⟩ := hS.opn
  have d6 := hO.ck.c6
  obtain ⟨ra, rc, rfl⟩ := own_len' (hO.re [3, 0, 1, 2] 4).rw
  generalize (rowsR p r0 taken).length = N at *
  clear hO hS
  by_cases h0 : fr < 0
  · clear hf
    go_enter Try.func12, Try.ntmps12
    go_wp2
    exact bodyPost_ret (v := .tuple #[.slice none 0 0, .int .i64 5]) (by simp [results, Try.results12, go_sem]) rfl ⟨rfl, rfl⟩
  · have h1 : (N : Int) < fr := by omega
    clear hf
    go_enter Try.func12, Try.ntmps12
    go_wp2
    exact bodyPost_ret (v := .tuple #[.slice none 0 0, .int .i64 5]) (by simp [results, Try.results12, go_sem]) rfl ⟨rfl, rfl⟩
set_option maxHeartbeats 1000000 in
/-- Cell.Rows. -/
theorem crows_is (n : Int) (F : Nat) (w : World) (hS : St W0 w (cel c p i l s f wait taken :: us)) (hl : taken.length ≤ 10000) (D m : Nat) (hD : F + D = (rowsR p r0 taken).length) (hm : Rwm n D m) :
    Calls Try.prog 12 #[.pointer (some ⟨c, 0, none⟩), .int .i64 (F : Nat), .int .i64 n] w fun e w' => ∃ u, e = .returned (.tuple #[u, .int .i64 0]) ∧ St W0 w' (rwl u (((rowsR p r0 taken).drop F).take m) :: cel c p i l s f wait taken :: us) := by
  have hS' : Hid (St W0 w (cel c p i l s f wait taken :: us)) := hS
  obtain ⟨v, b, vr, vt, hO⟩ := hS.opn
  have d6 := hO.ck.c6
  have hr := (hO.re [3, 0, 1, 2] 4).rw
  have hlen := (rows_len p taken).1
  obtain ⟨ra, rc, rfl⟩ := own_len' hr
  obtain ⟨N, hN⟩ : ∃ N, Hid ((rowsR p r0 taken).length = N) := ⟨_, rfl⟩
  have hrc : N ≤ rc ∧ rc ≤ 9223372036854775807 := by
    rw [← hN.out]
    obtain ⟨_, h0 | ⟨g, cap', cur, e, hb, hh, hnn, hmx, hs, ht⟩⟩ := hr
    · obtain ⟨e, h0⟩ := h0; injection e with e1 e2 e3; omega
    · injection e with e1 e2 e3; unfold maxLen at hmx; omega
  rw [hN.out] at hr d6 hD hlen
  have hpart : Hid (∀ ao', ao' = (if rc - F = 0 then ra else ra.map (fun x => x.add (F * 5))) → SrcN 5 w (.slice ao' m (rc - F)) m (rcs (((rowsR p r0 taken).drop F).take m))) := by
    intro ao' ha
    exact rows_part hr hN.out.symm F m (by have := hm.le; omega) ao' ha
  have hml : Hid ((((rowsR p r0 taken).drop F).take m).length = m) := by
    have h : (((rowsR p r0 taken).drop F).take m).length = m := by
      rw [List.length_take, List.length_drop, hN.out]; have := hm.le; omega
    exact h
  obtain ⟨M, hM⟩ : ∃ M, Hid (((rowsR p r0 taken).drop F).take m = M) := ⟨_, rfl⟩
  rw [hM.out] at hpart hml ⊢
  have hle := hm.le
  have hsub : (N : Int) - (F : Int) = (D : Int) := by omega
  clear hO hr hS hlen
  go_enter Try.func12, Try.ntmps12
  go_upto_region 3 with fail
  go_cut [2] (fun x wx => x = .int .i64 ((m : Nat) : Int) ∧ wx = w)
  case first =>
    rcases hm with ⟨h4, rfl⟩ | ⟨h4, h5, h6, rfl⟩ | ⟨h4, h5, rfl⟩ | ⟨h4, h5, h6, rfl⟩
    · go_wp2_with fail
      go_meet
      exact ⟨rfl, rfl⟩
    · go_wp2_with fail
      go_meet
      exact ⟨rfl, rfl⟩
    · go_wp2_with fail
      go_meet
      exact ⟨rfl, rfl⟩
    · go_wp2_with fail
      go_meet
      exact ⟨rfl, rfl⟩
  obtain ⟨rfl, he⟩ := hcut
  obtain rfl := he.symm
  clear hm
  obtain ⟨G, hG⟩ : ∃ G, Hid (F + m = G) := ⟨_, rfl⟩
  have hsum : (F : Int) + (m : Int) = (G : Int) := by have := hG.out; omega
  have hG1 : F ≤ G := by have := hG.out; omega
  have hG2 : G ≤ N := by have := hG.out; omega
  have hG3 : G - F = m := by have := hG.out; omega
  go_wp2_with fail
  · have hz : rc - F = 0 := by omega
    have hq := hpart.out ra (by rw [if_pos hz])
    rw [hz] at hq
    refine (rcopy_is (.slice ra m 0) M _ (by rw [hml.out]; exact hq) (by rw [hml.out]; omega)).mono ?_
    rintro e w1 ⟨u, rfl, hu, hb⟩
    have hfin : Hid (St W0 w1 (rwl u M :: cel c p i l s f wait taken :: us)) := hS'.out.newr hb hu (Nat.le_refl _)
    clear hS' hu hb hpart hml
    go_wp2_with fail
    exact bodyPost_ret (v := .tuple #[u, .int .i64 0]) (by simp [results, Try.results12, go_sem]) rfl ⟨u, rfl, hfin.out⟩
  · rename_i hz
    have hq := hpart.out (ra.map (fun x => x.add (F * 5))) (by rw [if_neg (by omega)])
    refine (rcopy_is (.slice (ra.map (fun x => x.add (F * 5))) m (rc - F)) M _ (by rw [hml.out]; exact hq) (by rw [hml.out]; omega)).mono ?_
    rintro e w1 ⟨u, rfl, hu, hb⟩
    have hfin : Hid (St W0 w1 (rwl u M :: cel c p i l s f wait taken :: us)) := hS'.out.newr hb hu (Nat.le_refl _)
    clear hS' hu hb hpart hml
    go_wp2_with fail
    exact bodyPost_ret (v := .tuple #[u, .int .i64 0]) (by simp [results, Try.results12, go_sem]) rfl ⟨u, rfl, hfin.out⟩
end
end Go.Proofs.Ytnamjnopicghhaa
/- Twin and New of a Cell. -/
namespace Go.Proofs.Ytnamjnopicghhaa
open Go.RowKit M
open O.MO (Oq Pq rightP)
set_option linter.unusedVariables false
set_option linter.unusedSimpArgs false
attribute [local go_sem ↓] Go.wp_at_zero Go.wp_at_succ

section
variable {W0 : World} {us : List Th} {c : Nat} {p : Pq} {i l s f : Int} {wait taken : List Inp}
set_option maxHeartbeats 2000000 in
set_option maxRecDepth 100000 in
/-- Cell.Twin. -/
theorem ctwin_is (w : World) (hS : St W0 w (cel c p i l s f wait taken :: us)) (hw : wait.length ≤ 10000) (ht : taken.length ≤ 10000) (hos : p.os.length ≤ 1000) :
    Calls Try.prog 20 #[.pointer (some ⟨c, 0, none⟩)] w fun e w' => ∃ c', e = .returned (.pointer (some ⟨c', 0, none⟩)) ∧ St W0 w' (cel c' p i l s f wait taken :: cel c p i l s f wait taken :: us) := by
  obtain ⟨v, b, vr, vt, hO0⟩ := hS.opn
  have hlen := rows_len p taken
  have hw' : Hid (wait.length ≤ 10000) := hw
  have ht' : Hid (taken.length ≤ 1000000) := Nat.le_trans ht (by decide)
  have hos' : Hid (p.os.length ≤ 1000) := hos
  have hb' : Hid ((stR p r0 taken).L.length ≤ 1000000) := by
    have h : (stR p r0 taken).L.length ≤ 1000000 := by omega
    exact h
  have hrl' : Hid ((rowsR p r0 taken).length ≤ 1000000) := by
    have h : (rowsR p r0 taken).length ≤ 1000000 := by omega
    exact h
  obtain ⟨va, vc, ev, _, _, _⟩ := (hO0.re [1, 0] 2).qv.1.len
  obtain ⟨ta, tc, et, _, _, _⟩ := (hO0.re [4, 0, 1, 2, 3] 5).qv.1.len
  obtain ⟨ra, rl, rc, er⟩ := own_slice (hO0.re [3, 0, 1, 2] 4).rw
  subst ev et er
  generalize hvl : wait.length = vl at *
  generalize htl0 : taken.length = tl at *
  have hO : Hid (St W0 w (cb c l s f (.slice va vl vc) b i (.slice ra rl rc) (.slice ta tl tc) :: inl (.slice va vl vc) wait :: rnt b p (stR p r0 taken) :: rwl (.slice ra rl rc) (rowsR p r0 taken) :: inl (.slice ta tl tc) taken :: us)) := hO0
  clear hO0 hS hlen hw ht hos
  rw [← hvl] at hw'
  rw [← htl0] at ht'
  clear hvl htl0
  go_enter Try.func20, Try.ntmps20
  go_upto_region 1 with fail
  refine wp_region_held_drew (S := fun X => Ckb X c l s f (.slice va vl vc) b i (.slice ra rl rc) (.slice ta tl tc)) (by kernel_rfl) hO.out.ck (fun hHeld => ?_)
  have hO1 : Hid (St W0 w.drew (cb c l s f (.slice va vl vc) b i (.slice ra rl rc) (.slice ta tl tc) :: inl (.slice va vl vc) wait :: rnt b p (stR p r0 taken) :: rwl (.slice ra rl rc) (rowsR p r0 taken) :: inl (.slice ta tl tc) taken :: us)) := hO.out.below (Below.refl _ _).drew
  clear hO
  generalize w.drew = V at hHeld hO1 ⊢
  refine take_at (i := 0) (v := .pointer (some ⟨c, 0, none⟩)) rfl rfl (by kernel_rfl) (by kernel_rfl) (by kernel_rfl) (fun _ _ _ h => h) (Or.inl ⟨by rfl, fun X _ => by go_simp⟩) hHeld ?_
  try simp only [Act.put, List.setIfInBounds_toArray, List.set_cons_zero, List.set_cons_succ]
  refine take_at (i := 1) (v := .pointer (some ⟨c, 0, none⟩)) rfl rfl (by kernel_rfl) (by kernel_rfl) (by kernel_rfl) (fun _ _ _ h => h) (Or.inl ⟨by rfl, fun X _ => by go_simp⟩) hHeld ?_
  try simp only [Act.put, List.setIfInBounds_toArray, List.set_cons_zero, List.set_cons_succ]
  refine take_at (i := 2) (v := .pointer (some ⟨c, 0, none⟩)) rfl rfl (by kernel_rfl) (by kernel_rfl) (by kernel_rfl) (fun _ _ _ h => h) (Or.inl ⟨by rfl, fun X _ => by go_simp⟩) hHeld ?_
  try simp only [Act.put, List.setIfInBounds_toArray, List.set_cons_zero, List.set_cons_succ]
  refine take_at (i := 3) (v := .agg #[.int .i64 l, .int .i64 s, .int .i64 f]) rfl rfl (by kernel_rfl) (by kernel_rfl) (by kernel_rfl) (fun _ _ _ h => h) (Or.inl ⟨by rfl, fun X hX => by have k0 := hX.c0; have k1 := hX.c1; have k2 := hX.c2; have k3 := hX.c3; have k4 := hX.c4; have k5 := hX.c5; have k6 := hX.c6; have k7 := hX.c7; go_simp⟩) hHeld ?_
  try simp only [Act.put, List.setIfInBounds_toArray, List.set_cons_zero, List.set_cons_succ]
  refine take_at (i := 4) (v := .pointer (some ⟨c, 0, none⟩)) rfl rfl (by kernel_rfl) (by kernel_rfl) (by kernel_rfl) (fun _ _ _ h => h) (Or.inl ⟨by rfl, fun X _ => by go_simp⟩) hHeld ?_
  try simp only [Act.put, List.setIfInBounds_toArray, List.set_cons_zero, List.set_cons_succ]
  refine take_at (i := 5) (v := .pointer (some ⟨c, 0, none⟩)) rfl rfl (by kernel_rfl) (by kernel_rfl) (by kernel_rfl) (fun _ _ _ h => h) (Or.inl ⟨by rfl, fun X _ => by go_simp⟩) hHeld ?_
  try simp only [Act.put, List.setIfInBounds_toArray, List.set_cons_zero, List.set_cons_succ]
  refine take_at (i := 6) (v := .pointer (some ⟨c, 3, none⟩)) rfl rfl (by kernel_rfl) (by kernel_rfl) (by kernel_rfl) (fun _ _ _ h => h) (Or.inl ⟨by rfl, fun X _ => by go_simp⟩) hHeld ?_
  try simp only [Act.put, List.setIfInBounds_toArray, List.set_cons_zero, List.set_cons_succ]
  refine take_at (i := 7) (v := .agg #[.slice va vl vc]) rfl rfl (by kernel_rfl) (by kernel_rfl) (by kernel_rfl) (fun _ _ _ h => h) (Or.inl ⟨by rfl, fun X hX => by have k0 := hX.c0; have k1 := hX.c1; have k2 := hX.c2; have k3 := hX.c3; have k4 := hX.c4; have k5 := hX.c5; have k6 := hX.c6; have k7 := hX.c7; go_simp⟩) hHeld ?_
  try simp only [Act.put, List.setIfInBounds_toArray, List.set_cons_zero, List.set_cons_succ]
  refine take_at (i := 9) (v := .pointer (some ⟨c, 0, none⟩)) rfl rfl (by kernel_rfl) (by kernel_rfl) (by kernel_rfl) (fun _ _ _ h => h) (Or.inl ⟨by rfl, fun X _ => by go_simp⟩) hHeld ?_
  try simp only [Act.put, List.setIfInBounds_toArray, List.set_cons_zero, List.set_cons_succ]
  refine take_at (i := 10) (v := .pointer (some ⟨c, 0, none⟩)) rfl rfl (by kernel_rfl) (by kernel_rfl) (by kernel_rfl) (fun _ _ _ h => h) (Or.inl ⟨by rfl, fun X _ => by go_simp⟩) hHeld ?_
  try simp only [Act.put, List.setIfInBounds_toArray, List.set_cons_zero, List.set_cons_succ]
  refine take_at (i := 11) (v := .pointer (some ⟨c, 4, none⟩)) rfl rfl (by kernel_rfl) (by kernel_rfl) (by kernel_rfl) (fun _ _ _ h => h) (Or.inl ⟨by rfl, fun X _ => by go_simp⟩) hHeld ?_
  try simp only [Act.put, List.setIfInBounds_toArray, List.set_cons_zero, List.set_cons_succ]
  refine take_at (i := 12) (v := .pointer (some ⟨b, 0, none⟩)) rfl rfl (by kernel_rfl) (by kernel_rfl) (by kernel_rfl) (fun _ _ _ h => h) (Or.inl ⟨by rfl, fun X hX => by have k0 := hX.c0; have k1 := hX.c1; have k2 := hX.c2; have k3 := hX.c3; have k4 := hX.c4; have k5 := hX.c5; have k6 := hX.c6; have k7 := hX.c7; go_simp⟩) hHeld ?_
  try simp only [Act.put, List.setIfInBounds_toArray, List.set_cons_zero, List.set_cons_succ]
  refine take_at (i := 14) (v := .pointer (some ⟨c, 0, none⟩)) rfl rfl (by kernel_rfl) (by kernel_rfl) (by kernel_rfl) (fun _ _ _ h => h) (Or.inl ⟨by rfl, fun X _ => by go_simp⟩) hHeld ?_
  try simp only [Act.put, List.setIfInBounds_toArray, List.set_cons_zero, List.set_cons_succ]
  refine take_at (i := 15) (v := .pointer (some ⟨c, 0, none⟩)) rfl rfl (by kernel_rfl) (by kernel_rfl) (by kernel_rfl) (fun _ _ _ h => h) (Or.inl ⟨by rfl, fun X _ => by go_simp⟩) hHeld ?_
  try simp only [Act.put, List.setIfInBounds_toArray, List.set_cons_zero, List.set_cons_succ]
  refine take_at (i := 16) (v := .pointer (some ⟨c, 5, none⟩)) rfl rfl (by kernel_rfl) (by kernel_rfl) (by kernel_rfl) (fun _ _ _ h => h) (Or.inl ⟨by rfl, fun X _ => by go_simp⟩) hHeld ?_
  try simp only [Act.put, List.setIfInBounds_toArray, List.set_cons_zero, List.set_cons_succ]
  refine take_at (i := 17) (v := .int .i64 i) rfl rfl (by kernel_rfl) (by kernel_rfl) (by kernel_rfl) (fun _ _ _ h => h) (Or.inl ⟨by rfl, fun X hX => by have k0 := hX.c0; have k1 := hX.c1; have k2 := hX.c2; have k3 := hX.c3; have k4 := hX.c4; have k5 := hX.c5; have k6 := hX.c6; have k7 := hX.c7; go_simp⟩) hHeld ?_
  try simp only [Act.put, List.setIfInBounds_toArray, List.set_cons_zero, List.set_cons_succ]
  refine take_at (i := 18) (v := .pointer (some ⟨c, 0, none⟩)) rfl rfl (by kernel_rfl) (by kernel_rfl) (by kernel_rfl) (fun _ _ _ h => h) (Or.inl ⟨by rfl, fun X _ => by go_simp⟩) hHeld ?_
  try simp only [Act.put, List.setIfInBounds_toArray, List.set_cons_zero, List.set_cons_succ]
  refine take_at (i := 19) (v := .pointer (some ⟨c, 0, none⟩)) rfl rfl (by kernel_rfl) (by kernel_rfl) (by kernel_rfl) (fun _ _ _ h => h) (Or.inl ⟨by rfl, fun X _ => by go_simp⟩) hHeld ?_
  try simp only [Act.put, List.setIfInBounds_toArray, List.set_cons_zero, List.set_cons_succ]
  refine take_at (i := 20) (v := .pointer (some ⟨c, 6, none⟩)) rfl rfl (by kernel_rfl) (by kernel_rfl) (by kernel_rfl) (fun _ _ _ h => h) (Or.inl ⟨by rfl, fun X _ => by go_simp⟩) hHeld ?_
  try simp only [Act.put, List.setIfInBounds_toArray, List.set_cons_zero, List.set_cons_succ]
  refine take_at (i := 21) (v := .slice ra rl rc) rfl rfl (by kernel_rfl) (by kernel_rfl) (by kernel_rfl) (fun _ _ _ h => h) (Or.inl ⟨by rfl, fun X hX => by have k0 := hX.c0; have k1 := hX.c1; have k2 := hX.c2; have k3 := hX.c3; have k4 := hX.c4; have k5 := hX.c5; have k6 := hX.c6; have k7 := hX.c7; go_simp⟩) hHeld ?_
  try simp only [Act.put, List.setIfInBounds_toArray, List.set_cons_zero, List.set_cons_succ]
  refine take_at (i := 23) (v := .pointer (some ⟨c, 0, none⟩)) rfl rfl (by kernel_rfl) (by kernel_rfl) (by kernel_rfl) (fun _ _ _ h => h) (Or.inl ⟨by rfl, fun X _ => by go_simp⟩) hHeld ?_
  try simp only [Act.put, List.setIfInBounds_toArray, List.set_cons_zero, List.set_cons_succ]
  refine take_at (i := 24) (v := .pointer (some ⟨c, 0, none⟩)) rfl rfl (by kernel_rfl) (by kernel_rfl) (by kernel_rfl) (fun _ _ _ h => h) (Or.inl ⟨by rfl, fun X _ => by go_simp⟩) hHeld ?_
  try simp only [Act.put, List.setIfInBounds_toArray, List.set_cons_zero, List.set_cons_succ]
  refine take_at (i := 25) (v := .pointer (some ⟨c, 7, none⟩)) rfl rfl (by kernel_rfl) (by kernel_rfl) (by kernel_rfl) (fun _ _ _ h => h) (Or.inl ⟨by rfl, fun X _ => by go_simp⟩) hHeld ?_
  try simp only [Act.put, List.setIfInBounds_toArray, List.set_cons_zero, List.set_cons_succ]
  refine take_at (i := 26) (v := .slice ta tl tc) rfl rfl (by kernel_rfl) (by kernel_rfl) (by kernel_rfl) (fun _ _ _ h => h) (Or.inl ⟨by rfl, fun X hX => by have k0 := hX.c0; have k1 := hX.c1; have k2 := hX.c2; have k3 := hX.c3; have k4 := hX.c4; have k5 := hX.c5; have k6 := hX.c6; have k7 := hX.c7; go_simp⟩) hHeld ?_
  try simp only [Act.put, List.setIfInBounds_toArray, List.set_cons_zero, List.set_cons_succ]
  refine wpAnyH_ready (rs := [8]) (by kernel_rfl) (by simp) ?_
  refine AllReadyH.cons rfl (fun K hK => ?_) AllReadyH.nil
  rw [if_pos (by rfl)]
  go_wp2_with fail
  refine (qsplit_is (.slice va vl vc) wait _ (hO1.out.re [1, 0] 2).qv.1 (hO1.out.re [1, 0] 2).qv.2 (by have := hw'.out; omega)).mono ?_
  rintro e V2 ⟨u, rfl, hq, hb, hf⟩
  have hO2 : Hid (St W0 V2 (inl u wait :: cb c l s f (.slice va vl vc) b i (.slice ra rl rc) (.slice ta tl tc) :: inl (.slice va vl vc) wait :: rnt b p (stR p r0 taken) :: rwl (.slice ra rl rc) (rowsR p r0 taken) :: inl (.slice ta tl tc) taken :: us)) := hO1.out.newl hb hq (hO1.out.re [1, 0] 2).qv.2 hf
  obtain ⟨ua, uc, rfl, _, _, _⟩ := hq.len
  have hh : Ckb V2 c l s f (.slice va vl vc) b i (.slice ra rl rc) (.slice ta tl tc) := hHeld.call hb
  clear hO1 hHeld hb hq hf
  go_wp2_with fail
  refine hK.out _ _ (hh) (fun hHeld => ?_)
  clear hK K
  try simp only [Act.put, List.setIfInBounds_toArray, List.set_cons_zero, List.set_cons_succ]
  clear hh
  generalize wait.length = ul at *
  refine wpAnyH_ready (rs := [13]) (by kernel_rfl) (by simp) ?_
  refine AllReadyH.cons rfl (fun K hK => ?_) AllReadyH.nil
  rw [if_pos (by rfl)]
  go_wp2_with fail
  refine (rtwin_st b p (stR p r0 taken) _ (hO2.out.re [3, 0, 1, 2] 4) hb'.out hos'.out).mono ?_
  rintro e V3 ⟨b2, rfl, hO3, hb⟩
  have hO4 : Hid (St W0 V3 (rnt b2 p (stR p r0 taken) :: inl (.slice ua ul uc) wait :: cb c l s f (.slice va vl vc) b i (.slice ra rl rc) (.slice ta tl tc) :: inl (.slice va vl vc) wait :: rnt b p (stR p r0 taken) :: rwl (.slice ra rl rc) (rowsR p r0 taken) :: inl (.slice ta tl tc) taken :: us)) := hO3.re [0, 2, 3, 4, 1] 5
  have hh : Ckb V3 c l s f (.slice va vl vc) b i (.slice ra rl rc) (.slice ta tl tc) := hHeld.call hb
  clear hO2 hO3 hHeld hb
  go_wp2_with fail
  refine hK.out _ _ (hh) (fun hHeld => ?_)
  clear hK K
  try simp only [Act.put, List.setIfInBounds_toArray, List.set_cons_zero, List.set_cons_succ]
  clear hh
  refine wpAnyH_ready (rs := [22]) (by kernel_rfl) (by simp) ?_
  refine AllReadyH.cons rfl (fun K hK => ?_) AllReadyH.nil
  rw [if_pos (by rfl)]
  go_wp2_with fail
  refine (rcopy_is (.slice ra rl rc) (rowsR p r0 taken) _ (srcN_own (hO4.out.re [5, 0, 1, 2, 3, 4] 6).rw) hrl'.out).mono ?_
  rintro e V4 ⟨u2, rfl, hq, hb⟩
  have hO5 : Hid (St W0 V4 (rwl u2 (rowsR p r0 taken) :: rnt b2 p (stR p r0 taken) :: inl (.slice ua ul uc) wait :: cb c l s f (.slice va vl vc) b i (.slice ra rl rc) (.slice ta tl tc) :: inl (.slice va vl vc) wait :: rnt b p (stR p r0 taken) :: rwl (.slice ra rl rc) (rowsR p r0 taken) :: inl (.slice ta tl tc) taken :: us)) := hO4.out.newr hb hq (Nat.le_refl _)
  obtain ⟨xa, xl, xc, rfl⟩ := own_slice hq
  have hh : Ckb V4 c l s f (.slice va vl vc) b i (.slice ra rl rc) (.slice ta tl tc) := hHeld.call hb
  clear hO4 hHeld hb hq
  go_wp2_with fail
  refine hK.out _ _ (hh) (fun hHeld => ?_)
  clear hK K
  try simp only [Act.put, List.setIfInBounds_toArray, List.set_cons_zero, List.set_cons_succ]
  clear hh
  obtain ⟨qt, htl⟩ := (hO5.out.re [7, 0, 1, 2, 3, 4, 5, 6] 8).qv
  obtain ⟨qb, hrd, hx1, hx2⟩ := qt.rdi htl 0
  clear hx1 hx2 qt
  refine wpAnyH_ready (rs := [27]) (by kernel_rfl) (by simp) ?_
  refine AllReadyH.cons rfl (fun K hK => ?_) AllReadyH.nil
  rw [if_pos (by rfl)]
  go_wp2_with fail
  refine (ccopy_is (.slice ta tl tc) qb taken _ hrd ht'.out).mono ?_
  rintro e V5 ⟨u3, rfl, hq, hb, hf⟩
  have hO6 : Hid (St W0 V5 (inl u3 taken :: rwl (.slice xa xl xc) (rowsR p r0 taken) :: rnt b2 p (stR p r0 taken) :: inl (.slice ua ul uc) wait :: cb c l s f (.slice va vl vc) b i (.slice ra rl rc) (.slice ta tl tc) :: inl (.slice va vl vc) wait :: rnt b p (stR p r0 taken) :: rwl (.slice ra rl rc) (rowsR p r0 taken) :: inl (.slice ta tl tc) taken :: us)) := hO5.out.newl hb hq htl hf
  obtain ⟨ya, yc, rfl, _, _, _⟩ := hq.len
  have hh : Ckb V5 c l s f (.slice va vl vc) b i (.slice ra rl rc) (.slice ta tl tc) := hHeld.call hb
  clear hO5 hHeld hb hq hf htl hrd
  generalize taken.length = yl at *
  go_wp2_with fail
  refine hK.out _ _ (hh) (fun hHeld => ?_)
  clear hK K
  try simp only [Act.put, List.setIfInBounds_toArray, List.set_cons_zero, List.set_cons_succ]
  clear hh
  refine take_at (i := 28) (v := .agg #[.int .i64 l, .int .i64 s, .int .i64 f, .slice ua ul uc, .pointer (some ⟨b2, 0, none⟩), .int .i64 i, .slice xa xl xc, .slice ya yl yc]) rfl rfl (by kernel_rfl) (by kernel_rfl) (by kernel_rfl) (fun _ _ _ h => h) (Or.inl ⟨by rfl, fun X _ => by go_simp⟩) hHeld ?_
  try simp only [Act.put, List.setIfInBounds_toArray, List.set_cons_zero, List.set_cons_succ]
  refine wpAnyH_ready (rs := [29]) (by kernel_rfl) (by simp) ?_
  refine AllReadyH.cons rfl (fun K hK => ?_) AllReadyH.nil
  rw [if_pos (by rfl)]
  go_simp
  have hO7 : Hid (St W0 (V5.alloc (.cells #[.int .i64 l, .int .i64 s, .int .i64 f, .slice ua ul uc, .pointer (some ⟨b2, 0, none⟩), .int .i64 i, .slice xa xl xc, .slice ya yl yc] 49)) (cb V5.heap.size l s f (.slice ua ul uc) b2 i (.slice xa xl xc) (.slice ya yl yc) :: inl (.slice ya yl yc) taken :: rwl (.slice xa xl xc) (rowsR p r0 taken) :: rnt b2 p (stR p r0 taken) :: inl (.slice ua ul uc) wait :: cb c l s f (.slice va vl vc) b i (.slice ra rl rc) (.slice ta tl tc) :: inl (.slice va vl vc) wait :: rnt b p (stR p r0 taken) :: rwl (.slice ra rl rc) (rowsR p r0 taken) :: inl (.slice ta tl tc) taken :: us)) := hO6.out.newBlk _ _ rfl
  clear hO6
  refine hK.out _ _ (hHeld.call (below_alloc _ _)) (fun hHeld => ?_)
  clear hK K
  try simp only [Act.put, List.setIfInBounds_toArray, List.set_cons_zero, List.set_cons_succ]
  refine take_at (i := 30) (v := .pointer (some ⟨V5.heap.size, 0, none⟩)) rfl rfl (by kernel_rfl) (by kernel_rfl) (by kernel_rfl) (fun _ _ _ h => h) (Or.inl ⟨by rfl, fun X _ => by go_simp⟩) hHeld ?_
  try simp only [Act.put, List.setIfInBounds_toArray, List.set_cons_zero, List.set_cons_succ]
  refine wpAnyH_done (by kernel_rfl) ?_ _
  have h8 := (hO7.out.re [0, 4, 3, 2, 1] 5).cls
  have h9 := (h8.re [1, 2, 3, 4, 5, 0] 6).cls
  have h10 : Hid (St W0 _ _) := h9.sw
  clear h8 h9 hO7 hHeld
  go_wp2_with fail
  go_ret
  exact ⟨_, rfl, h10.out⟩
set_option maxHeartbeats 1000000 in
set_option maxRecDepth 100000 in
/-- cell.New of a right pipe. -/
theorem cnew_is (v : Value) (i m x : Int) (w : World) (hS : St W0 w us) (hv : OpsIn w v p.os) (hr : rightP p = true) (hl : p.os.length ≤ 1000) (hi : 0 ≤ i ∧ i ≤ 7) (hx : 0 ≤ m ∧ x = m ∨ m < 0 ∧ x = 0) :
    Calls Try.prog 9 #[.int .i64 i, .int .i64 m, O.pv v p.n p.s p.a p.k p.f] w fun e w' => ∃ c, e = .returned (.pointer (some ⟨c, 0, none⟩)) ∧ St W0 w' (cel c p i x 0 0 [] [] :: us) := by
  obtain ⟨os, n, sl, a, k, f⟩ := p
  simp only at hv hl ⊢
  obtain ⟨va, vl, vc, rfl⟩ := hv.form
  have hr' : Hid (rightP ⟨os, n, sl, a, k, f⟩ = true) := hr
  have hl' : Hid (os.length ≤ 1000) := hl
  have hx' : Hid (0 ≤ m ∧ x = m ∨ m < 0 ∧ x = 0) := hx
  obtain ⟨hi1, hi2⟩ := hi
  clear hr hl hx
  go_enter Try.func9, Try.ntmps9
  go_upto_region 1 with fail
  refine world_gen (fun W => Hid (O.Pik W w.heap.size (.slice va vl vc) n sl a k f) ∧ Hid (OpsIn W (.slice va vl vc) os) ∧ Hid (St W0 W us)) ⟨O.pik_new _ _ _ _ _ _ _, hv.below (below_alloc _ _), hS.below (below_alloc _ _)⟩ ?_
  clear hv hS
  rintro W ⟨k0, hv, hS⟩
  generalize w.heap.size = g0 at *
  have c0 := k0.out.c0
  have c1 := k0.out.c1
  have c2 := k0.out.c2
  have c3 := k0.out.c3
  have c4 := k0.out.c4
  have c5 := k0.out.c5
  go_wp2_with fail
  refine (rnew_st (.slice va vl vc) ⟨os, n, sl, a, k, f⟩ _ hS.out hv.out hr'.out hl'.out).mono ?_
  rintro e w1 ⟨b, rfl, hS1⟩
  have hS1' : Hid (St W0 w1 (rnt b ⟨os, n, sl, a, k, f⟩ r0 :: us)) := hS1
  clear c0 c1 c2 c3 c4 c5 k0 hv hS hS1
  go_wp2_with fail
  refine (qof_is m x _ hx'.out).mono ?_
  rintro e w2 ⟨rfl, hb2⟩
  have hS2 : Hid (St W0 (w2.alloc (.cells #[.int .i64 x, .int .i64 0, .int .i64 0, .slice none 0 0, .pointer (some ⟨b, 0, none⟩), .int .i64 i, .slice none 0 0, .slice none 0 0] 49)) (cb w2.heap.size x 0 0 (.slice none 0 0) b i (.slice none 0 0) (.slice none 0 0) :: rnt b ⟨os, n, sl, a, k, f⟩ r0 :: us)) := (hS1'.out.below hb2).newBlk _ _ rfl
  clear hS1' hb2
  have hfin : Hid (St W0 (w2.alloc (.cells #[.int .i64 x, .int .i64 0, .int .i64 0, .slice none 0 0, .pointer (some ⟨b, 0, none⟩), .int .i64 i, .slice none 0 0, .slice none 0 0] 49)) (cel w2.heap.size ⟨os, n, sl, a, k, f⟩ i x 0 0 [] [] :: us)) := by
    have h0 := hS2.out
    have h1 := h0.newl (Below.refl _ _) (qv_nil _) Labl.nil (fun k hk => by cases hk)
    have h2 := h1.newr (R := []) (Below.refl _ _) (World.ownsRow_nil _ _ _ _) (Nat.le_refl _)
    have h3 := h2.newl (Below.refl _ _) (qv_nil _) Labl.nil (fun k hk => by cases hk)
    have h4 : St W0 _ (cel w2.heap.size ⟨os, n, sl, a, k, f⟩ i x 0 0 [] [] :: us) := (h3.re [3, 0, 4, 1, 2] 5).cls
    exact h4
  clear hS2
  go_wp2_with fail
  go_ret
  exact ⟨_, rfl, hfin.out⟩
end
/-- cell.New of a number of no tenant. -/
theorem cnew_id (v : Value) (n s a k f : Int) (i m : Int) (w : World) (hi : i < 0 ∨ 8 ≤ i) :
    Calls Try.prog 9 #[.int .i64 i, .int .i64 m, O.pv v n s a k f] w fun e w' => e = .returned (.pointer none) ∧ Below w.heap.size w w' := by
  by_cases h0 : i < 0
  · clear hi
    go_enter Try.func9, Try.ntmps9
    go_wp2
    go_ret
    exact ⟨rfl, below_alloc _ _⟩
  · have h1 : 8 ≤ i := by omega
    clear hi
    go_enter Try.func9, Try.ntmps9
    go_wp2
    go_ret
    exact ⟨rfl, below_alloc _ _⟩
set_option maxHeartbeats 1000000 in
/-- cell.New of a pipe that isn't right. -/
theorem cnew_no (v : Value) (os : List Oq) (n s a k f : Int) (i m : Int) (w : World) (hv : OpsIn w v os) (hr : rightP ⟨os, n, s, a, k, f⟩ = false) (hi : 0 ≤ i ∧ i ≤ 7) :
    Calls Try.prog 9 #[.int .i64 i, .int .i64 m, O.pv v n s a k f] w fun e w' => e = .returned (.pointer none) ∧ Below w.heap.size w w' := by
  obtain ⟨hi1, hi2⟩ := hi
  obtain ⟨va, vl, vc, rfl⟩ := hv.form
  have hr' : Hid (rightP ⟨os, n, s, a, k, f⟩ = false) := hr
  clear hr
  go_enter Try.func9, Try.ntmps9
  go_upto_region 1 with fail
  refine world_gen (fun W => Hid (O.Pik W w.heap.size (.slice va vl vc) n s a k f) ∧ Hid (OpsIn W (.slice va vl vc) os) ∧ Hid (Below w.heap.size w W)) ⟨O.pik_new _ _ _ _ _ _ _, hv.below (below_alloc _ _), below_alloc _ _⟩ ?_
  clear hv
  rintro W ⟨k0, hv, hb⟩
  obtain ⟨g0, hg0⟩ : ∃ g, Hid (w.heap.size = g) := ⟨_, rfl⟩
  rw [hg0.out] at k0 hb ⊢
  have c0 := k0.out.c0
  have c1 := k0.out.c1
  have c2 := k0.out.c2
  have c3 := k0.out.c3
  have c4 := k0.out.c4
  have c5 := k0.out.c5
  go_wp2_with fail
  refine (new_no (.slice va vl vc) os n s a k f _ hv.out hr'.out).mono ?_
  rintro e w1 ⟨rfl, hb1⟩
  have hlt := k0.out.lt
  have hb2 : Hid (Below g0 w w1) := hb.out.trans (hb1.mono (by omega))
  clear c0 c1 c2 c3 c4 c5 k0 hv hb hb1
  go_wp2_with fail
  go_ret
  exact ⟨rfl, by rw [hg0.out]; exact hb2.out⟩
end Go.Proofs.Ytnamjnopicghhaa
