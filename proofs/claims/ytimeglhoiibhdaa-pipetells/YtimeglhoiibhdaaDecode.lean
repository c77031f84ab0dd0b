/- What pipe.Decode answers: the right pipe whose bytes they are, in new memory, if there is one. -/
import Derived.Test.YtimeglhoiibhdaaEncode
namespace Go.Proofs.Ytimeglhoiibhdaa
open Go.RowKit M

theorem pairs_cons (x y : Int) (r : List Int) (N : Nat) : pairs (x :: y :: r) (N + 1) = ⟨x, y⟩ :: pairs r N := by
  unfold pairs
  rw [List.range_succ_eq_map, List.map_cons, List.map_map]
  congr 1
theorem pairs_len (zs : List Int) (N : Nat) : (pairs zs N).length = N := by simp [pairs]
theorem opInts_pairs : ∀ (N : Nat) (zs : List Int), zs.length = 2 * N → opInts (pairs zs N) = zs
  | 0, zs, h => by
    have : zs = [] := List.eq_nil_of_length_eq_zero (by omega)
    subst this; rfl
  | N + 1, zs, h => by
    match zs, h with
    | x :: y :: r, h =>
      rw [pairs_cons]
      show [x, y] ++ opInts (pairs r N) = _
      rw [opInts_pairs N r (by simp at h; omega)]; rfl
    | [x], h => simp at h; omega
    | [], h => simp at h
theorem opInts_inj : ∀ (a b : List Oq), opInts a = opInts b → a = b
  | [], [], _ => rfl
  | [], _ :: _, h => by have := congrArg List.length h; simp [opInts_len] at this
  | _ :: _, [], h => by have := congrArg List.length h; simp [opInts_len] at this
  | ⟨x, y⟩ :: a, ⟨x', y'⟩ :: b, h => by
    have h' : x :: y :: opInts a = x' :: y' :: opInts b := h
    injection h' with h1 h2
    injection h2 with h2 h3
    rw [h1, h2, opInts_inj a b h3]
theorem nums_inj {p q : Pq} (h : nums p = nums q) : p = q := by
  obtain ⟨o1, n1, s1, a1, k1, f1⟩ := p
  obtain ⟨o2, n2, s2, a2, k2, f2⟩ := q
  simp only [nums, List.cons_append, List.nil_append, List.cons.injEq] at h
  obtain ⟨rfl, rfl, rfl, rfl, rfl, _, h⟩ := h
  rw [opInts_inj _ _ h]
theorem enc_inj {p q : Pq} (hp : PFits p) (hq : PFits q) (h1 : rightP p = true) (h2 : rightP q = true) (h : put (nums p) = put (nums q)) : p = q :=
  nums_inj (put_inj _ _ (nums_fits hp (by have := rightP_len h1; omega)) (nums_fits hq (by have := rightP_len h2; omega)) h)
/-- Ints that are a pipe's, or aren't. -/
def pipeOf (l : List Int) : Pq := ⟨pairs (l.drop 6) ((l.length - 6) / 2), l.getD 0 0, l.getD 1 0, l.getD 2 0, l.getD 3 0, l.getD 4 0⟩
theorem nums_pipeOf (l : List Int) (h6 : 6 ≤ l.length) (N : Nat) (hN : l.length = 6 + 2 * N) (h5 : l.getD 5 0 = (N : Int)) : nums (pipeOf l) = l := by
  have e : (l.length - 6) / 2 = N := by omega
  match l, h6 with
  | x0 :: x1 :: x2 :: x3 :: x4 :: x5 :: r, _ =>
    simp only [List.length_cons] at hN e
    have hr : r.length = 2 * N := by omega
    simp only [List.getD_cons_succ, List.getD_cons_zero] at h5
    simp only [nums, pipeOf, List.length_cons, e, pairs_len, List.drop_succ_cons, List.drop_zero, List.getD_cons_succ, List.getD_cons_zero, opInts_pairs N r hr, List.cons_append, List.nil_append, h5]
theorem fits_pipeOf {l : List Int} (hl : ∀ n ∈ l, Fits n) (h6 : 6 ≤ l.length) (N : Nat) (hN : l.length = 6 + 2 * N) (h5 : l.getD 5 0 = (N : Int)) : PFits (pipeOf l) := by
  have e := nums_pipeOf l h6 N hN h5
  have hm : ∀ n ∈ nums (pipeOf l), Fits n := by rw [e]; exact hl
  refine ⟨fun o ho => ⟨hm _ ?_, hm _ ?_⟩, hm _ ?_, hm _ ?_, hm _ ?_, hm _ ?_, hm _ ?_⟩
  · exact List.mem_append_right _ (List.mem_flatMap.2 ⟨o, ho, by simp⟩)
  · exact List.mem_append_right _ (List.mem_flatMap.2 ⟨o, ho, by simp⟩)
  all_goals simp [nums]
/-- No right pipe has these bytes. -/
def NoPipe (bs : List Nat) : Prop := ∀ q, rightP q = true → PFits q → put (nums q) ≠ bs
theorem no_long (bs : List Nat) (h : 180 < bs.length) : NoPipe bs := by
  intro q h1 h2 h3
  have h6 := rightP_len h1
  have := put_len_le (nums q) (nums_fits h2 (by omega))
  rw [h3, nums_len] at this
  omega
theorem no_got (bs : List Nat) (h : got bs = none) : NoPipe bs := by
  intro q h1 h2 h3
  have h6 := rightP_len h1
  rw [← h3, got_put _ (nums_fits h2 (by omega))] at h
  cases h
theorem no_of {bs : List Nat} {l : List Int} (h : got bs = some l) (hn : ∀ q, rightP q = true → PFits q → nums q ≠ l) : NoPipe bs := by
  intro q h1 h2 h3
  have h6 := rightP_len h1
  rw [← h3, got_put _ (nums_fits h2 (by omega))] at h
  exact hn q h1 h2 (Option.some.inj h)
theorem no_short {bs : List Nat} {l : List Int} (h : got bs = some l) (h6 : l.length < 6) : NoPipe bs :=
  no_of h fun q _ _ e => by have := congrArg List.length e; rw [nums_len] at this; omega
theorem nums_5 (q : Pq) : (nums q).getD 5 0 = (q.os.length : Int) := rfl
theorem no_count {bs : List Nat} {l : List Int} (h : got bs = some l) (hn : ∀ N : Nat, l.length = 6 + 2 * N → l.getD 5 0 = (N : Int) → False) : NoPipe bs :=
  no_of h fun q _ _ e => hn q.os.length (by rw [← e, nums_len]) (by rw [← e, nums_5])
theorem no_right {bs : List Nat} {l : List Int} (h : got bs = some l) (h6 : 6 ≤ l.length) (N : Nat) (hN : l.length = 6 + 2 * N) (h5 : l.getD 5 0 = (N : Int)) (hr : rightP (pipeOf l) = false) : NoPipe bs :=
  no_of h fun q h1 _ e => by
    have := nums_inj (e.trans (nums_pipeOf l h6 N hN h5).symm)
    rw [this, hr] at h1; cases h1

theorem size_min : size (-9223372036854775808) = 10 := by
  unfold size
  have e : zz (-9223372036854775808) = 18446744073709551615 := by decide
  rw [e]
  have h1 := (leb_len_le 18446744073709551615 10 (by decide)).2 (by decide)
  have h2 := mt (leb_len_le 18446744073709551615 9 (by decide)).1 (by decide)
  omega
set_option maxRecDepth 100000 in
set_option maxHeartbeats 1000000 in
/-- pipe.opsOf of what isn't so many. -/
theorem opsOf_no (ao : Option Addr) (m : Int) (len cap : Nat) (w : World) (h : (len % 2 = 0 → ((len / 2 : Nat) : Int) ≠ m)) (hl : len ≤ 1000) :
    Calls Try.prog 26 #[.int .i64 m, .slice ao len cap] w fun e w' => e = .returned (.tuple #[.slice none 0 0, .bool false]) ∧ w' = w := by
  refine (callsIn_wide (n := 3)).1 ?_
  refine callsIn_of_wp_marks Try.func26 rfl trivial ?_ rfl
  simp only [Try.ntmps26, List.size_toArray, List.length_cons, List.length_nil, Nat.reduceAdd, Nat.reduceSub, Array.replicate_succ, Array.replicate_zero, List.push_toArray, List.append_toArray, List.nil_append, List.cons_append]
  by_cases h0 : len % 2 = 0
  · have h1 : (((len : Int) / 2) == m) = false := by
      have := h h0
      simp; omega
    have h2 : ((len : Int) % 2 == 0) = true := by simp; omega
    gi_wp2
    exact ⟨.tuple #[.slice none 0 0, .bool false], by simp [results, Try.results26, go_sem], rfl, rfl⟩
  · have h2 : ((len : Int) % 2 == 0) = false := by simp; omega
    gi_wp2
    exact ⟨.tuple #[.slice none 0 0, .bool false], by simp [results, Try.results26, go_sem], rfl, rfl⟩
/-- pipe.opsOf of so many. -/
theorem opsOf_yes (ao : Option Addr) (b off N cap : Nat) (zs : List Int) (w : World) (hN : N ≤ 1000) (hcap : 2 * N ≤ cap) (hao : N ≠ 0 → ao = some ⟨b, off, none⟩ ∧ b < w.heap.size)
    (hc : ∀ j, j < 2 * N → w.cell? ⟨b, off + j, none⟩ = some (.int .i64 (zs.getD j 0))) (len : Nat) (hlen : len = 2 * N) :
    Calls Try.prog 26 #[.int .i64 (N : Int), .slice ao len cap] w fun e w' => ∃ u, e = .returned (.tuple #[u, .bool true]) ∧ w'.ownsRow w.heap.size 23 2 u N (opl (pairs zs N)) ∧ (u = .slice none 0 0 ↔ N = 0) ∧ Below w.heap.size w w' := by
  subst hlen
  exact (callsIn_wide (n := 3)).1 (opsOf_in ao b off N cap zs w hN hcap hao hc 3 (Nat.le_refl _))
theorem own_heap {w w' : World} {base : Nat} {e : TypeId} {size : Nat} {v : Value} {n : Nat} {xs : List Value} (h : w.ownsRow base e size v n xs) (hh : ∀ k, base ≤ k → w'.heap[k]? = w.heap[k]?) : w'.ownsRow base e size v n xs := by
  obtain ⟨h1, h | ⟨g, cap, cur, rfl, h2, h3, r⟩⟩ := h
  · exact ⟨h1, .inl h⟩
  · exact ⟨h1, .inr ⟨g, cap, cur, rfl, h2, (hh g h2).trans h3, r⟩⟩
theorem rd_opl {w : World} {base : Nat} {u : Value} {N : Nat} {os : List Oq} {e : TypeId} (h : w.ownsRow base e 2 u N (opl os)) (hN : os.length = N) (hf : OFits os) : RdO w u os := by
  subst hN
  by_cases hu : u = .slice none 0 0
  · subst hu
    obtain ⟨_, h | ⟨g, cap, cur, hh, _⟩⟩ := h
    · have : os = [] := List.eq_nil_of_length_eq_zero h.2
      subst this
      exact ⟨by simp, by simp, none, 0, rfl, by simp, by simp, by simp⟩
    · cases hh
  · obtain ⟨g, cp, rfl, h1, h2, _⟩ := own_form h hu
    exact rd_part h (fun x hx => (hf x hx).2.2) os 0 0 os.length cp (by omega) (fun j _ => by rw [Nat.zero_add]) (by omega) rfl h1 h2 (fun x h => h)
abbrev set6 (w : World) (b : Nat) (v : Value) (n s a k f : Int) : World := (((((w.setCell ⟨b, 0, none⟩ v).setCell ⟨b, 1, none⟩ (.int .i64 n)).setCell ⟨b, 2, none⟩ (.int .i64 s)).setCell ⟨b, 3, none⟩ (.int .i64 a)).setCell ⟨b, 4, none⟩ (.int .i64 k)).setCell ⟨b, 5, none⟩ (.int .i64 f)
theorem Pik.set6 {w : World} {b : Nat} {v : Value} {n s a k f : Int} (h : Pik w b v n s a k f) (v' : Value) (n' s' a' k' f' : Int) : Pik (set6 w b v' n' s' a' k' f') b v' n' s' a' k' f' := by
  unfold Pik at *
  simp [World.setCell, Array.getElem?_modify, h]
theorem below_set6 {a w : World} {b B : Nat} (h : Below B a w) (hb : B ≤ b) (v : Value) (n s x k f : Int) : Below B a (set6 w b v n s x k f) :=
  (((((h.setCell hb _).setCell hb _).setCell hb _).setCell hb _).setCell hb _).setCell hb _
abbrev zp : Value := pv (.slice none 0 0) 0 0 0 0 0
/-- What pipe.Decode answers. -/
def Decoded (bs : List Nat) (w : World) (e : Ending) (w' : World) : Prop :=
  (∃ p u, rightP p = true ∧ PFits p ∧ put (nums p) = bs ∧ e = .returned (.tuple #[pv u p.n p.s p.a p.k p.f, .bool true]) ∧ w'.ownsRow w.heap.size 23 2 u p.os.length (opl p.os) ∧ (u = .slice none 0 0 ↔ p.os.length = 0) ∧ Below w.heap.size w w') ∨
  (NoPipe bs ∧ e = .returned (.tuple #[zp, .bool false]) ∧ Below w.heap.size w w')
theorem own_form1 {w : World} {base : Nat} {e : TypeId} {v : Value} {n : Nat} {xs : List Value} (h : w.ownsRow base e 1 v n xs) (hn : n ≠ 0) :
    ∃ g cp, v = .slice (some ⟨g, 0, none⟩) n cp ∧ n ≤ cp ∧ cp ≤ 9223372036854775807 ∧ base ≤ g ∧ g < w.heap.size := by
  obtain ⟨_, h | ⟨g, cap, cur, rfl, h2, hh, hn, hm, _⟩⟩ := h
  · exact absurd h.2 hn
  · exact ⟨g, cap, rfl, hn, by unfold maxLen at hm; omega, h2, (Array.getElem?_eq_some_iff.1 hh).1⟩
attribute [local go_sem ↓] Go.wp_at_zero Go.wp_at_succ
set_option maxHeartbeats 4000000 in
set_option maxRecDepth 100000 in
/-- pipe.Decode. -/
theorem dec_any (v : Value) (bs : List Nat) (w : World) (hv : Rd .u8 w v (toI bs)) (hb : ∀ c ∈ bs, c < 256) :
    Calls Try.prog 9 #[v] w fun e w' => Decoded bs w e w' := by
  obtain ⟨ao, cap, rfl⟩ : ∃ ao cap, v = .slice ao bs.length cap := by obtain ⟨_, ao, cap, h, _⟩ := hv; rw [toI_len] at h; exact ⟨ao, cap, h⟩
  have hlen : bs.length ≤ 9223372036854775807 := by have := hv.1; rw [toI_len] at this; exact this
  have hb' : Hid (∀ c ∈ bs, c < 256) := hb
  clear hb
  have hv' : Hid (Rd .u8 w (.slice ao bs.length cap) (toI bs)) := hv
  clear hv
  obtain ⟨L, hL⟩ : ∃ L, Hid (bs.length = L) := ⟨_, rfl⟩
  rw [hL.out] at hv' hlen ⊢
  go_enter Try.func9, Try.ntmps9
  go_upto_region 1 with fail
  refine world_gen (fun W => Pik W w.heap.size (.slice none 0 0) 0 0 0 0 0 ∧ Hid (Rd .u8 W (.slice ao L cap) (toI bs)) ∧ Below w.heap.size w W) ⟨pik_new _ _ _ _ _ _ _, hv'.out.below (below_alloc _ _) (Nat.le_refl _), below_alloc _ _⟩ ?_
  clear hv'
  rintro W0 ⟨k0, hv, b0⟩
  obtain ⟨g, hg⟩ : ∃ g, Hid (w.heap.size = g) := ⟨_, rfl⟩
  rw [hg.out] at k0 ⊢
  go_wp2_with fail
  refine (size_any (-9223372036854775808) _ (by unfold Fits; omega)).mono ?_
  rintro e w' ⟨rfl, he⟩; obtain rfl := he.symm; clear he
  rw [size_min]
  have hgle : w.heap.size ≤ g := Nat.le_of_eq hg.out
  by_cases h180 : 180 < L
  · skip
    have c0 := k0.c0
    have c1 := k0.c1
    have c2 := k0.c2
    have c3 := k0.c3
    have c4 := k0.c4
    have c5 := k0.c5
    have f0 := k0.free 0
    have f1 := k0.free 1
    have f2 := k0.free 2
    have f3 := k0.free 3
    have f4 := k0.free 4
    have f5 := k0.free 5
    go_wp2_with fail
    have z := k0.set6 (.slice none 0 0) 0 0 0 0 0
    have z0 := z.c0
    have z1 := z.c1
    have z2 := z.c2
    have z3 := z.c3
    have z4 := z.c4
    have z5 := z.c5
    refine bodyPost_ret (v := .tuple #[zp, .bool false]) (by simp [results, Try.results9, go_sem, z0, z1, z2, z3, z4, z5]) rfl (.inr ⟨no_long bs (by have := hL.out; omega), rfl, below_set6 (hg.out ▸ b0) hgle _ _ _ _ _ _⟩)
  go_wp2_with fail
  refine (get_any _ bs _ hv.out hb'.out (by have := hL.out; omega)).mono ?_
  rintro e w1 (⟨l, u, hgot, rfl, o1, b1⟩ | ⟨hgot, rfl, b1⟩)
  case inr =>
    have k1 := k0.call b1
    have bb := bcall b0 b1
    have c0 := k1.c0
    have c1 := k1.c1
    have c2 := k1.c2
    have c3 := k1.c3
    have c4 := k1.c4
    have c5 := k1.c5
    have f0 := k1.free 0
    have f1 := k1.free 1
    have f2 := k1.free 2
    have f3 := k1.free 3
    have f4 := k1.free 4
    have f5 := k1.free 5
    go_wp2_with fail
    have z := k1.set6 (.slice none 0 0) 0 0 0 0 0
    have z0 := z.c0
    have z1 := z.c1
    have z2 := z.c2
    have z3 := z.c3
    have z4 := z.c4
    have z5 := z.c5
    refine bodyPost_ret (v := .tuple #[zp, .bool false]) (by simp [results, Try.results9, go_sem, z0, z1, z2, z3, z4, z5]) rfl (.inr ⟨no_got bs hgot, rfl, below_set6 (hg.out ▸ bb) hgle _ _ _ _ _ _⟩)
  have hgot' : Hid (got bs = some l) := hgot
  clear hgot
  have k1 := k0.call b1
  have bb := bcall b0 b1
  have hll : l.length ≤ 1000 := by have := got_len bs l hb'.out hgot'.out; have := hL.out; omega
  have hfits : Hid (∀ n ∈ l, Fits n) := (got_some bs l hb'.out hgot'.out).2
  have hb2 := hb'
  clear hb' hv
  by_cases h6 : l.length < 6
  · have hu : ∃ a c, u = .slice a l.length c := by
      obtain ⟨_, h | ⟨g', cap', cur, rfl, _⟩⟩ := o1
      · rw [h.2, h.1]; exact ⟨_, _, rfl⟩
      · exact ⟨_, _, rfl⟩
    obtain ⟨ua, uc, rfl⟩ := hu
    have c0 := k1.c0
    have c1 := k1.c1
    have c2 := k1.c2
    have c3 := k1.c3
    have c4 := k1.c4
    have c5 := k1.c5
    have f0 := k1.free 0
    have f1 := k1.free 1
    have f2 := k1.free 2
    have f3 := k1.free 3
    have f4 := k1.free 4
    have f5 := k1.free 5
    go_wp2_with fail
    have z := k1.set6 (.slice none 0 0) 0 0 0 0 0
    have z0 := z.c0
    have z1 := z.c1
    have z2 := z.c2
    have z3 := z.c3
    have z4 := z.c4
    have z5 := z.c5
    refine bodyPost_ret (v := .tuple #[zp, .bool false]) (by simp [results, Try.results9, go_sem, z0, z1, z2, z3, z4, z5]) rfl (.inr ⟨no_short hgot'.out h6, rfl, below_set6 (hg.out ▸ bb) hgle _ _ _ _ _ _⟩)
  obtain ⟨gl, cp, rfl, hcp1, hcp2, hgl1, hgl2⟩ := own_form1 o1 (by omega)
  have hrd : Hid (∀ j, j < l.length → w1.cell? ⟨gl, j, none⟩ = some (.int .i64 (l.getD j 0))) := by
    intro j hj
    have := o1.cellAt j (by omega)
    rw [this]
    simp [iv, List.getD_eq_getElem?_getD, hj]
  obtain ⟨D, hD⟩ : ∃ D, Hid (l.length = 6 + D) := ⟨l.length - 6, show l.length = 6 + (l.length - 6) by omega⟩
  obtain ⟨C, rfl⟩ : ∃ C, cp = 6 + C := ⟨cp - 6, by omega⟩
  obtain ⟨z, hz⟩ : ∃ z, Hid (l.getD 5 0 = z) := ⟨_, rfl⟩
  have c5 := hrd.out 5 (by omega)
  rw [hz.out] at c5
  have hdrop : Hid (∀ j, j < D → w1.cell? ⟨gl, 6 + j, none⟩ = some (.int .i64 ((l.drop 6).getD j 0))) := by
    intro j hj
    have := hrd.out (6 + j) (by have := hD.out; omega)
    rw [this]
    simp [List.getD_eq_getElem?_getD, List.getElem?_drop]
  rw [hD.out] at hcp1 hll h6 ⊢
  clear o1 b0 b1 k0
  have hDC : D ≤ C := by omega
  go_upto_region 6 with fail
  go_cut [5, 6] (fun ok ops wx => Below w1.heap.size w1 wx ∧ ((∃ N : Nat, D = 2 * N ∧ z = N ∧ ok = .bool true ∧ wx.ownsRow w1.heap.size 23 2 ops N (opl (pairs (l.drop 6) N)) ∧ (ops = .slice none 0 0 ↔ N = 0)) ∨ ((∀ N : Nat, D = 2 * N → z = N → False) ∧ ok = .bool false)))
  case first =>
    have hC0 : (6 : Int) ≤ 6 + (C : Int) := by omega
    have hC1 : (6 : Int) ≤ 6 + (D : Int) := by omega
    have hC2 : (6 : Int) + (D : Int) ≤ 6 + (C : Int) := by omega
    have hC3 : (5 : Int) < 6 + (D : Int) := by omega
    by_cases hyes : ∃ N : Nat, D = 2 * N ∧ z = N
    · obtain ⟨N, hDN, rfl⟩ := hyes
      have hDN' : Hid (D = 2 * N) := hDN
      by_cases hC : C = 0
      · subst hC
        obtain rfl : N = 0 := by omega
        obtain rfl : D = 0 := by omega
        clear hDN hDN'
        refine wp_region_held_drew (S := fun w' => Below w1.heap.size w1 w') (by kernel_rfl) (Below.refl _ _).drew (fun hHeld => ?_)
        generalize w1.drew = V1 at hHeld ⊢
        refine take_at (i := 0) (v := .slice (some ⟨gl, 0, none⟩) (6 + 0) (6 + 0)) rfl rfl (by kernel_rfl) (by kernel_rfl) (by kernel_rfl) (fun _ _ _ h => h) (Or.inl ⟨by rfl, fun X _ => by go_simp⟩) hHeld ?_
        try simp only [Act.put, List.setIfInBounds_toArray, List.set_cons_zero, List.set_cons_succ]
        refine take_at (i := 1) (v := .pointer (some ⟨gl, 5, none⟩)) rfl rfl (by kernel_rfl) (by kernel_rfl) (by kernel_rfl) (fun _ _ _ h => h) (Or.inl ⟨by rfl, fun X _ => by go_simp⟩) hHeld ?_
        try simp only [Act.put, List.setIfInBounds_toArray, List.set_cons_zero, List.set_cons_succ]
        refine take_at (i := 2) (v := .int .i64 ((0 : Nat) : Int)) rfl rfl (by kernel_rfl) (by kernel_rfl) (by kernel_rfl) (fun _ _ _ h => h) (Or.inl ⟨by rfl, fun X hX => by have c5 := (hX.cell (p := ⟨gl, 5, none⟩) hgl2).trans c5; go_simp⟩) hHeld ?_
        try simp only [Act.put, List.setIfInBounds_toArray, List.set_cons_zero, List.set_cons_succ]
        refine take_at (i := 3) (v := .slice (some ⟨gl, 0, none⟩) (6 + 0) (6 + 0)) rfl rfl (by kernel_rfl) (by kernel_rfl) (by kernel_rfl) (fun _ _ _ h => h) (Or.inl ⟨by rfl, fun X _ => by go_simp⟩) hHeld ?_
        try simp only [Act.put, List.setIfInBounds_toArray, List.set_cons_zero, List.set_cons_succ]
        refine take_at (i := 4) (v := .slice (some ⟨gl, 0, none⟩) 0 0) rfl rfl (by kernel_rfl) (by kernel_rfl) (by kernel_rfl) (fun _ _ _ h => h) (Or.inl ⟨by rfl, fun X _ => by go_simp⟩) hHeld ?_
        try simp only [Act.put, List.setIfInBounds_toArray, List.set_cons_zero, List.set_cons_succ]
        refine wpAnyH_ready (rs := [5]) (by kernel_rfl) (by simp) ?_
        refine AllReadyH.cons rfl (fun K hK => ?_) AllReadyH.nil
        rw [if_pos (by rfl)]
        go_wp2_with fail
        refine (opsOf_yes (some ⟨gl, 0, none⟩) gl 0 0 0 (l.drop 6) _ (by decide) (by decide) (fun h => absurd rfl h) (fun j hj => by omega) 0 rfl).mono ?_
        rintro e w5 ⟨u, rfl, o5, n5, b5⟩
        go_wp2_with fail
        have hVs := hHeld.size
        refine hK.out _ _ (bcall hHeld b5) (fun hHeld => ?_)
        clear hK K
        try simp only [Act.put, List.setIfInBounds_toArray, List.set_cons_zero, List.set_cons_succ]
        refine take_at (i := 6) (v := .tuple #[u, .bool true]) rfl rfl (by kernel_rfl) (by kernel_rfl) (by kernel_rfl) (fun _ _ _ h => h) (Or.inl ⟨by rfl, fun X _ => by go_simp⟩) hHeld ?_
        try simp only [Act.put, List.setIfInBounds_toArray, List.set_cons_zero, List.set_cons_succ]
        refine take_at (i := 7) (v := u) rfl rfl (by kernel_rfl) (by kernel_rfl) (by kernel_rfl) (fun _ _ _ h => h) (Or.inl ⟨by rfl, fun X _ => by go_simp⟩) hHeld ?_
        try simp only [Act.put, List.setIfInBounds_toArray, List.set_cons_zero, List.set_cons_succ]
        refine take_at (i := 8) (v := .bool true) rfl rfl (by kernel_rfl) (by kernel_rfl) (by kernel_rfl) (fun _ _ _ h => h) (Or.inl ⟨by rfl, fun X _ => by go_simp⟩) hHeld ?_
        try simp only [Act.put, List.setIfInBounds_toArray, List.set_cons_zero, List.set_cons_succ]
        refine take_at (i := 9) (v := u) rfl rfl (by kernel_rfl) (by kernel_rfl) (by kernel_rfl) (fun _ _ _ h => h) (Or.inl ⟨by rfl, fun X _ => by go_simp⟩) hHeld ?_
        try simp only [Act.put, List.setIfInBounds_toArray, List.set_cons_zero, List.set_cons_succ]
        refine take_at (i := 10) (v := .bool true) rfl rfl (by kernel_rfl) (by kernel_rfl) (by kernel_rfl) (fun _ _ _ h => h) (Or.inl ⟨by rfl, fun X _ => by go_simp⟩) hHeld ?_
        try simp only [Act.put, List.setIfInBounds_toArray, List.set_cons_zero, List.set_cons_succ]
        refine wpAnyH_done (by kernel_rfl) ?_ _
        go_wp2_with fail
        go_meet
        exact ⟨hHeld, .inl ⟨_, rfl, rfl, rfl, own_base o5 hVs, ⟨fun _ => rfl, fun _ => n5.2 trivial⟩⟩⟩
      · have hC' : ¬ (6 + C = 6) := by omega
        have hN5 : N ≤ 500 := by omega
        clear hDN
        refine wp_region_held_drew (S := fun w' => Below w1.heap.size w1 w') (by kernel_rfl) (Below.refl _ _).drew (fun hHeld => ?_)
        generalize w1.drew = V1 at hHeld ⊢
        refine take_at (i := 0) (v := .slice (some ⟨gl, 0, none⟩) (6 + D) (6 + C)) rfl rfl (by kernel_rfl) (by kernel_rfl) (by kernel_rfl) (fun _ _ _ h => h) (Or.inl ⟨by rfl, fun X _ => by go_simp⟩) hHeld ?_
        try simp only [Act.put, List.setIfInBounds_toArray, List.set_cons_zero, List.set_cons_succ]
        refine take_at (i := 1) (v := .pointer (some ⟨gl, 5, none⟩)) rfl rfl (by kernel_rfl) (by kernel_rfl) (by kernel_rfl) (fun _ _ _ h => h) (Or.inl ⟨by rfl, fun X _ => by go_simp⟩) hHeld ?_
        try simp only [Act.put, List.setIfInBounds_toArray, List.set_cons_zero, List.set_cons_succ]
        refine take_at (i := 2) (v := .int .i64 (N : Int)) rfl rfl (by kernel_rfl) (by kernel_rfl) (by kernel_rfl) (fun _ _ _ h => h) (Or.inl ⟨by rfl, fun X hX => by have c5 := (hX.cell (p := ⟨gl, 5, none⟩) hgl2).trans c5; go_simp⟩) hHeld ?_
        try simp only [Act.put, List.setIfInBounds_toArray, List.set_cons_zero, List.set_cons_succ]
        refine take_at (i := 3) (v := .slice (some ⟨gl, 0, none⟩) (6 + D) (6 + C)) rfl rfl (by kernel_rfl) (by kernel_rfl) (by kernel_rfl) (fun _ _ _ h => h) (Or.inl ⟨by rfl, fun X _ => by go_simp⟩) hHeld ?_
        try simp only [Act.put, List.setIfInBounds_toArray, List.set_cons_zero, List.set_cons_succ]
        refine take_at (i := 4) (v := .slice (some ⟨gl, 6, none⟩) D C) rfl rfl (by kernel_rfl) (by kernel_rfl) (by kernel_rfl) (fun _ _ _ h => h) (Or.inl ⟨by rfl, fun X _ => by go_simp⟩) hHeld ?_
        try simp only [Act.put, List.setIfInBounds_toArray, List.set_cons_zero, List.set_cons_succ]
        refine wpAnyH_ready (rs := [5]) (by kernel_rfl) (by simp) ?_
        refine AllReadyH.cons rfl (fun K hK => ?_) AllReadyH.nil
        rw [if_pos (by rfl)]
        go_wp2_with fail
        refine (opsOf_yes (some ⟨gl, 6, none⟩) gl 6 N C (l.drop 6) _ (by omega) (hDN'.out ▸ hDC) (fun _ => ⟨rfl, Nat.lt_of_lt_of_le hgl2 hHeld.size⟩) (fun j hj => (hHeld.cell (p := ⟨gl, 6 + j, none⟩) hgl2).trans (hdrop.out j (by rw [hDN'.out]; exact hj))) D hDN'.out).mono ?_
        rintro e w5 ⟨u, rfl, o5, n5, b5⟩
        go_wp2_with fail
        have hVs := hHeld.size
        refine hK.out _ _ (bcall hHeld b5) (fun hHeld => ?_)
        clear hK K
        try simp only [Act.put, List.setIfInBounds_toArray, List.set_cons_zero, List.set_cons_succ]
        refine take_at (i := 6) (v := .tuple #[u, .bool true]) rfl rfl (by kernel_rfl) (by kernel_rfl) (by kernel_rfl) (fun _ _ _ h => h) (Or.inl ⟨by rfl, fun X _ => by go_simp⟩) hHeld ?_
        try simp only [Act.put, List.setIfInBounds_toArray, List.set_cons_zero, List.set_cons_succ]
        refine take_at (i := 7) (v := u) rfl rfl (by kernel_rfl) (by kernel_rfl) (by kernel_rfl) (fun _ _ _ h => h) (Or.inl ⟨by rfl, fun X _ => by go_simp⟩) hHeld ?_
        try simp only [Act.put, List.setIfInBounds_toArray, List.set_cons_zero, List.set_cons_succ]
        refine take_at (i := 8) (v := .bool true) rfl rfl (by kernel_rfl) (by kernel_rfl) (by kernel_rfl) (fun _ _ _ h => h) (Or.inl ⟨by rfl, fun X _ => by go_simp⟩) hHeld ?_
        try simp only [Act.put, List.setIfInBounds_toArray, List.set_cons_zero, List.set_cons_succ]
        refine take_at (i := 9) (v := u) rfl rfl (by kernel_rfl) (by kernel_rfl) (by kernel_rfl) (fun _ _ _ h => h) (Or.inl ⟨by rfl, fun X _ => by go_simp⟩) hHeld ?_
        try simp only [Act.put, List.setIfInBounds_toArray, List.set_cons_zero, List.set_cons_succ]
        refine take_at (i := 10) (v := .bool true) rfl rfl (by kernel_rfl) (by kernel_rfl) (by kernel_rfl) (fun _ _ _ h => h) (Or.inl ⟨by rfl, fun X _ => by go_simp⟩) hHeld ?_
        try simp only [Act.put, List.setIfInBounds_toArray, List.set_cons_zero, List.set_cons_succ]
        refine wpAnyH_done (by kernel_rfl) ?_ _
        go_wp2_with fail
        go_meet
        exact ⟨hHeld, .inl ⟨_, hDN'.out, rfl, rfl, own_base o5 hVs, n5⟩⟩
    · have hno : D % 2 = 0 → ((D / 2 : Nat) : Int) ≠ z := fun h0 h => hyes ⟨D / 2, by omega, h.symm⟩
      by_cases hC : C = 0
      · subst hC
        obtain rfl : D = 0 := by omega
        refine wp_region_held_drew (S := fun w' => Below w1.heap.size w1 w') (by kernel_rfl) (Below.refl _ _).drew (fun hHeld => ?_)
        generalize w1.drew = V1 at hHeld ⊢
        refine take_at (i := 0) (v := .slice (some ⟨gl, 0, none⟩) (6 + 0) (6 + 0)) rfl rfl (by kernel_rfl) (by kernel_rfl) (by kernel_rfl) (fun _ _ _ h => h) (Or.inl ⟨by rfl, fun X _ => by go_simp⟩) hHeld ?_
        try simp only [Act.put, List.setIfInBounds_toArray, List.set_cons_zero, List.set_cons_succ]
        refine take_at (i := 1) (v := .pointer (some ⟨gl, 5, none⟩)) rfl rfl (by kernel_rfl) (by kernel_rfl) (by kernel_rfl) (fun _ _ _ h => h) (Or.inl ⟨by rfl, fun X _ => by go_simp⟩) hHeld ?_
        try simp only [Act.put, List.setIfInBounds_toArray, List.set_cons_zero, List.set_cons_succ]
        refine take_at (i := 2) (v := .int .i64 z) rfl rfl (by kernel_rfl) (by kernel_rfl) (by kernel_rfl) (fun _ _ _ h => h) (Or.inl ⟨by rfl, fun X hX => by have c5 := (hX.cell (p := ⟨gl, 5, none⟩) hgl2).trans c5; go_simp⟩) hHeld ?_
        try simp only [Act.put, List.setIfInBounds_toArray, List.set_cons_zero, List.set_cons_succ]
        refine take_at (i := 3) (v := .slice (some ⟨gl, 0, none⟩) (6 + 0) (6 + 0)) rfl rfl (by kernel_rfl) (by kernel_rfl) (by kernel_rfl) (fun _ _ _ h => h) (Or.inl ⟨by rfl, fun X _ => by go_simp⟩) hHeld ?_
        try simp only [Act.put, List.setIfInBounds_toArray, List.set_cons_zero, List.set_cons_succ]
        refine take_at (i := 4) (v := .slice (some ⟨gl, 0, none⟩) 0 0) rfl rfl (by kernel_rfl) (by kernel_rfl) (by kernel_rfl) (fun _ _ _ h => h) (Or.inl ⟨by rfl, fun X _ => by go_simp⟩) hHeld ?_
        try simp only [Act.put, List.setIfInBounds_toArray, List.set_cons_zero, List.set_cons_succ]
        refine wpAnyH_ready (rs := [5]) (by kernel_rfl) (by simp) ?_
        refine AllReadyH.cons rfl (fun K hK => ?_) AllReadyH.nil
        rw [if_pos (by rfl)]
        go_wp2_with fail
        refine (opsOf_no _ z 0 _ _ (fun _ => hno trivial) (by omega)).mono ?_
        rintro e w' ⟨rfl, he⟩; obtain rfl := he.symm; clear he
        go_wp2_with fail
        refine hK.out _ _ (hHeld) (fun hHeld => ?_)
        clear hK K
        try simp only [Act.put, List.setIfInBounds_toArray, List.set_cons_zero, List.set_cons_succ]
        refine take_at (i := 6) (v := .tuple #[.slice none 0 0, .bool false]) rfl rfl (by kernel_rfl) (by kernel_rfl) (by kernel_rfl) (fun _ _ _ h => h) (Or.inl ⟨by rfl, fun X _ => by go_simp⟩) hHeld ?_
        try simp only [Act.put, List.setIfInBounds_toArray, List.set_cons_zero, List.set_cons_succ]
        refine take_at (i := 7) (v := .slice none 0 0) rfl rfl (by kernel_rfl) (by kernel_rfl) (by kernel_rfl) (fun _ _ _ h => h) (Or.inl ⟨by rfl, fun X _ => by go_simp⟩) hHeld ?_
        try simp only [Act.put, List.setIfInBounds_toArray, List.set_cons_zero, List.set_cons_succ]
        refine take_at (i := 8) (v := .bool false) rfl rfl (by kernel_rfl) (by kernel_rfl) (by kernel_rfl) (fun _ _ _ h => h) (Or.inl ⟨by rfl, fun X _ => by go_simp⟩) hHeld ?_
        try simp only [Act.put, List.setIfInBounds_toArray, List.set_cons_zero, List.set_cons_succ]
        refine take_at (i := 9) (v := .slice none 0 0) rfl rfl (by kernel_rfl) (by kernel_rfl) (by kernel_rfl) (fun _ _ _ h => h) (Or.inl ⟨by rfl, fun X _ => by go_simp⟩) hHeld ?_
        try simp only [Act.put, List.setIfInBounds_toArray, List.set_cons_zero, List.set_cons_succ]
        refine take_at (i := 10) (v := .bool false) rfl rfl (by kernel_rfl) (by kernel_rfl) (by kernel_rfl) (fun _ _ _ h => h) (Or.inl ⟨by rfl, fun X _ => by go_simp⟩) hHeld ?_
        try simp only [Act.put, List.setIfInBounds_toArray, List.set_cons_zero, List.set_cons_succ]
        refine wpAnyH_done (by kernel_rfl) ?_ _
        go_wp2_with fail
        go_meet
        exact ⟨hHeld, .inr ⟨fun N h1 h2 => hyes ⟨N, h1, h2⟩, rfl⟩⟩
      · have hC' : ¬ (6 + C = 6) := by omega
        refine wp_region_held_drew (S := fun w' => Below w1.heap.size w1 w') (by kernel_rfl) (Below.refl _ _).drew (fun hHeld => ?_)
        generalize w1.drew = V1 at hHeld ⊢
        refine take_at (i := 0) (v := .slice (some ⟨gl, 0, none⟩) (6 + D) (6 + C)) rfl rfl (by kernel_rfl) (by kernel_rfl) (by kernel_rfl) (fun _ _ _ h => h) (Or.inl ⟨by rfl, fun X _ => by go_simp⟩) hHeld ?_
        try simp only [Act.put, List.setIfInBounds_toArray, List.set_cons_zero, List.set_cons_succ]
        refine take_at (i := 1) (v := .pointer (some ⟨gl, 5, none⟩)) rfl rfl (by kernel_rfl) (by kernel_rfl) (by kernel_rfl) (fun _ _ _ h => h) (Or.inl ⟨by rfl, fun X _ => by go_simp⟩) hHeld ?_
        try simp only [Act.put, List.setIfInBounds_toArray, List.set_cons_zero, List.set_cons_succ]
        refine take_at (i := 2) (v := .int .i64 z) rfl rfl (by kernel_rfl) (by kernel_rfl) (by kernel_rfl) (fun _ _ _ h => h) (Or.inl ⟨by rfl, fun X hX => by have c5 := (hX.cell (p := ⟨gl, 5, none⟩) hgl2).trans c5; go_simp⟩) hHeld ?_
        try simp only [Act.put, List.setIfInBounds_toArray, List.set_cons_zero, List.set_cons_succ]
        refine take_at (i := 3) (v := .slice (some ⟨gl, 0, none⟩) (6 + D) (6 + C)) rfl rfl (by kernel_rfl) (by kernel_rfl) (by kernel_rfl) (fun _ _ _ h => h) (Or.inl ⟨by rfl, fun X _ => by go_simp⟩) hHeld ?_
        try simp only [Act.put, List.setIfInBounds_toArray, List.set_cons_zero, List.set_cons_succ]
        refine take_at (i := 4) (v := .slice (some ⟨gl, 6, none⟩) D C) rfl rfl (by kernel_rfl) (by kernel_rfl) (by kernel_rfl) (fun _ _ _ h => h) (Or.inl ⟨by rfl, fun X _ => by go_simp⟩) hHeld ?_
        try simp only [Act.put, List.setIfInBounds_toArray, List.set_cons_zero, List.set_cons_succ]
        refine wpAnyH_ready (rs := [5]) (by kernel_rfl) (by simp) ?_
        refine AllReadyH.cons rfl (fun K hK => ?_) AllReadyH.nil
        rw [if_pos (by rfl)]
        go_wp2_with fail
        refine (opsOf_no _ z D _ _ hno (by omega)).mono ?_
        rintro e w' ⟨rfl, he⟩; obtain rfl := he.symm; clear he
        go_wp2_with fail
        refine hK.out _ _ (hHeld) (fun hHeld => ?_)
        clear hK K
        try simp only [Act.put, List.setIfInBounds_toArray, List.set_cons_zero, List.set_cons_succ]
        refine take_at (i := 6) (v := .tuple #[.slice none 0 0, .bool false]) rfl rfl (by kernel_rfl) (by kernel_rfl) (by kernel_rfl) (fun _ _ _ h => h) (Or.inl ⟨by rfl, fun X _ => by go_simp⟩) hHeld ?_
        try simp only [Act.put, List.setIfInBounds_toArray, List.set_cons_zero, List.set_cons_succ]
        refine take_at (i := 7) (v := .slice none 0 0) rfl rfl (by kernel_rfl) (by kernel_rfl) (by kernel_rfl) (fun _ _ _ h => h) (Or.inl ⟨by rfl, fun X _ => by go_simp⟩) hHeld ?_
        try simp only [Act.put, List.setIfInBounds_toArray, List.set_cons_zero, List.set_cons_succ]
        refine take_at (i := 8) (v := .bool false) rfl rfl (by kernel_rfl) (by kernel_rfl) (by kernel_rfl) (fun _ _ _ h => h) (Or.inl ⟨by rfl, fun X _ => by go_simp⟩) hHeld ?_
        try simp only [Act.put, List.setIfInBounds_toArray, List.set_cons_zero, List.set_cons_succ]
        refine take_at (i := 9) (v := .slice none 0 0) rfl rfl (by kernel_rfl) (by kernel_rfl) (by kernel_rfl) (fun _ _ _ h => h) (Or.inl ⟨by rfl, fun X _ => by go_simp⟩) hHeld ?_
        try simp only [Act.put, List.setIfInBounds_toArray, List.set_cons_zero, List.set_cons_succ]
        refine take_at (i := 10) (v := .bool false) rfl rfl (by kernel_rfl) (by kernel_rfl) (by kernel_rfl) (fun _ _ _ h => h) (Or.inl ⟨by rfl, fun X _ => by go_simp⟩) hHeld ?_
        try simp only [Act.put, List.setIfInBounds_toArray, List.set_cons_zero, List.set_cons_succ]
        refine wpAnyH_done (by kernel_rfl) ?_ _
        go_wp2_with fail
        go_meet
        exact ⟨hHeld, .inr ⟨fun N h1 h2 => hyes ⟨N, h1, h2⟩, rfl⟩⟩
  case rest =>
    obtain ⟨bx, hx⟩ := hcut
    obtain ⟨V, hVe⟩ : ∃ V, V = wc := ⟨_, rfl⟩
    subst hVe
    have hgw0 := k1.lt
    have k2 := k1.call bx
    have bb2 := bcall bb bx
    have e0 := (bx.cell (p := ⟨gl, 0, none⟩) hgl2).trans (hrd.out 0 (by have := hD.out; omega))
    have e1 := (bx.cell (p := ⟨gl, 1, none⟩) hgl2).trans (hrd.out 1 (by have := hD.out; omega))
    have e2 := (bx.cell (p := ⟨gl, 2, none⟩) hgl2).trans (hrd.out 2 (by have := hD.out; omega))
    have e3 := (bx.cell (p := ⟨gl, 3, none⟩) hgl2).trans (hrd.out 3 (by have := hD.out; omega))
    have e4 := (bx.cell (p := ⟨gl, 4, none⟩) hgl2).trans (hrd.out 4 (by have := hD.out; omega))
    have hgl3 : gl < V.heap.size := Nat.lt_of_lt_of_le hgl2 bx.size
    clear hrd hdrop k1 c5
    rcases hx with ⟨N, hDN, rfl, rfl, o2, n2⟩ | ⟨hno, rfl⟩
    case inr =>
      clear e0 e1 e2 e3 e4
      have c0 := k2.c0
      have c1 := k2.c1
      have c2 := k2.c2
      have c3 := k2.c3
      have c4 := k2.c4
      have c5 := k2.c5
      have f0 := k2.free 0
      have f1 := k2.free 1
      have f2 := k2.free 2
      have f3 := k2.free 3
      have f4 := k2.free 4
      have f5 := k2.free 5
      go_wp2_with fail
      have z := k2.set6 (.slice none 0 0) 0 0 0 0 0
      have z0 := z.c0
      have z1 := z.c1
      have z2 := z.c2
      have z3 := z.c3
      have z4 := z.c4
      have z5 := z.c5
      refine bodyPost_ret (v := .tuple #[zp, .bool false]) (by simp [results, Try.results9, go_sem, z0, z1, z2, z3, z4, z5]) rfl (.inr ⟨no_count hgot'.out (fun N h1 h2 => hno N (by have := hD.out; omega) (by rw [← hz.out]; exact h2)), rfl, below_set6 (hg.out ▸ bb2) hgle _ _ _ _ _ _⟩)
    have o2' : Hid (V.ownsRow w1.heap.size 23 2 u6 N (opl (pairs (l.drop 6) N))) := o2
    have hDN' : Hid (D = 2 * N) := hDN
    obtain ⟨oa, oc, rfl⟩ : ∃ oa oc, u6 = .slice oa N oc := by
      obtain ⟨_, h | ⟨g', cap', cur, rfl, _⟩⟩ := o2
      · rw [h.2, h.1]; exact ⟨_, _, rfl⟩
      · exact ⟨_, _, rfl⟩
    clear o2 hDN
    obtain ⟨p, hp⟩ : ∃ p, Hid (pipeOf l = p) := ⟨_, rfl⟩
    have hlen6 : Hid (l.length = 6 + 2 * N) := by have h := hD.out; rw [hDN'.out] at h; exact h
    have hpf : Hid (PFits p) := by have h := fits_pipeOf hfits.out (by have := hD.out; omega) N hlen6.out hz.out; rw [hp.out] at h; exact h
    have hpn : Hid (nums p = l) := by have h := nums_pipeOf l (by have := hD.out; omega) N hlen6.out hz.out; rw [hp.out] at h; exact h
    have hpp : Hid (p = ⟨pairs (l.drop 6) N, l.getD 0 0, l.getD 1 0, l.getD 2 0, l.getD 3 0, l.getD 4 0⟩) := by
      have h : pipeOf l = ⟨pairs (l.drop 6) N, l.getD 0 0, l.getD 1 0, l.getD 2 0, l.getD 3 0, l.getD 4 0⟩ := by
        unfold pipeOf
        rw [show (l.length - 6) / 2 = N by have := hlen6.out; omega]
      rw [hp.out] at h
      exact h
    obtain ⟨os, y0, y1, y2, y3, y4⟩ := p
    have hq := hpp.out
    injection hq with q0 q1 q2 q3 q4 q5
    rw [← q1] at e0
    rw [← q2] at e1
    rw [← q3] at e2
    rw [← q4] at e3
    rw [← q5] at e4
    have o3 : Hid (V.ownsRow w1.heap.size 23 2 (.slice oa N oc) N (opl os) ∧ os.length = N) := by
      have h : V.ownsRow w1.heap.size 23 2 (.slice oa N oc) N (opl os) ∧ os.length = N := by rw [q0]; exact ⟨o2'.out, pairs_len _ _⟩
      exact h
    clear q0 q1 q2 q3 q4 q5 hpp o2'
    go_upto_region 9 with fail
    go_cut [7] (fun q wx => ∃ gp, q = .pointer (some ⟨gp, 0, none⟩) ∧ Pik wx gp (.slice oa N oc) y0 y1 y2 y3 y4 ∧ Below V.heap.size V wx)
    case first =>
      have hC0 : (0 : Int) < 6 + (D : Int) := by omega
      have hC1 : (1 : Int) < 6 + (D : Int) := by omega
      have hC2 : (2 : Int) < 6 + (D : Int) := by omega
      have hC3 : (3 : Int) < 6 + (D : Int) := by omega
      have hC4 : (4 : Int) < 6 + (D : Int) := by omega
      refine wp_region_held_drew (S := fun w' => Below V.heap.size V w') (by kernel_rfl) (Below.refl _ _).drew (fun hHeld => ?_)
      generalize V.drew = V1 at hHeld ⊢
      have hH1 := hHeld
      refine take_at (i := 0) (v := (.slice oa N oc)) rfl rfl (by kernel_rfl) (by kernel_rfl) (by kernel_rfl) (fun _ _ _ h => h) (Or.inl ⟨by rfl, fun X _ => by go_simp⟩) hHeld ?_
      try simp only [Act.put, List.setIfInBounds_toArray, List.set_cons_zero, List.set_cons_succ]
      refine take_at (i := 1) (v := .slice (some ⟨gl, 0, none⟩) (6 + D) (6 + C)) rfl rfl (by kernel_rfl) (by kernel_rfl) (by kernel_rfl) (fun _ _ _ h => h) (Or.inl ⟨by rfl, fun X _ => by go_simp⟩) hHeld ?_
      try simp only [Act.put, List.setIfInBounds_toArray, List.set_cons_zero, List.set_cons_succ]
      refine take_at (i := 2) (v := .pointer (some ⟨gl, 0, none⟩)) rfl rfl (by kernel_rfl) (by kernel_rfl) (by kernel_rfl) (fun _ _ _ h => h) (Or.inl ⟨by rfl, fun X _ => by go_simp⟩) hHeld ?_
      try simp only [Act.put, List.setIfInBounds_toArray, List.set_cons_zero, List.set_cons_succ]
      refine take_at (i := 3) (v := .int .i64 y0) rfl rfl (by kernel_rfl) (by kernel_rfl) (by kernel_rfl) (fun _ _ _ h => h) (Or.inl ⟨by rfl, fun X hX => by have e := (hX.cell (p := ⟨gl, 0, none⟩) hgl3).trans e0; go_simp⟩) hHeld ?_
      try simp only [Act.put, List.setIfInBounds_toArray, List.set_cons_zero, List.set_cons_succ]
      refine take_at (i := 4) (v := .slice (some ⟨gl, 0, none⟩) (6 + D) (6 + C)) rfl rfl (by kernel_rfl) (by kernel_rfl) (by kernel_rfl) (fun _ _ _ h => h) (Or.inl ⟨by rfl, fun X _ => by go_simp⟩) hHeld ?_
      try simp only [Act.put, List.setIfInBounds_toArray, List.set_cons_zero, List.set_cons_succ]
      refine take_at (i := 5) (v := .pointer (some ⟨gl, 1, none⟩)) rfl rfl (by kernel_rfl) (by kernel_rfl) (by kernel_rfl) (fun _ _ _ h => h) (Or.inl ⟨by rfl, fun X _ => by go_simp⟩) hHeld ?_
      try simp only [Act.put, List.setIfInBounds_toArray, List.set_cons_zero, List.set_cons_succ]
      refine take_at (i := 6) (v := .int .i64 y1) rfl rfl (by kernel_rfl) (by kernel_rfl) (by kernel_rfl) (fun _ _ _ h => h) (Or.inl ⟨by rfl, fun X hX => by have e := (hX.cell (p := ⟨gl, 1, none⟩) hgl3).trans e1; go_simp⟩) hHeld ?_
      try simp only [Act.put, List.setIfInBounds_toArray, List.set_cons_zero, List.set_cons_succ]
      refine take_at (i := 7) (v := .slice (some ⟨gl, 0, none⟩) (6 + D) (6 + C)) rfl rfl (by kernel_rfl) (by kernel_rfl) (by kernel_rfl) (fun _ _ _ h => h) (Or.inl ⟨by rfl, fun X _ => by go_simp⟩) hHeld ?_
      try simp only [Act.put, List.setIfInBounds_toArray, List.set_cons_zero, List.set_cons_succ]
      refine take_at (i := 8) (v := .pointer (some ⟨gl, 2, none⟩)) rfl rfl (by kernel_rfl) (by kernel_rfl) (by kernel_rfl) (fun _ _ _ h => h) (Or.inl ⟨by rfl, fun X _ => by go_simp⟩) hHeld ?_
      try simp only [Act.put, List.setIfInBounds_toArray, List.set_cons_zero, List.set_cons_succ]
      refine take_at (i := 9) (v := .int .i64 y2) rfl rfl (by kernel_rfl) (by kernel_rfl) (by kernel_rfl) (fun _ _ _ h => h) (Or.inl ⟨by rfl, fun X hX => by have e := (hX.cell (p := ⟨gl, 2, none⟩) hgl3).trans e2; go_simp⟩) hHeld ?_
      try simp only [Act.put, List.setIfInBounds_toArray, List.set_cons_zero, List.set_cons_succ]
      refine take_at (i := 10) (v := .slice (some ⟨gl, 0, none⟩) (6 + D) (6 + C)) rfl rfl (by kernel_rfl) (by kernel_rfl) (by kernel_rfl) (fun _ _ _ h => h) (Or.inl ⟨by rfl, fun X _ => by go_simp⟩) hHeld ?_
      try simp only [Act.put, List.setIfInBounds_toArray, List.set_cons_zero, List.set_cons_succ]
      refine take_at (i := 11) (v := .pointer (some ⟨gl, 3, none⟩)) rfl rfl (by kernel_rfl) (by kernel_rfl) (by kernel_rfl) (fun _ _ _ h => h) (Or.inl ⟨by rfl, fun X _ => by go_simp⟩) hHeld ?_
      try simp only [Act.put, List.setIfInBounds_toArray, List.set_cons_zero, List.set_cons_succ]
      refine take_at (i := 12) (v := .int .i64 y3) rfl rfl (by kernel_rfl) (by kernel_rfl) (by kernel_rfl) (fun _ _ _ h => h) (Or.inl ⟨by rfl, fun X hX => by have e := (hX.cell (p := ⟨gl, 3, none⟩) hgl3).trans e3; go_simp⟩) hHeld ?_
      try simp only [Act.put, List.setIfInBounds_toArray, List.set_cons_zero, List.set_cons_succ]
      refine take_at (i := 13) (v := .slice (some ⟨gl, 0, none⟩) (6 + D) (6 + C)) rfl rfl (by kernel_rfl) (by kernel_rfl) (by kernel_rfl) (fun _ _ _ h => h) (Or.inl ⟨by rfl, fun X _ => by go_simp⟩) hHeld ?_
      try simp only [Act.put, List.setIfInBounds_toArray, List.set_cons_zero, List.set_cons_succ]
      refine take_at (i := 14) (v := .pointer (some ⟨gl, 4, none⟩)) rfl rfl (by kernel_rfl) (by kernel_rfl) (by kernel_rfl) (fun _ _ _ h => h) (Or.inl ⟨by rfl, fun X _ => by go_simp⟩) hHeld ?_
      try simp only [Act.put, List.setIfInBounds_toArray, List.set_cons_zero, List.set_cons_succ]
      refine take_at (i := 15) (v := .int .i64 y4) rfl rfl (by kernel_rfl) (by kernel_rfl) (by kernel_rfl) (fun _ _ _ h => h) (Or.inl ⟨by rfl, fun X hX => by have e := (hX.cell (p := ⟨gl, 4, none⟩) hgl3).trans e4; go_simp⟩) hHeld ?_
      try simp only [Act.put, List.setIfInBounds_toArray, List.set_cons_zero, List.set_cons_succ]
      refine take_at (i := 16) (v := pv (.slice oa N oc) y0 y1 y2 y3 y4) rfl rfl (by kernel_rfl) (by kernel_rfl) (by kernel_rfl) (fun _ _ _ h => h) (Or.inl ⟨by rfl, fun X _ => by go_simp⟩) hHeld ?_
      try simp only [Act.put, List.setIfInBounds_toArray, List.set_cons_zero, List.set_cons_succ]
      refine wpAnyH_ready (rs := [17]) (by kernel_rfl) (by simp) ?_
      refine AllReadyH.cons rfl (fun K hK => ?_) AllReadyH.nil
      rw [if_pos (by rfl)]
      go_simp
      refine hK.out _ _ (bnew hHeld _) (fun hHeld => ?_)
      clear hK K
      try simp only [Act.put, List.setIfInBounds_toArray, List.set_cons_zero, List.set_cons_succ]
      refine wpAnyH_ready (rs := [18]) (by kernel_rfl) (by simp) ?_
      refine AllReadyH.cons rfl (fun K hK => ?_) AllReadyH.nil
      rw [if_pos (by rfl)]
      go_simp
      refine hK.out _ _ (bnew hH1 _) (fun hHeld => ?_)
      clear hK K
      try simp only [Act.put, List.setIfInBounds_toArray, List.set_cons_zero, List.set_cons_succ]
      refine wpAnyH_done (by kernel_rfl) ?_ _
      go_wp2_with fail
      go_meet
      exact ⟨_, rfl, pik_new _ _ _ _ _ _ _, hHeld⟩
    case rest =>
      obtain ⟨gp, rfl, kp, bp⟩ := hcut
      have k3 := k2.call bp
      have bb3 := bcall bb2 bp
      have o4 : Hid (wc.ownsRow w1.heap.size 23 2 (.slice oa N oc) N (opl os)) := own_below o3.out.1 bp
      have rd4 : RdO wc (.slice oa N oc) os := rd_opl o4.out o3.out.2 hpf.out.1
      have d0 := kp.c0
      have d1 := kp.c1
      have d2 := kp.c2
      have d3 := kp.c3
      have d4 := kp.c4
      have d5 := kp.c5
      have hgw : g < w1.heap.size := hgw0
      obtain ⟨r, hr⟩ : ∃ r, Hid (rightP ⟨os, y0, y1, y2, y3, y4⟩ = r) := ⟨_, rfl⟩
      clear e0 e1 e2 e3 e4 k2 bb2
      go_wp2_with fail
      refine (pright_is (.slice oa N oc) os y0 y1 y2 y3 y4 r _ rd4 hr.out).mono ?_
      rintro e w6 ⟨rfl, b6⟩
      have k6 := k3.call b6
      have p6 := kp.call b6
      have bb6 := bcall bb3 b6
      have o6 : Hid (w6.ownsRow w1.heap.size 23 2 (.slice oa N oc) N (opl os)) := own_below o4.out b6
      clear d0 d1 d2 d3 d4 d5 k3 kp bb3 o4 rd4 bp b6
      cases r
      · skip
        have c0 := k6.c0
        have c1 := k6.c1
        have c2 := k6.c2
        have c3 := k6.c3
        have c4 := k6.c4
        have c5 := k6.c5
        have f0 := k6.free 0
        have f1 := k6.free 1
        have f2 := k6.free 2
        have f3 := k6.free 3
        have f4 := k6.free 4
        have f5 := k6.free 5
        go_wp2_with fail
        have z := k6.set6 (.slice none 0 0) 0 0 0 0 0
        have z0 := z.c0
        have z1 := z.c1
        have z2 := z.c2
        have z3 := z.c3
        have z4 := z.c4
        have z5 := z.c5
        refine bodyPost_ret (v := .tuple #[zp, .bool false]) (by simp [results, Try.results9, go_sem, z0, z1, z2, z3, z4, z5]) rfl (.inr ⟨no_right hgot'.out (by have := hD.out; omega) N hlen6.out hz.out (by rw [hp.out]; exact hr.out), rfl, below_set6 (hg.out ▸ bb6) hgle _ _ _ _ _ _⟩)
      have c0 := k6.c0
      have c1 := k6.c1
      have c2 := k6.c2
      have c3 := k6.c3
      have c4 := k6.c4
      have c5 := k6.c5
      have f0 := k6.free 0
      have f1 := k6.free 1
      have f2 := k6.free 2
      have f3 := k6.free 3
      have f4 := k6.free 4
      have f5 := k6.free 5
      have d0 := p6.c0
      have d1 := p6.c1
      have d2 := p6.c2
      have d3 := p6.c3
      have d4 := p6.c4
      have d5 := p6.c5
      go_wp2_with fail
      have z := k6.set6 (.slice oa N oc) y0 y1 y2 y3 y4
      have z0 := z.c0
      have z1 := z.c1
      have z2 := z.c2
      have z3 := z.c3
      have z4 := z.c4
      have z5 := z.c5
      refine bodyPost_ret (v := .tuple #[pv (.slice oa N oc) y0 y1 y2 y3 y4, .bool true]) (by simp [results, Try.results9, go_sem, z0, z1, z2, z3, z4, z5]) rfl (.inl ⟨⟨os, y0, y1, y2, y3, y4⟩, (.slice oa N oc), hr.out, hpf.out, ?_, rfl, ?_, ?_, below_set6 (hg.out ▸ bb6) hgle _ _ _ _ _ _⟩)
      · rw [hpn.out]; exact (got_some bs l hb2.out hgot'.out).1
      · rw [o3.out.2]
        refine own_base (own_heap o6.out (fun k hk => ?_)) bb.size
        have hne : k ≠ g := by have := hg.out; omega
        rw [Below.heap_setCell _ _ _ _ hne, Below.heap_setCell _ _ _ _ hne, Below.heap_setCell _ _ _ _ hne, Below.heap_setCell _ _ _ _ hne, Below.heap_setCell _ _ _ _ hne, Below.heap_setCell _ _ _ _ hne]
      · rw [o3.out.2]; exact n2
end Go.Proofs.Ytimeglhoiibhdaa
