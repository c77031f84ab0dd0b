/- Lists of operations, pipes: are they the same? cordonbook.Same, slices.Equal, cordonkeep.Pipes, pipe.same, pipe.Same. -/
import Derived.Test.YtimeglhoiibhdaaDecode
namespace Go.Proofs.Ytimeglhoiibhdaa
open Go.RowKit M
theorem take_sameO (z1 z2 : List Oq) (k : Nat) (h1 : k < z1.length) (h2 : k < z2.length) (a : Oq) (e1 : opAt z1 k = a) (e2 : opAt z2 k = a) (h : z1.take k = z2.take k) : z1.take (k + 1) = z2.take (k + 1) := by
  rw [take_snoc' z1 ⟨0, 0⟩ k h1, take_snoc' z2 ⟨0, 0⟩ k h2]
  show _ ++ [opAt z1 k] = _ ++ [opAt z2 k]
  rw [e1, e2, h]

set_option maxHeartbeats 1000000 in
set_option maxRecDepth 100000 in
/-- cordonbook.Same of operations. -/
theorem same_ops (v1 v2 : Value) (z1 z2 : List Oq) (w : World) (p : Bool) (h1 : RdO w v1 z1) (h2 : RdO w v2 z2) (hp : p = true ↔ z1 = z2) :
    Calls Try.prog 22 #[v1, v2] w fun e w' => e = .returned (.bool p) ∧ Below w.heap.size w w' := by
  have hp' : Hid (p = true ↔ z1 = z2) := hp
  clear hp
  obtain ⟨hl1, _, ao, cap, rfl, _, _, hc0⟩ := h1
  obtain ⟨hl2, _, ao2, cap2, rfl, _, _, hc2⟩ := h2
  by_cases hne : z1.length = z2.length
  · rw [← hne] at hc2 hl2 ⊢
    have hc' : Hid (z1.length ≠ 0 → ∃ b off, ao = some ⟨b, off, none⟩ ∧ b < w.heap.size ∧ ∀ j, j < z1.length → OpAt w b (off + j * 2) (opAt z1 j)) := hc0
    have hd' : Hid (z1.length ≠ 0 → ∃ b off, ao2 = some ⟨b, off, none⟩ ∧ b < w.heap.size ∧ ∀ j, j < z1.length → OpAt w b (off + j * 2) (opAt z2 j)) := hc2
    have hne' : Hid (z1.length = z2.length) := hne
    clear hc0 hc2 hne hl2
    obtain ⟨m, hm⟩ : ∃ m, Hid (z1.length = m) := ⟨_, rfl⟩
    rw [hm.out] at hc' hd' hl1 hne' ⊢
    go_enter Try.func22, Try.ntmps22
    go_wp2_with fail
    go_loopw [5] (fun i wr => ∃ k n : Nat, k ≤ m ∧ i = .int .i64 k ∧ wr = w.drewN n ∧ Hid (z1.take k = z2.take k)) (fun i _ => m - (intOf i).toNat)
    case atStart => exact ⟨0, 0, Nat.zero_le _, rfl, rfl, rfl⟩
    case round =>
      obtain ⟨k, n, hk, rfl, rfl, hs⟩ := hrel
      by_cases hlt : k < m
      · obtain ⟨b, off, rfl, _, hc⟩ := hc'.out (by omega)
        obtain ⟨b2, off2, rfl, _, hd⟩ := hd'.out (by omega)
        obtain ⟨p0, p1⟩ := hc k hlt
        obtain ⟨q0, q1⟩ := hd k hlt
        clear hc hd hc' hd'
        obtain ⟨⟨x, y⟩, hx⟩ : ∃ x, Hid (opAt z1 k = x) := ⟨_, rfl⟩
        obtain ⟨⟨x', y'⟩, hy⟩ : ∃ x, Hid (opAt z2 k = x) := ⟨_, rfl⟩
        rw [hx.out] at p0 p1
        rw [hy.out] at q0 q1
        simp only at p0 p1 q0 q1
        by_cases hxx : x = x' ∧ y = y'
        · obtain ⟨rfl, rfl⟩ := hxx
          have hs2 : Hid (z1.take (k + 1) = z2.take (k + 1)) := take_sameO z1 z2 k (by have := hm.out; omega) (by have := hne'.out; omega) ⟨x, y⟩ hx.out hy.out hs.out
          clear hx hy hs
          go_wp2_with fail
          go_quiet (fail)
          go_wp2_with fail
          go_roundw
          case rel => exact ⟨k + 1, n + nq, by omega, by go_num, rfl, hs2⟩
          case measure => simp [intOf]; omega
        · have hd : Hid (p = false) := by
            have h : p = false := by
              rw [Bool.eq_false_iff]
              intro h
              have e := hp'.out.1 h
              rw [e, hy.out] at hx
              have := hx.out
              injection this with e1 e2
              exact hxx ⟨e1.symm, e2.symm⟩
            exact h
          clear hx hy hs
          by_cases hx1 : x = x'
          · subst hx1
            have hy1 : ¬ y = y' := fun h => hxx ⟨rfl, h⟩
            clear hxx
            have hy2 : (y == y') = false := by simpa using hy1
            go_wp2_with fail
            go_quiet (fail)
            go_wp2_with fail
            go_ret
            exact ⟨ret_bool hd.out.symm, below_drewN (below_drewN (Below.refl _ _) _) _⟩
          · clear hxx
            have hx2 : (x == x') = false := by simpa using hx1
            go_wp2_with fail
            go_quiet (fail)
            go_wp2_with fail
            go_ret
            exact ⟨ret_bool hd.out.symm, below_drewN (below_drewN (Below.refl _ _) _) _⟩
      · have hd : Hid (p = true) := by
          have h : p = true := by
            refine hp'.out.2 ?_
            have e := hs.out
            rw [List.take_of_length_le (by have := hm.out; omega), List.take_of_length_le (by have := hne'.out; omega)] at e
            exact e
          exact h
        clear hs
        go_wp2_with fail
        go_ret
        exact ⟨ret_bool hd.out.symm, below_drewN (Below.refl _ _) _⟩
  · have hd : Hid (p = false) := by
      have h : p = false := by
        rw [Bool.eq_false_iff]
        intro h
        exact hne (by rw [hp'.out.1 h])
      exact h
    have hne2 : ((z1.length : Int) != (z2.length : Int)) = true := by simp; omega
    clear hc0 hc2 hp'
    go_enter Try.func22, Try.ntmps22
    go_wp2_with fail
    go_ret
    exact ⟨ret_bool hd.out.symm, Below.refl _ _⟩

set_option maxHeartbeats 1000000 in
set_option maxRecDepth 100000 in
/-- slices.Equal of operations. -/
theorem equal_ops (v1 v2 : Value) (z1 z2 : List Oq) (w : World) (p : Bool) (h1 : RdO w v1 z1) (h2 : RdO w v2 z2) (hp : p = true ↔ z1 = z2) :
    Calls Try.prog 39 #[v1, v2] w fun e w' => e = .returned (.bool p) ∧ Below w.heap.size w w' := by
  have hp' : Hid (p = true ↔ z1 = z2) := hp
  clear hp
  obtain ⟨hl1, _, ao, cap, rfl, _, _, hc0⟩ := h1
  obtain ⟨hl2, _, ao2, cap2, rfl, _, _, hc2⟩ := h2
  by_cases hne : z1.length = z2.length
  · rw [← hne] at hc2 hl2 ⊢
    have hc' : Hid (z1.length ≠ 0 → ∃ b off, ao = some ⟨b, off, none⟩ ∧ b < w.heap.size ∧ ∀ j, j < z1.length → OpAt w b (off + j * 2) (opAt z1 j)) := hc0
    have hd' : Hid (z1.length ≠ 0 → ∃ b off, ao2 = some ⟨b, off, none⟩ ∧ b < w.heap.size ∧ ∀ j, j < z1.length → OpAt w b (off + j * 2) (opAt z2 j)) := hc2
    have hne' : Hid (z1.length = z2.length) := hne
    clear hc0 hc2 hne hl2
    obtain ⟨m, hm⟩ : ∃ m, Hid (z1.length = m) := ⟨_, rfl⟩
    rw [hm.out] at hc' hd' hl1 hne' ⊢
    go_enter Try.func39, Try.ntmps39
    go_wp2_with fail
    go_loopw [13] (fun i wr => ∃ k n : Nat, k ≤ m ∧ i = .int .i64 k ∧ wr = w.drewN n ∧ Hid (z1.take k = z2.take k)) (fun i _ => m - (intOf i).toNat)
    case atStart => exact ⟨0, 0, Nat.zero_le _, rfl, rfl, rfl⟩
    case round =>
      obtain ⟨k, n, hk, rfl, rfl, hs⟩ := hrel
      by_cases hlt : k < m
      · obtain ⟨b, off, rfl, _, hc⟩ := hc'.out (by omega)
        obtain ⟨b2, off2, rfl, _, hd⟩ := hd'.out (by omega)
        obtain ⟨p0, p1⟩ := hc k hlt
        obtain ⟨q0, q1⟩ := hd k hlt
        clear hc hd hc' hd'
        obtain ⟨⟨x, y⟩, hx⟩ : ∃ x, Hid (opAt z1 k = x) := ⟨_, rfl⟩
        obtain ⟨⟨x', y'⟩, hy⟩ : ∃ x, Hid (opAt z2 k = x) := ⟨_, rfl⟩
        rw [hx.out] at p0 p1
        rw [hy.out] at q0 q1
        simp only at p0 p1 q0 q1
        by_cases hxx : x = x' ∧ y = y'
        · obtain ⟨rfl, rfl⟩ := hxx
          have hs2 : Hid (z1.take (k + 1) = z2.take (k + 1)) := take_sameO z1 z2 k (by have := hm.out; omega) (by have := hne'.out; omega) ⟨x, y⟩ hx.out hy.out hs.out
          clear hx hy hs
          go_wp2_with fail
          go_quiet (fail)
          go_wp2_with fail
          go_roundw
          case rel => exact ⟨k + 1, n + nq, by omega, by go_num, rfl, hs2⟩
          case measure => simp [intOf]; omega
        · have hd : Hid (p = false) := by
            have h : p = false := by
              rw [Bool.eq_false_iff]
              intro h
              have e := hp'.out.1 h
              rw [e, hy.out] at hx
              have := hx.out
              injection this with e1 e2
              exact hxx ⟨e1.symm, e2.symm⟩
            exact h
          clear hx hy hs
          by_cases hx1 : x = x'
          · subst hx1
            have hy1 : ¬ y = y' := fun h => hxx ⟨rfl, h⟩
            clear hxx
            have hy2 : (y == y') = false := by simpa using hy1
            go_wp2_with fail
            go_quiet (fail)
            go_wp2_with fail
            go_ret
            exact ⟨ret_bool hd.out.symm, below_drewN (below_drewN (Below.refl _ _) _) _⟩
          · clear hxx
            have hx2 : (x == x') = false := by simpa using hx1
            go_wp2_with fail
            go_quiet (fail)
            go_wp2_with fail
            go_ret
            exact ⟨ret_bool hd.out.symm, below_drewN (below_drewN (Below.refl _ _) _) _⟩
      · have hd : Hid (p = true) := by
          have h : p = true := by
            refine hp'.out.2 ?_
            have e := hs.out
            rw [List.take_of_length_le (by have := hm.out; omega), List.take_of_length_le (by have := hne'.out; omega)] at e
            exact e
          exact h
        clear hs
        go_wp2_with fail
        go_ret
        exact ⟨ret_bool hd.out.symm, below_drewN (Below.refl _ _) _⟩
  · have hd : Hid (p = false) := by
      have h : p = false := by
        rw [Bool.eq_false_iff]
        intro h
        exact hne (by rw [hp'.out.1 h])
      exact h
    have hne2 : ((z1.length : Int) != (z2.length : Int)) = true := by simp; omega
    clear hc0 hc2 hp'
    go_enter Try.func39, Try.ntmps39
    go_wp2_with fail
    go_ret
    exact ⟨ret_bool hd.out.symm, Below.refl _ _⟩
theorem pq_eq {p q : Pq} : p = q ↔ p.os = q.os ∧ p.n = q.n ∧ p.s = q.s ∧ p.a = q.a ∧ p.k = q.k ∧ p.f = q.f := by
  obtain ⟨o1, n1, s1, a1, k1, f1⟩ := p
  obtain ⟨o2, n2, s2, a2, k2, f2⟩ := q
  simp
theorem bool_of (P : Prop) : ∃ r : Bool, r = true ↔ P := by
  by_cases h : P
  · exact ⟨true, by simp [h]⟩
  · exact ⟨false, by simp [h]⟩
theorem beq_no {a b : Int} (h : ¬ a = b) : (a == b) = false := by simpa using h

set_option maxHeartbeats 1000000 in
set_option maxRecDepth 100000 in
/-- cordonkeep.Pipes. -/
theorem pipes_is (v1 v2 : Value) (p q : Pq) (r : Bool) (w : World) (h1 : RdO w v1 p.os) (h2 : RdO w v2 q.os) (hr : r = true ↔ p = q) :
    Calls Try.prog 12 #[pv v1 p.n p.s p.a p.k p.f, pv v2 q.n q.s q.a q.k q.f] w fun e w' => e = .returned (.bool r) ∧ Below w.heap.size w w' := by
  rw [pq_eq] at hr
  obtain ⟨o1, n1, s1, a1, k1, f1⟩ := p
  obtain ⟨o2, n2, s2, a2, k2, f2⟩ := q
  simp only at h1 h2 hr ⊢
  obtain ⟨r1, hr1⟩ := bool_of (o1 = o2)
  have hR : Hid (r = true ↔ r1 = true ∧ n1 = n2 ∧ s1 = s2 ∧ a1 = a2 ∧ k1 = k2 ∧ f1 = f2) := by
    have h : r = true ↔ r1 = true ∧ n1 = n2 ∧ s1 = s2 ∧ a1 = a2 ∧ k1 = k2 ∧ f1 = f2 := by rw [hr, hr1]
    exact h
  have hr1' : Hid (r1 = true ↔ o1 = o2) := hr1
  clear hr hr1
  go_enter Try.func12, Try.ntmps12
  go_upto_region 1 with fail
  refine world_gen (fun W => Pik W w.heap.size v1 n1 s1 a1 k1 f1 ∧ Pik W (w.heap.size + 1) v2 n2 s2 a2 k2 f2 ∧ Hid (RdO W v1 o1) ∧ Hid (RdO W v2 o2) ∧ Below w.heap.size w W)
    ⟨(pik_new _ _ _ _ _ _ _).alloc _, by simpa using pik_new (w.alloc _) v2 n2 s2 a2 k2 f2, (h1.call (below_alloc _ _)).call (below_alloc _ _), (h2.call (below_alloc _ _)).call (below_alloc _ _), bnew (below_alloc _ _) _⟩ ?_
  clear h1 h2
  rintro W0 ⟨ka, kb, h1, h2, b0⟩
  obtain ⟨g, hg⟩ : ∃ g, Hid (w.heap.size = g) := ⟨_, rfl⟩
  rw [hg.out] at ka kb ⊢
  have c0 := ka.c0
  have d0 := kb.c0
  go_wp2_with fail
  refine (same_ops v1 v2 o1 o2 _ r1 h1.out h2.out hr1'.out).mono ?_
  rintro e w1 ⟨rfl, b1⟩
  have ka1 := ka.call b1
  have kb1 := kb.call b1
  have bb := bcall b0 b1
  clear c0 d0 ka kb b0 b1 h1 h2 hr1'
  have c1 := ka1.c1
  have c2 := ka1.c2
  have c3 := ka1.c3
  have c4 := ka1.c4
  have c5 := ka1.c5
  have d1 := kb1.c1
  have d2 := kb1.c2
  have d3 := kb1.c3
  have d4 := kb1.c4
  have d5 := kb1.c5
  cases r1
  · have hf : r = false := by rw [Bool.eq_false_iff]; intro h; exact absurd (hR.out.1 h).1 (by decide)
    subst hf
    go_wp2
    go_ret
    exact ⟨rfl, hg.out ▸ bb⟩
  by_cases e1 : n1 = n2
  case neg =>
    have hf : r = false := by rw [Bool.eq_false_iff]; intro h; exact e1 (hR.out.1 h).2.1
    subst hf
    have := beq_no e1
    go_wp2
    go_ret
    exact ⟨rfl, hg.out ▸ bb⟩
  subst e1
  by_cases e1 : s1 = s2
  case neg =>
    have hf : r = false := by rw [Bool.eq_false_iff]; intro h; exact e1 (hR.out.1 h).2.2.1
    subst hf
    have := beq_no e1
    go_wp2
    go_ret
    exact ⟨rfl, hg.out ▸ bb⟩
  subst e1
  by_cases e1 : a1 = a2
  case neg =>
    have hf : r = false := by rw [Bool.eq_false_iff]; intro h; exact e1 (hR.out.1 h).2.2.2.1
    subst hf
    have := beq_no e1
    go_wp2
    go_ret
    exact ⟨rfl, hg.out ▸ bb⟩
  subst e1
  by_cases e1 : k1 = k2
  case neg =>
    have hf : r = false := by rw [Bool.eq_false_iff]; intro h; exact e1 (hR.out.1 h).2.2.2.2.1
    subst hf
    have := beq_no e1
    go_wp2
    go_ret
    exact ⟨rfl, hg.out ▸ bb⟩
  subst e1
  by_cases e1 : f1 = f2
  case neg =>
    have hf : r = false := by rw [Bool.eq_false_iff]; intro h; exact e1 (hR.out.1 h).2.2.2.2.2
    subst hf
    have := beq_no e1
    go_wp2
    go_ret
    exact ⟨rfl, hg.out ▸ bb⟩
  subst e1
  have hf : r = true := hR.out.2 ⟨rfl, rfl, rfl, rfl, rfl, rfl⟩
  subst hf
  go_wp2
  go_ret
  exact ⟨rfl, hg.out ▸ bb⟩
end Go.Proofs.Ytimeglhoiibhdaa
