/- Offer and Feed of a Cell. -/
import Derived.Test.YtnamjnopicghhaaCel
namespace Go.Proofs.Ytnamjnopicghhaa
open Go.RowKit M
open O.MO (Oq Pq rightP)
set_option linter.unusedVariables false
set_option linter.unusedSimpArgs false
attribute [local go_sem ↓] Go.wp_at_zero Go.wp_at_succ

section
variable {W0 : World} {us : List Th} {c : Nat} {l s f : Int} {v : Value} {b : Nat} {i : Int} {vr vt : Value}
/-- Cell.refused. -/
theorem refused_is (why : Int) (w : World) (hS : St W0 w (cb c l s f v b i vr vt :: us)) (hf : 0 ≤ f ∧ f ≤ 1000000) :
    Calls Try.prog 34 #[.pointer (some ⟨c, 0, none⟩), .int .i64 why] w fun e w' => e = .returned (.int .i64 why) ∧ St W0 w' (cb c l s (f + 1) v b i vr vt :: us) := by
  go_enter Try.func34, Try.ntmps34
  go_wp2_with fail
  refine (refuse_is _ hS hf).mono ?_
  rintro e w' ⟨rfl, h⟩
  go_wp2_with fail
  go_ret
  exact ⟨rfl, h⟩
end
/-- What Offer answers, and what stands behind it. -/
def Off (n : Nat) (room : Int) (x : Inp) (l s f : Int) (wait : List Inp) (E l' s' f' : Int) (wait' : List Inp) : Prop :=
  (okO x = false ∧ E = 1 ∧ l' = l ∧ s' = s ∧ f' = f + 1 ∧ wait' = wait) ∨
  (okO x = true ∧ l = 0 ∧ E = 4 ∧ l' = l ∧ s' = s ∧ f' = f + 1 ∧ wait' = wait) ∨
  (okO x = true ∧ l ≠ 0 ∧ room < ((wait.length + 1 : Nat) : Int) ∧ E = 3 ∧ l' = l ∧ s' = s ∧ f' = f + 1 ∧ wait' = wait) ∨
  (okO x = true ∧ l ≠ 0 ∧ ((wait.length + 1 : Nat) : Int) ≤ room ∧ E = 0 ∧ l' = l - 1 ∧ s' = s + 1 ∧ f' = f ∧ wait' = wait ++ [ownI n x])
theorem off_ex (n : Nat) (room : Int) (x : Inp) (l s f : Int) (wait : List Inp) : ∃ E l' s' f' wait', Off n room x l s f wait E l' s' f' wait' := by
  unfold Off
  by_cases h1 : okO x = true
  · by_cases h2 : l = 0
    · exact ⟨_, _, _, _, _, .inr (.inl ⟨h1, h2, rfl, rfl, rfl, rfl, rfl⟩)⟩
    · by_cases h3 : room < ((wait.length + 1 : Nat) : Int)
      · exact ⟨_, _, _, _, _, .inr (.inr (.inl ⟨h1, h2, h3, rfl, rfl, rfl, rfl, rfl⟩))⟩
      · exact ⟨_, _, _, _, _, .inr (.inr (.inr ⟨h1, h2, by omega, rfl, rfl, rfl, rfl, rfl⟩))⟩
  · exact ⟨_, _, _, _, _, .inl ⟨by simpa using h1, rfl, rfl, rfl, rfl, rfl⟩⟩
theorem lit_rdi (w : World) (x : Inp) (hx : x.e.l < 18446744073709551616) (g : Nat) (hg : w.heap.size = g) : RdI (w.alloc (.cells #[.bool x.mrk, .int .i64 x.e.t, .int .i64 x.e.k, .int .i64 x.e.v, .int .u64 x.e.l] 31)) (.slice (some ⟨g, 0, none⟩) 1 1) g [x] := by
  subst hg
  exact rdi_lit w [x] (by simp) (Labl.one hx)
theorem ownI_lt (n : Nat) (hn : n < 8) (x : Inp) : (ownI n x).e.l < 18446744073709551616 := by
  unfold ownI
  split
  · show 0 < 18446744073709551616
    decide
  · exact Nat.lt_of_le_of_lt (Nat.pow_le_pow_right (by decide) (show n ≤ 7 by omega)) (by decide)
set_option maxHeartbeats 2000000 in
set_option maxRecDepth 100000 in
/-- Cell.Offer. -/
theorem offer_is {W0 : World} {us : List Th} {c n : Nat} {p : Pq} {l s f : Int} {wait taken : List Inp} (room : Int) (x : Inp) (w : World) (hS : St W0 w (cel c p (n : Nat) l s f wait taken :: us)) (hn : n < 8) (hl : 0 ≤ l ∧ l ≤ 1000000) (hs : 0 ≤ s ∧ s ≤ 1000000) (hf : 0 ≤ f ∧ f ≤ 1000000) (hw : wait.length ≤ 10000)
    (E l' s' f' : Int) (wait' : List Inp) (hE : Off n room x l s f wait E l' s' f' wait') :
    Calls Try.prog 10 #[.pointer (some ⟨c, 0, none⟩), .int .i64 room, inv x] w fun e w' => e = .returned (.int .i64 E) ∧ St W0 w' (cel c p (n : Nat) l' s' f' wait' taken :: us) := by
  obtain ⟨v, b, vr, vt, hO⟩ := hS.opn
  have hE' : Hid (Off n room x l s f wait E l' s' f' wait') := hE
  have hl' : Hid (0 ≤ l ∧ l ≤ 1000000) := hl
  have hs' : Hid (0 ≤ s ∧ s ≤ 1000000) := hs
  have hf' : Hid (0 ≤ f ∧ f ≤ 1000000) := hf
  have hw' : Hid (wait.length ≤ 10000) := hw
  clear hE hl hs hf hw hS
  obtain ⟨ok, hok⟩ : ∃ ok, Hid (okO x = ok) := ⟨_, rfl⟩
  go_enter Try.func10, Try.ntmps10
  go_upto_region 1 with fail
  refine world_gen (fun W => Hid (St W0 W (cb c l s f v b (n : Nat) vr vt :: inl v wait :: rnt b p (stR p r0 taken) :: rwl vr (rowsR p r0 taken) :: inl vt taken :: us)) ∧ Hid (Ink W w.heap.size x)) ⟨hO.below (below_alloc _ _), ink_new _ _⟩ ?_
  clear hO
  rintro W ⟨hO, hi⟩
  generalize w.heap.size = g0 at *
  obtain ⟨c0, c1, c2, c3, c4⟩ := hi.out.c
  simp only [Nat.zero_add] at c0 c1 c2 c3 c4
  go_wp2_with fail
  refine (own_is c l s f v b n vr vt x _ hO.out.ck hn ok hok.out).mono ?_
  rintro e w1 ⟨rfl, hb1⟩
  obtain ⟨z, hz⟩ : ∃ z, Hid ((if ok = true then ownI n x else zeroI) = z) := ⟨_, rfl⟩
  rw [hz.out]
  have hO1 : Hid (St W0 w1 (cb c l s f v b (n : Nat) vr vt :: inl v wait :: rnt b p (stR p r0 taken) :: rwl vr (rowsR p r0 taken) :: inl vt taken :: us)) := hO.out.below hb1
  clear c0 c1 c2 c3 c4 hi hO hb1
  go_upto_region 2 with fail
  refine world_gen (fun W => Hid (St W0 W (blkT w1.heap.size (.cells #[.bool z.mrk, .int .i64 z.e.t, .int .i64 z.e.k, .int .i64 z.e.v, .int .u64 z.e.l] 31) :: cb c l s f v b (n : Nat) vr vt :: inl v wait :: rnt b p (stR p r0 taken) :: rwl vr (rowsR p r0 taken) :: inl vt taken :: us))) (hO1.out.newBlk _ _ rfl) ?_
  clear hO1
  rintro W2 hO
  generalize w1.heap.size = g1 at *
  cases ok with
  | false =>
    obtain ⟨rfl, rfl, rfl, rfl, rfl⟩ : E = 1 ∧ l' = l ∧ s' = s ∧ f' = f + 1 ∧ wait' = wait := by
      rcases hE'.out with h | h | h | h
      · exact h.2
      · have := hok.out; rw [h.1] at this; cases this
      · have := hok.out; rw [h.1] at this; cases this
      · have := hok.out; rw [h.1] at this; cases this
    clear hE'
    go_wp2_with fail
    refine (refused_is 1 _ hO.out.drop hf'.out).mono ?_
    rintro e w3 ⟨rfl, h⟩
    have hfin : Hid (St W0 w3 (cel c p (n : Nat) l' s' (f + 1) wait' taken :: us)) := St.cls h
    clear h hO
    go_wp2_with fail
    go_ret
    exact ⟨rfl, hfin.out⟩
  | true =>
    obtain ⟨c0, c1, c2⟩ : W2.cell? ⟨c, 0, none⟩ = some (.int .i64 l) ∧ W2.cell? ⟨c, 1, none⟩ = some (.int .i64 s) ∧ W2.cell? ⟨c, 2, none⟩ = some (.int .i64 f) := ⟨hO.out.drop.ck.c0, hO.out.drop.ck.c1, hO.out.drop.ck.c2⟩
    go_wp2_with fail
    refine (qleft_is l s f _).mono ?_
    rintro e w3 ⟨rfl, hb3⟩
    have hO3 : Hid (St W0 w3 (blkT g1 (.cells #[.bool z.mrk, .int .i64 z.e.t, .int .i64 z.e.k, .int .i64 z.e.v, .int .u64 z.e.l] 31) :: cb c l s f v b (n : Nat) vr vt :: inl v wait :: rnt b p (stR p r0 taken) :: rwl vr (rowsR p r0 taken) :: inl vt taken :: us)) := hO.out.below hb3
    clear hO hb3 c0 c1 c2
    by_cases hl0 : l = 0
    · obtain ⟨rfl, rfl, rfl, rfl, rfl⟩ : E = 4 ∧ l' = l ∧ s' = s ∧ f' = f + 1 ∧ wait' = wait := by
        rcases hE'.out with h | h | h | h
        · have := hok.out; rw [h.1] at this; cases this
        · exact h.2.2
        · exact absurd hl0 h.2.1
        · exact absurd hl0 h.2.1
      clear hE'
      subst hl0
      go_wp2_with fail
      refine (refused_is 4 _ hO3.out.drop hf'.out).mono ?_
      rintro e w4 ⟨rfl, h⟩
      have hfin : Hid (St W0 w4 (cel c p (n : Nat) 0 s' (f + 1) wait' taken :: us)) := St.cls h
      clear h hO3
      go_wp2_with fail
      go_ret
      exact ⟨rfl, hfin.out⟩
    have hlb : Hid ((l == 0) = false) := by
      have h : (l == 0) = false := by simpa using hl0
      exact h
    have hi2 : Hid (Ink w3 g1 z) := hO3.out.blk
    obtain ⟨ok2, wait1, hpush, hE2⟩ : ∃ ok2 wait1, Hid ((room < ((wait.length + [z].length : Nat) : Int) ∧ ok2 = false ∧ wait1 = wait) ∨ (((wait.length + [z].length : Nat) : Int) ≤ room ∧ ok2 = true ∧ wait1 = wait ++ [z])) ∧ Hid ((ok2 = false ∧ E = 3 ∧ l' = l ∧ s' = s ∧ f' = f + 1 ∧ wait' = wait1) ∨ (ok2 = true ∧ E = 0 ∧ l' = l - 1 ∧ s' = s + 1 ∧ f' = f ∧ wait' = wait1)) := by
      have hzz : ownI n x = z := hz.out
      rcases hE'.out with h | h | h | h
      · have := hok.out; rw [h.1] at this; cases this
      · exact absurd h.2.1 hl0
      · exact ⟨false, wait, .inl ⟨h.2.2.1, rfl, rfl⟩, .inl ⟨rfl, h.2.2.2⟩⟩
      · exact ⟨true, wait ++ [z], .inr ⟨h.2.2.1, rfl, rfl⟩, .inr ⟨rfl, h.2.2.2.1, h.2.2.2.2.1, h.2.2.2.2.2.1, h.2.2.2.2.2.2.1, hzz ▸ h.2.2.2.2.2.2.2⟩⟩
    have hzl : Hid (z.e.l < 18446744073709551616) := by
      have h : z.e.l < 18446744073709551616 := by
        have hzz : ownI n x = z := hz.out
        rw [← hzz]; exact ownI_lt n hn x
      exact h
    clear hE' hok hz
    have hlx := hlb.out
    go_upto_region 6 with fail
    clear hlx
    refine wp_region_held_drew (S := fun X => Ink X g1 z) (by kernel_rfl) hi2.out (fun hHeld => ?_)
    have hO4 : Hid (St W0 w3.drew (blkT g1 (.cells #[.bool z.mrk, .int .i64 z.e.t, .int .i64 z.e.k, .int .i64 z.e.v, .int .u64 z.e.l] 31) :: cb c l s f v b (n : Nat) vr vt :: inl v wait :: rnt b p (stR p r0 taken) :: rwl vr (rowsR p r0 taken) :: inl vt taken :: us)) := hO3.out.below (Below.refl _ _).drew
    clear hO3 hi2
    generalize w3.drew = V at hHeld hO4 ⊢
    refine take_at (i := 0) (v := .pointer (some ⟨c, 0, none⟩)) rfl rfl (by kernel_rfl) (by kernel_rfl) (by kernel_rfl) (fun _ _ _ h => h) (Or.inl ⟨by rfl, fun X _ => by go_simp⟩) hHeld ?_
    try simp only [Act.put, List.setIfInBounds_toArray, List.set_cons_zero, List.set_cons_succ]
    refine take_at (i := 1) (v := .pointer (some ⟨c, 0, none⟩)) rfl rfl (by kernel_rfl) (by kernel_rfl) (by kernel_rfl) (fun _ _ _ h => h) (Or.inl ⟨by rfl, fun X _ => by go_simp⟩) hHeld ?_
    try simp only [Act.put, List.setIfInBounds_toArray, List.set_cons_zero, List.set_cons_succ]
    refine take_at (i := 2) (v := .pointer (some ⟨c, 3, none⟩)) rfl rfl (by kernel_rfl) (by kernel_rfl) (by kernel_rfl) (fun _ _ _ h => h) (Or.inl ⟨by rfl, fun X _ => by go_simp⟩) hHeld ?_
    try simp only [Act.put, List.setIfInBounds_toArray, List.set_cons_zero, List.set_cons_succ]
    refine take_at (i := 3) (v := .int .i64 room) rfl rfl (by kernel_rfl) (by kernel_rfl) (by kernel_rfl) (fun _ _ _ h => h) (Or.inl ⟨by rfl, fun X _ => by go_simp⟩) hHeld ?_
    try simp only [Act.put, List.setIfInBounds_toArray, List.set_cons_zero, List.set_cons_succ]
    refine take_at (i := 4) (v := inv z) rfl rfl (by kernel_rfl) (by kernel_rfl) (by kernel_rfl) (fun _ _ _ h => h) (Or.inl ⟨by rfl, fun X hX => by obtain ⟨k0, k1, k2, k3, k4⟩ := hX.c; simp only [Nat.zero_add] at k0 k1 k2 k3 k4; go_simp⟩) hHeld ?_
    try simp only [Act.put, List.setIfInBounds_toArray, List.set_cons_zero, List.set_cons_succ]
    refine wpAnyH_ready (rs := [5]) (by kernel_rfl) (by simp) ?_
    refine AllReadyH.cons rfl (fun K hK => ?_) AllReadyH.nil
    rw [if_pos (by rfl)]
    go_simp
    have hO5 : Hid (St W0 (V.alloc (.cells #[.bool z.mrk, .int .i64 z.e.t, .int .i64 z.e.k, .int .i64 z.e.v, .int .u64 z.e.l] 31)) (cb c l s f v b (n : Nat) vr vt :: inl v wait :: blkT g1 (.cells #[.bool z.mrk, .int .i64 z.e.t, .int .i64 z.e.k, .int .i64 z.e.v, .int .u64 z.e.l] 31) :: rnt b p (stR p r0 taken) :: rwl vr (rowsR p r0 taken) :: inl vt taken :: us)) := (hO4.out.below (below_alloc _ _)).perm (perm_pop _ _ _ _)
    have hrd : Hid (RdI (V.alloc (.cells #[.bool z.mrk, .int .i64 z.e.t, .int .i64 z.e.k, .int .i64 z.e.v, .int .u64 z.e.l] 31)) (.slice (some ⟨V.heap.size, 0, none⟩) 1 1) V.heap.size [z]) := lit_rdi V z hzl.out _ rfl
    clear hO4
    refine hK.out _ _ (hHeld.kept (below_alloc _ _)) (fun hHeld => ?_)
    clear hK K
    try simp only [Act.put, List.setIfInBounds_toArray, List.set_cons_zero, List.set_cons_succ]
    generalize V.alloc (.cells #[.bool z.mrk, .int .i64 z.e.t, .int .i64 z.e.k, .int .i64 z.e.v, .int .u64 z.e.l] 31) = V2 at *
    generalize V.heap.size = gv at *
    refine wpAnyH_ready (rs := [6]) (by kernel_rfl) (by simp) ?_
    refine AllReadyH.cons rfl (fun K hK => ?_) AllReadyH.nil
    rw [if_pos (by rfl)]
    go_wp2_with fail
    refine (push_is room (.slice (some ⟨gv, 0, none⟩) 1 1) gv [z] _ hO5.out hrd.out (by have := hw'.out; simp; omega) wait1 ok2 hpush.out).mono ?_
    rintro e V3 ⟨rfl, v', hO6⟩
    have hO7 : Hid (St W0 V3 (blkT g1 (.cells #[.bool z.mrk, .int .i64 z.e.t, .int .i64 z.e.k, .int .i64 z.e.v, .int .u64 z.e.l] 31) :: cb c l s f v' b (n : Nat) vr vt :: inl v' wait1 :: rnt b p (stR p r0 taken) :: rwl vr (rowsR p r0 taken) :: inl vt taken :: us)) := hO6.perm (perm_pop2 _ _ _ _)
    have hh : Ink V3 g1 z := hO7.out.blk
    clear hHeld hO5 hO6 hrd
    go_wp2_with fail
    refine hK.out _ _ (hh) (fun hHeld => ?_)
    clear hK K
    try simp only [Act.put, List.setIfInBounds_toArray, List.set_cons_zero, List.set_cons_succ]
    refine take_at (i := 7) (v := .bool (!ok2)) rfl rfl (by kernel_rfl) (by kernel_rfl) (by kernel_rfl) (fun _ _ _ h => h) (Or.inl ⟨by rfl, fun X _ => by go_simp⟩) hHeld ?_
    try simp only [Act.put, List.setIfInBounds_toArray, List.set_cons_zero, List.set_cons_succ]
    refine take_at (i := 8) (v := .bool (!ok2)) rfl rfl (by kernel_rfl) (by kernel_rfl) (by kernel_rfl) (fun _ _ _ h => h) (Or.inl ⟨by rfl, fun X _ => by go_simp⟩) hHeld ?_
    try simp only [Act.put, List.setIfInBounds_toArray, List.set_cons_zero, List.set_cons_succ]
    refine wpAnyH_done (by kernel_rfl) ?_ _
    have hO8 : Hid (St W0 V3 (cb c l s f v' b (n : Nat) vr vt :: inl v' wait1 :: rnt b p (stR p r0 taken) :: rwl vr (rowsR p r0 taken) :: inl vt taken :: us)) := hO7.out.drop
    clear hO7 hh hHeld
    cases ok2 with
    | false =>
      obtain ⟨rfl, rfl, rfl, rfl, rfl⟩ : E = 3 ∧ l' = l ∧ s' = s ∧ f' = f + 1 ∧ wait' = wait1 := by
        rcases hE2.out with h | h
        · exact h.2
        · exact absurd h.1 (by decide)
      clear hE2 hpush
      go_wp2_with fail
      refine (refused_is 3 _ hO8.out hf'.out).mono ?_
      rintro e w4 ⟨rfl, h⟩
      have hfin : Hid (St W0 w4 (cel c p (n : Nat) l' s' (f + 1) wait' taken :: us)) := St.cls h
      clear h hO8
      go_wp2_with fail
      go_ret
      exact ⟨rfl, hfin.out⟩
    | true =>
      obtain ⟨rfl, rfl, rfl, rfl, rfl⟩ : E = 0 ∧ l' = l - 1 ∧ s' = s + 1 ∧ f' = f ∧ wait' = wait1 := by
        rcases hE2.out with h | h
        · exact absurd h.1 (by decide)
        · exact h.2
      clear hE2 hpush
      go_wp2_with fail
      refine (spend_is (.slice (some ⟨V3.heap.size, 0, none⟩) 1 1) _ (hO8.out.below (below_alloc _ _)) (rd_lit V3 [1] (by simp)) ⟨by have := hl'.out; omega, hl'.out.2⟩ hs'.out).mono ?_
      rintro e w4 ⟨rfl, h⟩
      have hfin : Hid (St W0 w4 (cel c p (n : Nat) (l - 1) (s + 1) f' wait' taken :: us)) := St.cls h
      clear h hO8
      go_wp2_with fail
      go_ret
      exact ⟨rfl, hfin.out⟩
set_option maxHeartbeats 1000000 in
set_option maxRecDepth 100000 in
/-- Cell.Feed. -/
theorem feed_is {W0 : World} {us : List Th} {c : Nat} {p : Pq} {i l s f : Int} {wait taken : List Inp} (x : Ev) (w : World) (hS : St W0 w (cel c p i l s f wait taken :: us)) (hx : x.l < 18446744073709551616) (hw : wait.length ≤ 10000)
    (wait' : List Inp) (hE : (rightE x = true ∧ wait' = wait ++ [⟨false, x⟩]) ∨ (rightE x = false ∧ wait' = wait)) :
    Calls Try.prog 18 #[.pointer (some ⟨c, 0, none⟩), evv x] w fun e w' => e = .returned (.tuple #[]) ∧ St W0 w' (cel c p i l s f wait' taken :: us) := by
  obtain ⟨v, b, vr, vt, hO⟩ := hS.opn
  have hE' : Hid ((rightE x = true ∧ wait' = wait ++ [⟨false, x⟩]) ∨ (rightE x = false ∧ wait' = wait)) := hE
  have hw' : Hid (wait.length ≤ 10000) := hw
  have hx' : Hid (x.l < 18446744073709551616) := hx
  clear hE hw hS hx
  obtain ⟨t, k, y, lb⟩ := x
  simp only [evv]
  go_enter Try.func18, Try.ntmps18
  go_upto_region 1 with fail
  refine world_gen (fun W => Hid (St W0 W (blkT w.heap.size (.cells #[.int .i64 t, .int .i64 k, .int .i64 y, .int .u64 lb] 29) :: cb c l s f v b i vr vt :: inl v wait :: rnt b p (stR p r0 taken) :: rwl vr (rowsR p r0 taken) :: inl vt taken :: us))) (hO.newBlk _ _ rfl) ?_
  clear hO
  rintro W hO
  generalize w.heap.size = g1 at *
  have hi : Hid (Evk W g1 ⟨t, k, y, lb⟩) := hO.out.blk
  obtain ⟨c0, c1, c2, c3⟩ := hi.out.c
  obtain ⟨ok, hok⟩ : ∃ ok, Hid (rightE ⟨t, k, y, lb⟩ = ok) := ⟨_, rfl⟩
  go_wp2_with fail
  refine (eright_is ⟨t, k, y, lb⟩ _ ok hok.out).mono ?_
  rintro e w3 ⟨rfl, hb3⟩
  have hO3 : Hid (St W0 w3 (blkT g1 (.cells #[.int .i64 t, .int .i64 k, .int .i64 y, .int .u64 lb] 29) :: cb c l s f v b i vr vt :: inl v wait :: rnt b p (stR p r0 taken) :: rwl vr (rowsR p r0 taken) :: inl vt taken :: us)) := hO.out.below hb3
  clear c0 c1 c2 c3 hi hO hb3
  cases ok with
  | false =>
    obtain rfl : wait' = wait := by
      rcases hE'.out with h | h
      · have := hok.out; rw [h.1] at this; cases this
      · exact h.2
    have hfin : Hid (St W0 w3 (cel c p i l s f wait' taken :: us)) := St.cls hO3.out.drop
    clear hO3 hE'
    go_wp2_with fail
    go_end0
    exact ⟨rfl, hfin.out⟩
  | true =>
    obtain rfl : wait' = wait ++ [⟨false, ⟨t, k, y, lb⟩⟩] := by
      rcases hE'.out with h | h
      · exact h.2
      · have := hok.out; rw [h.1] at this; cases this
    clear hE'
    have hi2 : Hid (Evk w3 g1 ⟨t, k, y, lb⟩) := hO3.out.blk
    go_upto_region 2 with fail
    refine wp_region_held_drew (S := fun X => Evk X g1 ⟨t, k, y, lb⟩) (by kernel_rfl) hi2.out (fun hHeld => ?_)
    have hO4 : Hid (St W0 w3.drew (blkT g1 (.cells #[.int .i64 t, .int .i64 k, .int .i64 y, .int .u64 lb] 29) :: cb c l s f v b i vr vt :: inl v wait :: rnt b p (stR p r0 taken) :: rwl vr (rowsR p r0 taken) :: inl vt taken :: us)) := hO3.out.below (Below.refl _ _).drew
    clear hO3 hi2
    generalize w3.drew = V at hHeld hO4 ⊢
    refine take_at (i := 0) (v := .pointer (some ⟨c, 0, none⟩)) rfl rfl (by kernel_rfl) (by kernel_rfl) (by kernel_rfl) (fun _ _ _ h => h) (Or.inl ⟨by rfl, fun X _ => by go_simp⟩) hHeld ?_
    try simp only [Act.put, List.setIfInBounds_toArray, List.set_cons_zero, List.set_cons_succ]
    refine take_at (i := 1) (v := .pointer (some ⟨c, 0, none⟩)) rfl rfl (by kernel_rfl) (by kernel_rfl) (by kernel_rfl) (fun _ _ _ h => h) (Or.inl ⟨by rfl, fun X _ => by go_simp⟩) hHeld ?_
    try simp only [Act.put, List.setIfInBounds_toArray, List.set_cons_zero, List.set_cons_succ]
    refine take_at (i := 2) (v := .pointer (some ⟨c, 3, none⟩)) rfl rfl (by kernel_rfl) (by kernel_rfl) (by kernel_rfl) (fun _ _ _ h => h) (Or.inl ⟨by rfl, fun X _ => by go_simp⟩) hHeld ?_
    try simp only [Act.put, List.setIfInBounds_toArray, List.set_cons_zero, List.set_cons_succ]
    refine take_at (i := 3) (v := .agg #[.int .i64 t, .int .i64 k, .int .i64 y, .int .u64 lb]) rfl rfl (by kernel_rfl) (by kernel_rfl) (by kernel_rfl) (fun _ _ _ h => h) (Or.inl ⟨by rfl, fun X hX => by obtain ⟨k0, k1, k2, k3⟩ := hX.c; go_simp⟩) hHeld ?_
    try simp only [Act.put, List.setIfInBounds_toArray, List.set_cons_zero, List.set_cons_succ]
    refine take_at (i := 4) (v := inv ⟨false, ⟨t, k, y, lb⟩⟩) rfl rfl (by kernel_rfl) (by kernel_rfl) (by kernel_rfl) (fun _ _ _ h => h) (Or.inl ⟨by rfl, fun X _ => by go_simp⟩) hHeld ?_
    try simp only [Act.put, List.setIfInBounds_toArray, List.set_cons_zero, List.set_cons_succ]
    refine wpAnyH_ready (rs := [5]) (by kernel_rfl) (by simp) ?_
    refine AllReadyH.cons rfl (fun K hK => ?_) AllReadyH.nil
    rw [if_pos (by rfl)]
    go_simp
    have hO5 : Hid (St W0 (V.alloc (.cells #[.bool false, .int .i64 t, .int .i64 k, .int .i64 y, .int .u64 lb] 31)) (cb c l s f v b i vr vt :: inl v wait :: blkT g1 (.cells #[.int .i64 t, .int .i64 k, .int .i64 y, .int .u64 lb] 29) :: rnt b p (stR p r0 taken) :: rwl vr (rowsR p r0 taken) :: inl vt taken :: us)) := (hO4.out.below (below_alloc _ _)).perm (perm_pop _ _ _ _)
    have hrd : Hid (RdI (V.alloc (.cells #[.bool false, .int .i64 t, .int .i64 k, .int .i64 y, .int .u64 lb] 31)) (.slice (some ⟨V.heap.size, 0, none⟩) 1 1) V.heap.size [⟨false, ⟨t, k, y, lb⟩⟩]) := lit_rdi V ⟨false, ⟨t, k, y, lb⟩⟩ hx'.out _ rfl
    clear hO4
    refine hK.out _ _ (hHeld.below (below_alloc _ _)) (fun hHeld => ?_)
    clear hK K
    try simp only [Act.put, List.setIfInBounds_toArray, List.set_cons_zero, List.set_cons_succ]
    generalize V.alloc (.cells #[.bool false, .int .i64 t, .int .i64 k, .int .i64 y, .int .u64 lb] 31) = V2 at *
    generalize V.heap.size = gv at *
    refine wpAnyH_ready (rs := [6]) (by kernel_rfl) (by simp) ?_
    refine AllReadyH.cons rfl (fun K hK => ?_) AllReadyH.nil
    rw [if_pos (by rfl)]
    go_wp2_with fail
    refine (push_is 9223372036854775807 (.slice (some ⟨gv, 0, none⟩) 1 1) gv [⟨false, ⟨t, k, y, lb⟩⟩] _ hO5.out hrd.out (by have := hw'.out; simp; omega) (wait ++ [⟨false, ⟨t, k, y, lb⟩⟩]) true (.inr ⟨by have := hw'.out; simp; omega, rfl, rfl⟩)).mono ?_
    rintro e V3 ⟨rfl, v', hO6⟩
    have hO7 : Hid (St W0 V3 (blkT g1 (.cells #[.int .i64 t, .int .i64 k, .int .i64 y, .int .u64 lb] 29) :: cb c l s f v' b i vr vt :: inl v' (wait ++ [⟨false, ⟨t, k, y, lb⟩⟩]) :: rnt b p (stR p r0 taken) :: rwl vr (rowsR p r0 taken) :: inl vt taken :: us)) := hO6.perm (perm_pop2 _ _ _ _)
    have hh : Evk V3 g1 ⟨t, k, y, lb⟩ := hO7.out.blk
    clear hHeld hO5 hO6 hrd
    go_wp2_with fail
    refine hK.out _ _ (hh) (fun hHeld => ?_)
    clear hK K
    try simp only [Act.put, List.setIfInBounds_toArray, List.set_cons_zero, List.set_cons_succ]
    refine wpAnyH_done (by kernel_rfl) ?_ _
    have hfin : Hid (St W0 V3 (cel c p i l s f (wait ++ [⟨false, ⟨t, k, y, lb⟩⟩]) taken :: us)) := St.cls hO7.out.drop
    clear hO7 hh hHeld
    go_wp2_with fail
    go_end0
    exact ⟨rfl, hfin.out⟩
end Go.Proofs.Ytnamjnopicghhaa
