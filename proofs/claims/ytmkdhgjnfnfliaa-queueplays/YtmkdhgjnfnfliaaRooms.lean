/- QueueRooms, walked. -/
import Derived.Test.YtmkdhgjnfnfliaaRuns
import Derived.Test.YtmkdhgjnfnfliaaFrame
namespace Go.Proofs.Ytmkdhgjnfnfliaa
open Go.RowKit
set_option linter.unusedVariables false
set_option linter.unusedSimpArgs false
attribute [local go_sem ↓] Go.wp_at_zero Go.wp_at_succ
abbrev MK : Inp := ⟨true, ⟨0, 0, 0, 0⟩⟩
/-- A list becomes what a queue holds. -/
theorem St.toq {W0 w w' : World} {qs : List Qt} {ls : List Lt} {b : Nat} {u : Value} {M : List Inp} (h : St W0 w qs ((u, M) :: ls)) (hm : Below w.heap.size w w') (hb : Qb w' b u) (hbn : w.heap.size ≤ b) : St W0 w' ((b, u, M) :: qs) ls := by
  have h' := h.below hm
  have hp : (vals qs ((u, M) :: ls)).Perm (u :: vals qs ls) := List.perm_middle
  refine ⟨h'.b, fun x hx => ?_, fun z hz => h'.l z (List.mem_cons_of_mem _ hz), fun y hy => h.lo y (hp.mem_iff.2 hy), h.ap.perm hp (fun h => h.symm), ?_⟩
  · rcases List.mem_cons.1 hx with rfl | hx
    · exact ⟨Nat.le_trans h.b.size hbn, hb, h'.hl⟩
    · exact h'.q x hx
  · refine List.pairwise_cons.2 ⟨fun y hy => ?_, h.nd⟩
    have := (h.q y hy).2.1.lt
    show b ≠ y.1
    omega
theorem St.toq1 {W0 w : World} {qs : List Qt} {ls : List Lt} {u : Value} {M : List Inp} (h : St W0 w qs ((u, M) :: ls)) : St W0 (w.alloc (.cells #[u] 24)) ((w.heap.size, u, M) :: qs) ls :=
  h.toq (below_alloc _ _) (qb_new _ _) (Nat.le_refl _)
/-- The first ones of what came in, at most so many. -/
theorem firsts (al K : Nat) : ∃ n, n ≤ K ∧ n ≤ al ∧ (al ≤ K → n = al) ∧ (K < al → n = K) := by
  by_cases h : al ≤ K
  · exact ⟨al, h, Nat.le_refl _, fun _ => rfl, fun h2 => by omega⟩
  · exact ⟨K, Nat.le_refl _, by omega, fun h2 => absurd h2 h, fun _ => rfl⟩
set_option maxHeartbeats 4000000 in
set_option maxRecDepth 100000 in
theorem queueRooms_walk (aa : Option Addr) (al ac : Nat) (ba : Option Addr) (bl bc : Nat) (room : Int) (w : World) (hA : IsI w aa al ac) (hB : IsI w ba bl bc) (hroom : (Lit.int .i64 room).wf = true) :
    Calls Try.prog 7 #[.slice aa al ac, .slice ba bl bc, .int .i64 room] w fun e w' => e = .returned (.bool true) ∧ Below w.heap.size w w' := by
  obtain ⟨qa, la, hla, hra⟩ := hA
  obtain ⟨qb, lb, hlb, hrb⟩ := hB
  obtain ⟨n, hn1, hn2, hn3, hn4⟩ := firsts al 8
  obtain ⟨m, hm1, hm2, hm3, hm4⟩ := firsts bl 8
  have hX : Hid (RdI w (.slice aa n ac) qa (la.take n)) := hra.take (by omega)
  have hY : Hid (RdI w (.slice ba m bc) qb (lb.take m)) := hrb.take (by omega)
  have hac : al ≤ ac ∧ ac ≤ 9223372036854775807 := by obtain ⟨_, _, _, _, e, h1, h2, _⟩ := hra; cases e; omega
  have hbc : bl ≤ bc ∧ bc ≤ 9223372036854775807 := by obtain ⟨_, _, _, _, e, h1, h2, _⟩ := hrb; cases e; omega
  obtain ⟨X, hXe⟩ : ∃ X, X = la.take n := ⟨_, rfl⟩
  obtain ⟨Y, hYe⟩ : ∃ Y, Y = lb.take m := ⟨_, rfl⟩
  have hXl : X.length = n := by rw [hXe, List.length_take]; omega
  have hYl : Y.length = m := by rw [hYe, List.length_take]; omega
  rw [← hXe] at hX
  rw [← hYe] at hY
  clear hXe hYe hra hrb hla hlb la lb
  obtain ⟨hac1, hac2⟩ := hac
  obtain ⟨hbc1, hbc2⟩ := hbc
  go_enter Try.func7, Try.ntmps7
  go_upto_region 1 with fail
  go_cut [7, 8] (fun x y wx => x = .slice aa n ac ∧ y = .slice ba m bc ∧ ∃ q, wx = w.drewN q)
  case first =>
    by_cases h1 : al ≤ 8
    · obtain rfl := hn3 h1
      by_cases h2 : bl ≤ 8
      · obtain rfl := hm3 h2
        go_quiet (fail)
        go_wp2_with fail
        go_meet
        exact ⟨rfl, rfl, _, rfl⟩
      · obtain rfl := hm4 (by omega)
        go_quiet (fail)
        go_wp2_with fail
        go_meet
        exact ⟨rfl, rfl, _, rfl⟩
    · obtain rfl := hn4 (by omega)
      by_cases h2 : bl ≤ 8
      · obtain rfl := hm3 h2
        go_quiet (fail)
        go_wp2_with fail
        go_meet
        exact ⟨rfl, rfl, _, rfl⟩
      · obtain rfl := hm4 (by omega)
        go_quiet (fail)
        go_wp2_with fail
        go_meet
        exact ⟨rfl, rfl, _, rfl⟩
  obtain ⟨rfl, rfl, q, hw⟩ := hcut
  have hb1 : Below w.heap.size w (w.drewN q) := below_drewN (Below.refl _ _) q
  have hS1 : Hid (St w (w.drewN q) [] []) := (st_start w).below hb1
  have hX1 : Hid (RdI (w.drewN q) (.slice aa n ac) qa X) := hX.out.below hb1
  have hY1 : Hid (RdI (w.drewN q) (.slice ba m bc) qb Y) := hY.out.below hb1
  rw [← hw] at hS1 hX1 hY1
  clear hw hb1 hX1 hY1 hn3 hn4 hm3 hm4
  go_wp2_with fail
  refine (within_any _ _ _ _ (by decide) (by decide) (by decide)).mono ?_
  rintro e w1 ⟨⟨r, hr0, hr1, rfl⟩, rfl⟩
  go_upto_region 4 with fail
  refine world_gen (fun W => Hid (St w W [(w1.heap.size, .slice none 0 0, [])] [])) hS1.out.newq0 ?_
  rintro W2 hS2
  obtain ⟨b, hb⟩ : ∃ b, Hid (w1.heap.size = b) := ⟨_, rfl⟩
  rw [hb.out] at hS2 ⊢
  clear hS1 hb
  have hX2 := hX.out.below hS2.out.b
  obtain ⟨L1, ok1, z, hL1, hz, hl1, hlr, hok⟩ : ∃ L1 ok1, ∃ z : Nat, ((r < ((([] : List Inp).length + X.length : Nat) : Int) ∧ ok1 = false ∧ L1 = []) ∨ (((([] : List Inp).length + X.length : Nat) : Int) ≤ r ∧ ok1 = true ∧ L1 = [] ++ X)) ∧ L1.length = z ∧ z ≤ 8 ∧ (z : Int) ≤ r ∧ ((n : Int) ≤ r ∧ ok1 = true ∨ r < (n : Int) ∧ ok1 = false) := by
    by_cases hd : (n : Int) ≤ r
    · exact ⟨X, true, n, .inr ⟨by rw [hXl]; simpa using hd, rfl, rfl⟩, hXl, hn1, hd, .inl ⟨hd, rfl⟩⟩
    · exact ⟨[], false, 0, .inl ⟨by rw [hXl]; simp; omega, rfl, rfl⟩, rfl, by decide, hr0, .inr ⟨by omega, rfl⟩⟩
  go_wp2_with fail
  refine (push_is r (.slice aa n ac) qa X _ hS2.out hX2 (by rw [hXl]; simp; omega) L1 ok1 hL1).mono ?_
  rintro e w3 ⟨rfl, v3, hS3'⟩
  have hS3 : Hid (St w w3 [(b, v3, L1)] []) := hS3'
  clear hS3' hS2 hX2 hL1
  have c3 := hS3.out.hd.2.1.c
  rcases hok with ⟨hd, rfl⟩ | ⟨hd, rfl⟩
  · go_upto_region 7 with fail
    go_wp2_with fail
    refine (all_is v3 L1 _ hS3.out.hd.2.2 (by omega)).mono ?_
    rintro e w4 ⟨u4, rfl, hu4, b4, hf4⟩
    have hS4 : Hid (St w w4 [(b, v3, L1)] [(u4, L1)]) := hS3.out.newl b4 hu4 hf4
    obtain ⟨a4, cc4, e4, _⟩ := hu4.len
    rw [hz] at e4
    subst e4
    clear hu4 b4 hf4 hS3 c3
    have hY4 := hY.out.below hS4.out.b
    obtain ⟨L2, ok2, y, hL2, hy, hly, hyr, hok2⟩ : ∃ L2 ok2, ∃ y : Nat, ((r < ((L1.length + Y.length : Nat) : Int) ∧ ok2 = false ∧ L2 = L1) ∨ (((L1.length + Y.length : Nat) : Int) ≤ r ∧ ok2 = true ∧ L2 = L1 ++ Y)) ∧ L2.length = y ∧ y ≤ 16 ∧ (y : Int) ≤ r ∧ ((((z + m : Nat) : Int) ≤ r ∧ ok2 = true) ∨ (r < ((z + m : Nat) : Int) ∧ ok2 = false ∧ L2 = L1)) := by
      by_cases hd2 : ((z + m : Nat) : Int) ≤ r
      · exact ⟨L1 ++ Y, true, z + m, .inr ⟨by rw [hz, hYl]; exact hd2, rfl, rfl⟩, by rw [List.length_append, hz, hYl], by omega, hd2, .inl ⟨hd2, rfl⟩⟩
      · exact ⟨L1, false, z, .inl ⟨by rw [hz, hYl]; omega, rfl, rfl⟩, hz, by omega, hlr, .inr ⟨by omega, rfl, rfl⟩⟩
    go_wp2_with fail
    refine (push_is r (.slice ba m bc) qb Y _ hS4.out hY4 (by rw [hz, hYl]; omega) L2 ok2 hL2).mono ?_
    rintro e w5 ⟨rfl, v5, hS5'⟩
    have hS5 : Hid (St w w5 [(b, v5, L2)] [(.slice a4 z cc4, L1)]) := hS5'
    clear hS5' hS4 hY4 hL2
    have c5 := hS5.out.hd.2.1.c
    have hL2l : L2.length ≤ 1000000 := by omega
    go_upto_region 9 with fail
    go_cut [60] (fun t wx => t = .bool false ∧ ∃ u, Hid (St w wx [(b, v5, L2)] [(u, L1)]))
    case first =>
      rcases hok2 with ⟨hd2, rfl⟩ | ⟨hd2, rfl, hLL⟩
      · go_wp2_with fail
        go_meet
        exact ⟨rfl, _, hS5⟩
      · subst hLL
        go_wp2_with fail
        refine (all_is v5 L2 _ hS5.out.hd.2.2 hL2l).mono ?_
        rintro e w6 ⟨u6, rfl, hu6, b6, hf6⟩
        have hS6 : Hid (St w w6 [(b, v5, L2)] [(.slice a4 z cc4, L2)]) := hS5.out.below b6
        obtain ⟨k1, hk1⟩ := hu6.rdi
        obtain ⟨k2, hk2⟩ := hS6.out.hl.rdi
        clear hu6 hf6 b6 hS5 c5
        go_wp2_with fail
        refine (same_i _ _ k1 k2 L2 _ hk1 hk2).mono ?_
        rintro e w7 ⟨rfl, b7⟩
        have hS7 : Hid (St w w7 [(b, v5, L2)] [(.slice a4 z cc4, L2)]) := hS6.out.below b7
        clear b7 hS6 hk1 hk2
        go_wp2_with fail
        go_meet
        exact ⟨congrArg Value.bool (by simp; omega), _, hS7⟩
    obtain ⟨rfl, u5, hS6⟩ := hcut
    clear hS5 c5 hok2 hlr
    have c6 := hS6.out.hd.2.1.c
    go_upto_region 11 with fail
    go_wp2_with fail
    refine (waiting_is v5 L2 _ hS6.out.hd.2.2).mono ?_
    rintro e w8 ⟨rfl, b8⟩
    rw [hy]
    have hS8 : Hid (St w w8 [(b, v5, L2)] [(u5, L1)]) := hS6.out.below b8
    clear hS6 b8 c6
    go_wp2_with fail
    refine (push_is (-5) (.slice none 0 0) 0 [] _ hS8.out (rdi_nil _ _) (by simpa using hL2l) L2 false (.inl ⟨by simp; omega, rfl, rfl⟩)).mono ?_
    rintro e w9 ⟨rfl, v9, hS9'⟩
    have hS9 : Hid (St w w9 [(b, v9, L2)] [(u5, L1)]) := hS9'
    clear hS9' hS8
    go_wp2_with fail
    have hS10 : Hid (St w (w9.alloc (.cells #[.bool true, .int .i64 0, .int .i64 0, .int .i64 0, .int .u64 0] 37)) [(b, v9, L2)] [(.slice (some ⟨w9.heap.size, 0, none⟩) 1 1, [MK]), (u5, L1)]) := hS9.out.newl0 [MK] (by decide)
    obtain ⟨k3, hk3⟩ := hS10.out.hl.rdi
    refine (push_is ((y : Int) + 1) (.slice (some ⟨w9.heap.size, 0, none⟩) 1 1) k3 [MK] _ hS10.out hk3 (by simp; omega) (L2 ++ [MK]) true (.inr ⟨by simp; omega, rfl, rfl⟩)).mono ?_
    rintro e w11 ⟨rfl, v11, hS11'⟩
    have hS11 : Hid (St w w11 [(b, v11, L2 ++ [MK])] [(.slice (some ⟨w9.heap.size, 0, none⟩) 1 1, [MK]), (u5, L1)]) := hS11'
    clear hS11' hS10 hk3 hS9
    have c11 := hS11.out.hd.2.1.c
    go_wp2_with fail
    refine (waiting_is v11 (L2 ++ [MK]) _ hS11.out.hd.2.2).mono ?_
    rintro e w12 ⟨rfl, b12⟩
    have hlen : (L2 ++ [MK]).length = y + 1 := by simp [hy]
    rw [hlen]
    have hB12 : Hid (Below w.heap.size w w12) := below_call hS11.out.b b12
    clear hS11 b12 c11 hlen
    go_wp2_with fail
    refine (runs_is _).mono ?_
    rintro e w13 ⟨rfl, b13⟩
    have hB13 : Hid (Below w.heap.size w w13) := below_call hB12.out b13
    clear hB12 b13
    go_wp2_with fail
    go_ret
    exact ⟨rfl, hB13.out⟩
  · go_upto_region 7 with fail
    go_wp2_with fail
    refine (all_is v3 L1 _ hS3.out.hd.2.2 (by omega)).mono ?_
    rintro e w4 ⟨u4, rfl, hu4, b4, hf4⟩
    have hS4 : Hid (St w w4 [(b, v3, L1)] [(u4, L1)]) := hS3.out.newl b4 hu4 hf4
    obtain ⟨a4, cc4, e4, _⟩ := hu4.len
    rw [hz] at e4
    subst e4
    clear hu4 b4 hf4 hS3 c3
    have hY4 := hY.out.below hS4.out.b
    obtain ⟨L2, ok2, y, hL2, hy, hly, hyr, hok2⟩ : ∃ L2 ok2, ∃ y : Nat, ((r < ((L1.length + Y.length : Nat) : Int) ∧ ok2 = false ∧ L2 = L1) ∨ (((L1.length + Y.length : Nat) : Int) ≤ r ∧ ok2 = true ∧ L2 = L1 ++ Y)) ∧ L2.length = y ∧ y ≤ 16 ∧ (y : Int) ≤ r ∧ ((((z + m : Nat) : Int) ≤ r ∧ ok2 = true) ∨ (r < ((z + m : Nat) : Int) ∧ ok2 = false ∧ L2 = L1)) := by
      by_cases hd2 : ((z + m : Nat) : Int) ≤ r
      · exact ⟨L1 ++ Y, true, z + m, .inr ⟨by rw [hz, hYl]; exact hd2, rfl, rfl⟩, by rw [List.length_append, hz, hYl], by omega, hd2, .inl ⟨hd2, rfl⟩⟩
      · exact ⟨L1, false, z, .inl ⟨by rw [hz, hYl]; omega, rfl, rfl⟩, hz, by omega, hlr, .inr ⟨by omega, rfl, rfl⟩⟩
    go_wp2_with fail
    refine (push_is r (.slice ba m bc) qb Y _ hS4.out hY4 (by rw [hz, hYl]; omega) L2 ok2 hL2).mono ?_
    rintro e w5 ⟨rfl, v5, hS5'⟩
    have hS5 : Hid (St w w5 [(b, v5, L2)] [(.slice a4 z cc4, L1)]) := hS5'
    clear hS5' hS4 hY4 hL2
    have c5 := hS5.out.hd.2.1.c
    have hL2l : L2.length ≤ 1000000 := by omega
    go_upto_region 9 with fail
    go_cut [60] (fun t wx => t = .bool false ∧ ∃ u, Hid (St w wx [(b, v5, L2)] [(u, L1)]))
    case first =>
      rcases hok2 with ⟨hd2, rfl⟩ | ⟨hd2, rfl, hLL⟩
      · go_wp2_with fail
        go_meet
        exact ⟨rfl, _, hS5⟩
      · subst hLL
        go_wp2_with fail
        refine (all_is v5 L2 _ hS5.out.hd.2.2 hL2l).mono ?_
        rintro e w6 ⟨u6, rfl, hu6, b6, hf6⟩
        have hS6 : Hid (St w w6 [(b, v5, L2)] [(.slice a4 z cc4, L2)]) := hS5.out.below b6
        obtain ⟨k1, hk1⟩ := hu6.rdi
        obtain ⟨k2, hk2⟩ := hS6.out.hl.rdi
        clear hu6 hf6 b6 hS5 c5
        go_wp2_with fail
        refine (same_i _ _ k1 k2 L2 _ hk1 hk2).mono ?_
        rintro e w7 ⟨rfl, b7⟩
        have hS7 : Hid (St w w7 [(b, v5, L2)] [(.slice a4 z cc4, L2)]) := hS6.out.below b7
        clear b7 hS6 hk1 hk2
        go_wp2_with fail
        go_meet
        exact ⟨congrArg Value.bool (by simp; omega), _, hS7⟩
    obtain ⟨rfl, u5, hS6⟩ := hcut
    clear hS5 c5 hok2 hlr
    have c6 := hS6.out.hd.2.1.c
    go_upto_region 11 with fail
    go_wp2_with fail
    refine (waiting_is v5 L2 _ hS6.out.hd.2.2).mono ?_
    rintro e w8 ⟨rfl, b8⟩
    rw [hy]
    have hS8 : Hid (St w w8 [(b, v5, L2)] [(u5, L1)]) := hS6.out.below b8
    clear hS6 b8 c6
    go_wp2_with fail
    refine (push_is (-5) (.slice none 0 0) 0 [] _ hS8.out (rdi_nil _ _) (by simpa using hL2l) L2 false (.inl ⟨by simp; omega, rfl, rfl⟩)).mono ?_
    rintro e w9 ⟨rfl, v9, hS9'⟩
    have hS9 : Hid (St w w9 [(b, v9, L2)] [(u5, L1)]) := hS9'
    clear hS9' hS8
    go_wp2_with fail
    have hS10 : Hid (St w (w9.alloc (.cells #[.bool true, .int .i64 0, .int .i64 0, .int .i64 0, .int .u64 0] 37)) [(b, v9, L2)] [(.slice (some ⟨w9.heap.size, 0, none⟩) 1 1, [MK]), (u5, L1)]) := hS9.out.newl0 [MK] (by decide)
    obtain ⟨k3, hk3⟩ := hS10.out.hl.rdi
    refine (push_is ((y : Int) + 1) (.slice (some ⟨w9.heap.size, 0, none⟩) 1 1) k3 [MK] _ hS10.out hk3 (by simp; omega) (L2 ++ [MK]) true (.inr ⟨by simp; omega, rfl, rfl⟩)).mono ?_
    rintro e w11 ⟨rfl, v11, hS11'⟩
    have hS11 : Hid (St w w11 [(b, v11, L2 ++ [MK])] [(.slice (some ⟨w9.heap.size, 0, none⟩) 1 1, [MK]), (u5, L1)]) := hS11'
    clear hS11' hS10 hk3 hS9
    have c11 := hS11.out.hd.2.1.c
    go_wp2_with fail
    refine (waiting_is v11 (L2 ++ [MK]) _ hS11.out.hd.2.2).mono ?_
    rintro e w12 ⟨rfl, b12⟩
    have hlen : (L2 ++ [MK]).length = y + 1 := by simp [hy]
    rw [hlen]
    have hB12 : Hid (Below w.heap.size w w12) := below_call hS11.out.b b12
    clear hS11 b12 c11 hlen
    go_wp2_with fail
    refine (runs_is _).mono ?_
    rintro e w13 ⟨rfl, b13⟩
    have hB13 : Hid (Below w.heap.size w w13) := below_call hB12.out b13
    clear hB12 b13
    go_wp2_with fail
    go_ret
    exact ⟨rfl, hB13.out⟩
end Go.Proofs.Ytmkdhgjnfnfliaa
