/- AggMany, walked: of any numbers and any lists of values it returns true, and nothing that was there is written. -/
import Derived.Test.YtbopojolmmnokaaAggs
import Derived.Deep.QuietTactic
import Derived.BigQuiet
namespace Go.Proofs.Ytbopojolmmnokaa
open Go.RowKit M
set_option linter.unusedVariables false

theorem flat_snoc (Ls : List (List Int)) (m : List Int) : (Ls ++ [m]).flatten = Ls.flatten ++ m := by simp
theorem take_flat (Ls : List (List Int)) (j : Nat) (h : j < Ls.length) : (Ls.take (j + 1)).flatten = (Ls.take j).flatten ++ Ls.getD j [] := by
  rw [take_snoc' Ls [] j h, flat_snoc]
theorem flat_le (Ls : List (List Int)) (j : Nat) : (Ls.take j).flatten.length ≤ Ls.flatten.length := by
  conv => rhs; rw [← List.take_append_drop j Ls, List.flatten_append, List.length_append]
  omega
theorem turn_flat_len (Ls : List (List Int)) (C : Nat) : (Ls.drop C ++ Ls.take C).flatten.length = Ls.flatten.length := by
  conv => rhs; rw [← List.take_append_drop C Ls]
  rw [List.flatten_append, List.flatten_append, List.length_append, List.length_append]
  omega
theorem turn_flat_val (k : Int) (Ls : List (List Int)) (C : Nat) : val k (Ls.drop C ++ Ls.take C).flatten = val k Ls.flatten := by
  rw [List.flatten_append, val_comm, ← List.flatten_append, List.take_append_drop]
theorem turn_len2 (l : List (List Int)) (t : Nat) : (l.drop t ++ l.take t).length = l.length := by
  rw [List.length_append, Nat.add_comm, ← List.length_append, List.take_append_drop]

set_option maxHeartbeats 6000000 in
set_option maxRecDepth 100000 in
theorem many_core (kind : Int) (a0 : Option Addr) (len0 cap0 : Nat) (z0 : Unit) (cut : Int) (w : World) (row0 : IsRows w a0 len0 cap0 z0) :
    Calls Try.prog 8 #[.int .i64 kind, .slice a0 len0 cap0, .int .i64 cut] w fun e w' => e = .returned (.bool true) ∧ Below w.heap.size w w' := by
  obtain ⟨i0, hi, hz0, hz1, hz2⟩ := info_parts Try.info25
  obtain ⟨hlen0, hlc0, hcap0, hr0'⟩ := row0
  have hr0 : Hid (∀ r, r < len0 → ∃ b off a' l c zs, a0 = some ⟨b, off, none⟩ ∧ b < w.heap.size ∧ w.cell? ⟨b, off + r, none⟩ = some (.slice a' l c) ∧ IsInts w a' l c zs) := hr0'
  clear hr0'
  go_enter Try.func8, Try.ntmps8
  go_wp2_with fail
  refine (within_any kind 1 4 _ (by decide) (by decide) (by decide)).mono ?_
  rintro e w' ⟨⟨k, hk1, hk4, rfl⟩, he⟩; obtain rfl := he.symm; clear he
  go_wp2_with fail
  refine (new_any k _).mono ?_
  rintro e v0 ⟨rfl, n0⟩
  go_upto_region 3 with fail
  have hs := n0.size
  refine world_gen (fun W => Hid (Agl W v0.heap.size k []) ∧ Below w.heap.size w W) ⟨agl_make v0 k _ rfl, n0.alloc hs _⟩ ?_
  clear n0
  generalize v0.heap.size = g1 at *
  rintro W ⟨a_0, hb_0⟩
  go_upto_block 0 with fail
  go_cut [9] (fun ov wx => ∃ (Ls : List (List Int)) (ao : Option Addr) (cp : Nat), Ls.length ≤ 8 ∧ ov = .slice ao Ls.length cp ∧ Hid (Ls.flatten.length ≤ 6 * Ls.length) ∧ Hid (Agl wx g1 k Ls.flatten) ∧ Hid (wx.ownsRow (g1 + 1) 25 3 (.slice ao Ls.length cp) Ls.length (pv k Ls)) ∧ Below w.heap.size w wx)
  case first =>
    go_wp2_with fail
    go_loopw [9, 10] (fun ov iv0 wr => ∃ (Ls : List (List Int)) (ao : Option Addr) (cp : Nat), Ls.length ≤ len0 ∧ Ls.length ≤ 8 ∧ ov = .slice ao Ls.length cp ∧ iv0 = .int .i64 Ls.length ∧ Hid (Ls.flatten.length ≤ 6 * Ls.length) ∧ Hid (Agl wr g1 k Ls.flatten) ∧ Hid (wr.ownsRow (g1 + 1) 25 3 (.slice ao Ls.length cp) Ls.length (pv k Ls)) ∧ Below w.heap.size w wr) (fun _ i _ => len0 - (intOf i).toNat)
    case atStart => exact ⟨[], none, 0, Nat.zero_le _, Nat.zero_le _, rfl, rfl, Nat.zero_le _, a_0, ⟨rfl, .inl ⟨rfl, rfl⟩⟩, hb_0⟩
    case round =>
      obtain ⟨Ls, ao, cp, hm0, hm8, rfl, rfl, hfl, a_1, p_1, hb_1⟩ := hrel
      clear a_0 hb_0
      obtain ⟨m, hm⟩ : ∃ m, Hid (Ls.length = m) := ⟨_, rfl⟩
      rw [hm.out] at hm0 hm8 hfl p_1 ⊢
      have hways : (m < len0 ∧ m < 8) ∨ (¬ m < len0 ∨ m < len0 ∧ ¬ m < 8) := by omega
      rcases hways with ⟨hlt, hlt2⟩ | hstop
      · obtain ⟨b, off, a', l', c', zs, rfl, hbl, hcell0, hrow0⟩ := hr0.out m hlt
        have hcell : Hid (w.cell? ⟨b, off + m, none⟩ = some (.slice a' l' c')) := hcell0
        have hrow : Hid (IsInts w a' l' c' zs) := hrow0
        clear hr0 hcell0 hrow0
        obtain ⟨K, hK6, hKl, hKe⟩ : ∃ K : Nat, K ≤ 6 ∧ K ≤ l' ∧ ((l' ≤ 6 ∧ K = l') ∨ (6 < l' ∧ K = 6)) := by
          by_cases h : l' ≤ 6
          · exact ⟨l', h, Nat.le_refl _, .inl ⟨h, rfl⟩⟩
          · exact ⟨6, Nat.le_refl _, by omega, .inr ⟨by omega, rfl⟩⟩
        obtain ⟨hxl0, hxr0, hxa0, hlc, hcc, hnil⟩ := rd_row hrow.out K hKl
        have hxl : Hid ((zs.take K).length = K) := hxl0
        have hxr : Hid (Rd .i64 w (.slice a' K c') (zs.take K)) := hxr0
        have hxa : Hid (zs.take K ≠ [] → ∀ g, w.heap.size ≤ g → Apart g (.slice a' K c')) := hxa0
        clear hxl0 hxr0 hxa0 hrow
        obtain ⟨X, hX⟩ : ∃ X, Hid (zs.take K = X) := ⟨_, rfl⟩
        rw [hX.out] at hxl hxr hxa
        clear hX
        go_wp2_with fail
        refine (new_any k _).mono ?_
        rintro e v1 ⟨rfl, q1⟩
        have a_2 : Hid (Agl v1 g1 k Ls.flatten) := a_1.out.call q1
        have p_2 : Hid (v1.ownsRow (g1 + 1) 25 3 (.slice ao m cp) m (pv k Ls)) := own_below p_1.out q1
        have hb_2 := keep_call hb_1 q1 hb_1.size
        clear a_1 p_1 hb_1 q1
        go_upto_region 8 with fail
        have app : Hid (Apart v1.heap.size (.slice ao m cp)) := own_apart p_2.out (Nat.le_refl _)
        have hg1 := a_2.out.lt
        have hs2 := hb_2.size
        refine world_gen (fun W => Hid (Agl W g1 k Ls.flatten) ∧ Hid (Agl W v1.heap.size k []) ∧ Hid (W.ownsRow (g1 + 1) 25 3 (.slice ao m cp) m (pv k Ls)) ∧ Below w.heap.size w W) ⟨a_2.out.alloc _, agl_make v1 k _ rfl, p_2.out.alloc _, hb_2.alloc hs2 _⟩ ?_
        clear a_2 p_2 hb_2
        generalize v1.heap.size = gp at *
        rintro W1 ⟨a_3, q_3, p_3, hb_3⟩
        have cl : W1.cell? ⟨b, off + m, none⟩ = some (.slice a' l' c') := (hb_3.cell (p := ⟨b, off + m, none⟩) hbl).trans hcell.out
        clear hcell
        go_cut [12] (fun v wx => v = .slice a' K c' ∧ ∃ nq, wx = W1.drewN nq)
        case first =>
          cases a' with
          | none =>
            obtain ⟨rfl, rfl⟩ := hnil rfl
            obtain rfl : K = 0 := by omega
            go_wp2_with fail
            go_quiet (fail)
            go_wp2_with fail
            go_meet
            exact ⟨rfl, _, rfl⟩
          | some x =>
            clear hnil
            rcases hKe with ⟨hle, rfl⟩ | ⟨hle, rfl⟩
            all_goals
              go_wp2_with fail
              go_quiet (fail)
              go_wp2_with fail
              go_meet
              exact ⟨rfl, _, rfl⟩
        case rest =>
          obtain ⟨rfl, nq, hwc⟩ := hcut
          have hbk : Below W1.heap.size W1 wc := by rw [hwc]; exact below_drewN (Below.refl _ _) _
          clear hwc cl hKe
          have a_4 : Hid (Agl wc g1 k Ls.flatten) := a_3.out.call hbk
          have q_4 : Hid (Agl wc gp k []) := q_3.out.call hbk
          have p_4 : Hid (wc.ownsRow (g1 + 1) 25 3 (.slice ao m cp) m (pv k Ls)) := own_below p_3.out hbk
          have hb_4 := keep_call hb_3 hbk hb_3.size
          clear a_3 q_3 p_3 hb_3 hbk
          have x_4 : Hid (Rd .i64 wc (.slice a' K c') X) := hxr.out.below hb_4 (Nat.le_refl _)
          clear hxr
          go_wp2_with fail
          refine (add_row gp k [] X a' K c' _ q_4.out x_4.out hxl.out (fun h => hxa.out h gp (by omega)) (by have := hxl.out; simp; omega)).mono ?_
          rintro e W5 ⟨rfl, j1, q1⟩
          rw [List.nil_append] at j1
          have q_5 : Hid (Agl W5 gp k X) := j1
          have a_5 : Hid (Agl W5 g1 k Ls.flatten) := q1.agl a_4.out (by omega)
          have p_5 : Hid (W5.ownsRow (g1 + 1) 25 3 (.slice ao m cp) m (pv k Ls)) := own_but p_4.out q1 app.out
          have hb_5 := keep_but hb_4 q1 (by omega)
          have x_5 : Hid (Rd .i64 W5 (.slice a' K c') X) := by
            have h : Rd .i64 W5 (.slice a' K c') X := by
              by_cases hX : X = []
              · have e0 := hxl.out
                rw [hX] at e0
                obtain rfl : 0 = K := e0
                rw [hX]
                exact Rd.empty (by omega)
              · exact x_4.out.but q1 (hxa.out hX gp (by omega))
            exact h
          clear a_4 q_4 p_4 hb_4 x_4 j1 q1
          go_wp2_with fail
          refine (add_row g1 k Ls.flatten X a' K c' _ a_5.out x_5.out hxl.out (fun h => hxa.out h g1 (by omega)) (by have := hxl.out; have := hfl.out; omega)).mono ?_
          rintro e W6 ⟨rfl, j1, q1⟩
          rw [← flat_snoc] at j1
          have a_6 : Hid (Agl W6 g1 k (Ls ++ [X]).flatten) := j1
          have q_6 : Hid (Agl W6 gp k X) := q1.agl q_5.out (by omega)
          have p_6 : Hid (W6.ownsRow (g1 + 1) 25 3 (.slice ao m cp) m (pv k Ls)) := own_but p_5.out q1 (own_apart_low p_5.out (by omega))
          have hb_6 := keep_but hb_5 q1 (by omega)
          clear a_5 q_5 p_5 hb_5 x_5 j1 q1 hxa app
          obtain ⟨V, hV⟩ : ∃ V, Hid (val k X = V) := ⟨_, rfl⟩
          obtain ⟨c, hc⟩ : ∃ c : Int, Hid ((X.length : Int) = c) := ⟨_, rfl⟩
          obtain ⟨c0, c1, c2⟩ := q_6.out.cells hc.out hV.out
          have hfl2 : Hid ((Ls ++ [X]).flatten.length ≤ 6 * (m + 1)) := by
            have h : (Ls ++ [X]).flatten.length ≤ 6 * (m + 1) := by
              rw [flat_snoc, List.length_append]
              have := hfl.out
              have := hxl.out
              omega
            exact h
          have hl2 : Hid ((Ls ++ [X]).length = m + 1) := by
            have h : (Ls ++ [X]).length = m + 1 := by rw [List.length_append, hm.out]; rfl
            exact h
          have hg6 := a_6.out.lt
          go_wp2_with (at_builtin; refine wpList_append_src3 _ (by rfl) _ _ 44 rfl (g1 + 1) 25 i0 (.agg #[.int .i64 0, .int .i64 0, .int .i64 0]) 24 Try.underlying44 hi hz0 hz1 hz2 rfl _ m (pv k Ls) rfl (p_6.out.alloc _) _ 1 (pv k [X]) rfl (src_agg _ _ _ _ _ hc.out hV.out) (pv_one _ _) (by unfold maxLen; omega) (by omega) (by simp; omega) ?_)
          intro v' W7 hown' hb'
          have hb_7 : Below w.heap.size w W7 := (hb_6.alloc hb_6.size _).trans (hb'.mono (by omega))
          have a_7 : Hid (Agl W7 g1 k (Ls ++ [X]).flatten) := (a_6.out.alloc _).below hb' (by omega)
          have p_7 : Hid (W7.ownsRow (g1 + 1) 25 3 v' (m + 1) (pv k (Ls ++ [X]))) := by
            have h : W7.ownsRow (g1 + 1) 25 3 v' (m + 1) (pv k (Ls ++ [X])) := by rw [pv_append]; exact hown'
            exact h
          obtain ⟨ao', cp', rfl, -⟩ := own_shape p_7.out
          clear hown' hb' a_6 q_6 p_6 hb_6 c0 c1 c2 hc hV
          go_wp2_with fail
          go_roundw
          case rel => exact ⟨Ls ++ [X], ao', cp', by rw [hl2.out]; omega, by rw [hl2.out]; omega, by rw [hl2.out], by rw [hl2.out]; go_num, by rw [hl2.out]; exact hfl2.out, a_7, by rw [hl2.out]; exact p_7.out, hb_7⟩
          case measure => simp [intOf]; omega
      · rcases hstop with h | ⟨h, h2⟩
        all_goals
          go_wp2_with fail
          go_meet
          exact ⟨Ls, ao, cp, by rw [hm.out]; exact hm8, by rw [hm.out], by rw [hm.out]; exact hfl.out, a_1, by rw [hm.out]; exact p_1.out, hb_1⟩
  case rest =>
    obtain ⟨Ls, ao, cp, hm8, rfl, hfl, a_1, p_1, hb_1⟩ := hcut
    clear hr0 a_0 hb_0
    obtain ⟨n, hn⟩ : ∃ n, Hid (Ls.length = n) := ⟨_, rfl⟩
    rw [hn.out] at hm8 hfl p_1 ⊢
    have hFl : Hid (Ls.flatten.length ≤ 48) := by
      have h : Ls.flatten.length ≤ 48 := by have := hfl.out; omega
      exact h
    clear hfl
    go_wp2_with fail
    refine (within_any cut 0 (n : Int) _ (by decide) (by omega) (by omega)).mono ?_
    rintro e w' ⟨⟨C', h0, h1, rfl⟩, he⟩; obtain rfl := he.symm; clear he
    obtain ⟨C, rfl⟩ := Int.eq_ofNat_of_zero_le h0
    have hC : C ≤ n := by omega
    clear h0 h1
    go_wp2_with fail
    refine (new_any k _).mono ?_
    rintro e v1 ⟨rfl, n1⟩
    go_wp2_with fail
    refine (new_any k _).mono ?_
    rintro e v2 ⟨rfl, n2⟩
    have n12 := keep_call n1 n2 n1.size
    have a_2 : Hid (Agl v2 g1 k Ls.flatten) := a_1.out.call n12
    have p_2 : Hid (v2.ownsRow (g1 + 1) 25 3 (.slice ao n cp) n (pv k Ls)) := own_below p_1.out n12
    have hb_2 := keep_call hb_1 n12 hb_1.size
    clear a_1 p_1 hb_1 n1 n2 n12
    go_upto_region 14 with fail
    have ap2 : Hid (Apart v2.heap.size (.slice ao n cp)) := own_apart p_2.out (Nat.le_refl _)
    have hg1 := a_2.out.lt
    have hs2 := hb_2.size
    refine world_gen (fun W => Hid (Agl W g1 k Ls.flatten) ∧ Hid (Agl W v2.heap.size k []) ∧ Hid (Agl W (v2.heap.size + 1) k []) ∧ Hid (W.ownsRow (g1 + 1) 25 3 (.slice ao n cp) n (pv k Ls)) ∧ Below w.heap.size w W)
      ⟨(a_2.out.alloc _).alloc _, (agl_make v2 k _ rfl).alloc _, agl_make (v2.alloc _) k _ (size2 _ _), (p_2.out.alloc _).alloc _, (hb_2.alloc hs2 _).alloc (by simp; omega) _⟩ ?_
    clear a_2 p_2 hb_2
    generalize hg3 : v2.heap.size + 1 = g3 at *
    generalize v2.heap.size = g2 at *
    rintro W2 ⟨a_3, x_3, y_3, p_3, hb_3⟩
    go_wp2_with fail
    have hlLs : Hid (Ls.length = n) := hn
    have hFLs : Hid (Ls.flatten.length ≤ 48) := hFl
    go_loopw [65] (fun i wr => ∃ j : Nat, j ≤ n ∧ i = .int .i64 j ∧ Hid (Agl wr g2 k (Ls.take j).flatten) ∧ Hid (Agl wr g1 k Ls.flatten) ∧ Hid (Agl wr g3 k []) ∧ Hid (wr.ownsRow (g1 + 1) 25 3 (.slice ao n cp) n (pv k Ls)) ∧ Below w.heap.size w wr) (fun i _ => n - (intOf i).toNat)
    case atStart => exact ⟨0, Nat.zero_le _, rfl, x_3, a_3, y_3, p_3, hb_3⟩
    case round =>
      obtain ⟨j, hj, rfl, x_1, a_1, y_1, p_1, hb_1⟩ := hrel
      by_cases hlt : j < n
      · obtain ⟨gq, rfl, hc1, hc2, d0, d1, d2⟩ := own_agg p_1.out hlLs.out j hlt
        have hstep : Hid ((Ls.take (j + 1)).flatten = (Ls.take j).flatten ++ Ls.getD j []) := take_flat Ls j (by have := hlLs.out; omega)
        have hle : Hid ((Ls.take j).flatten.length + (Ls.getD j []).length ≤ 9223372036854775807) := by
          have h : (Ls.take j).flatten.length + (Ls.getD j []).length ≤ 9223372036854775807 := by
            have h1 := flat_le Ls (j + 1)
            rw [hstep.out, List.length_append] at h1
            have := hFLs.out
            omega
          exact h
        obtain ⟨c, hc⟩ : ∃ c : Int, Hid (((Ls.getD j []).length : Int) = c) := ⟨_, rfl⟩
        obtain ⟨V, hV⟩ : ∃ V, Hid (val k (Ls.getD j []) = V) := ⟨_, rfl⟩
        rw [hc.out] at d0
        rw [hV.out] at d2
        go_upto_region 17 with fail
        have apq : Hid (Apart g2 (.slice (some ⟨gq, 0, none⟩) n cp)) := ap2.out
        have hlg := x_1.out.lt
        refine world_gen (fun W => Hid (Agl W g2 k (Ls.take j).flatten) ∧ Hid (Agl W g1 k Ls.flatten) ∧ Hid (Agl W g3 k []) ∧ Hid (W.ownsRow (g1 + 1) 25 3 (.slice (some ⟨gq, 0, none⟩) n cp) n (pv k Ls)) ∧ Agk W wr.heap.size c k V ∧ Below w.heap.size w W)
          ⟨x_1.out.alloc _, a_1.out.alloc _, y_1.out.alloc _, p_1.out.alloc _, agk_make _ _ _ _, hb_1.alloc hb_1.size _⟩ ?_
        clear x_1 a_1 y_1 p_1 hb_1 d0 d1 d2
        generalize wr.heap.size = gc at *
        rintro W4 ⟨x_2, a_2, y_2, p_2, hq, hb_2⟩
        have d0 := hq.c0
        have d1 := hq.c1
        have d2 := hq.c2
        go_wp2_with fail
        refine (merge_is g2 k (Ls.take j).flatten (Ls.getD j []) c V _ x_2.out hle.out hc.out hV.out).mono ?_
        rintro e W5 ⟨rfl, j1, q1⟩
        rw [← hstep.out] at j1
        have x_3 : Hid (Agl W5 g2 k (Ls.take (j + 1)).flatten) := j1
        have a_3 : Hid (Agl W5 g1 k Ls.flatten) := q1.agl a_2.out (by omega)
        have y_3 : Hid (Agl W5 g3 k []) := q1.agl y_2.out (by omega)
        have p_3 : Hid (W5.ownsRow (g1 + 1) 25 3 (.slice (some ⟨gq, 0, none⟩) n cp) n (pv k Ls)) := own_but p_2.out q1 apq.out
        have hb_3 := keep_but hb_2 q1 (by omega)
        clear x_2 a_2 y_2 p_2 hb_2 j1 q1 hq d0 d1 d2 hc hV hstep hle
        go_wp2_with fail
        go_roundw
        case rel => exact ⟨j + 1, by omega, by go_num, x_3, a_3, y_3, p_3, hb_3⟩
        case measure => simp [intOf]; omega
      · have hjn : j = n := by omega
        have hall : Hid (Ls.take j = Ls) := by
          have h : Ls.take j = Ls := List.take_of_length_le (by have := hn.out; omega)
          exact h
        rw [hall.out] at x_1
        clear hall a_3 x_3 y_3 p_3 hb_3 hlt
        obtain ⟨u1, u2, hparts, s1', s2'⟩ := parts3_ex p_1.out hn.out hC
        have s1 : Hid (Src3 wr.drew u1 (n - C) (pv k (Ls.drop C))) := s1'
        have s2 : Hid (Src3 wr.drew u2 C (pv k (Ls.take C))) := s2'
        have x_4 : Hid (Agl wr.drew g2 k Ls.flatten) := x_1.out.drew
        have a_4 : Hid (Agl wr.drew g1 k Ls.flatten) := a_1.out.drew
        have y_4 : Hid (Agl wr.drew g3 k []) := y_1.out.drew
        have hb_4 : Below w.heap.size w wr.drew := hb_1.drew
        clear s1' s2' x_1 a_1 y_1 p_1 hb_1
        go_upto_region 20 with fail
        refine wp_region_held_drew (S := fun _ => True) (by kernel_rfl) trivial (fun hHeld => ?_)
        generalize wr.drew = V at s1 s2 x_4 a_4 y_4 hb_4 ⊢
        refine take_at (i := 1) (v := .slice ao n cp) rfl rfl (by kernel_rfl) (by kernel_rfl) (by kernel_rfl) (fun _ _ _ h => h) (Or.inl ⟨by rfl, fun X _ => by go_simp⟩) trivial ?_
        try simp only [Act.put, List.setIfInBounds_toArray, List.set_cons_zero, List.set_cons_succ]
        refine take_at (i := 2) (v := .int .i64 (C : Int)) rfl rfl (by kernel_rfl) (by kernel_rfl) (by kernel_rfl) (fun _ _ _ h => h) (Or.inl ⟨by rfl, fun X _ => by go_simp⟩) trivial ?_
        try simp only [Act.put, List.setIfInBounds_toArray, List.set_cons_zero, List.set_cons_succ]
        refine take_at (i := 3) (v := u1) rfl rfl (by kernel_rfl) (by kernel_rfl) (by kernel_rfl) (fun _ _ _ h => h) (Or.inl ⟨by rfl, fun X _ => ?sl1⟩) trivial ?_
        case sl1 =>
          rcases hparts with ⟨rfl, rfl, rfl, rfl, rfl, rfl⟩ | ⟨g, rfl, p1, p2, p3, rfl, ⟨rfl, rfl⟩ | ⟨p4, rfl⟩⟩
          · go_simp
          · have p5 : n = C := by omega
            subst p5
            go_simp
          · go_simp
            omega
        try simp only [Act.put, List.setIfInBounds_toArray, List.set_cons_zero, List.set_cons_succ]
        refine take_at (i := 5) (v := .slice ao n cp) rfl rfl (by kernel_rfl) (by kernel_rfl) (by kernel_rfl) (fun _ _ _ h => h) (Or.inl ⟨by rfl, fun X _ => by go_simp⟩) trivial ?_
        try simp only [Act.put, List.setIfInBounds_toArray, List.set_cons_zero, List.set_cons_succ]
        refine take_at (i := 6) (v := .int .i64 (C : Int)) rfl rfl (by kernel_rfl) (by kernel_rfl) (by kernel_rfl) (fun _ _ _ h => h) (Or.inl ⟨by rfl, fun X _ => by go_simp⟩) trivial ?_
        try simp only [Act.put, List.setIfInBounds_toArray, List.set_cons_zero, List.set_cons_succ]
        refine take_at (i := 7) (v := u2) rfl rfl (by kernel_rfl) (by kernel_rfl) (by kernel_rfl) (fun _ _ _ h => h) (Or.inl ⟨by rfl, fun X _ => ?sl2⟩) trivial ?_
        case sl2 =>
          rcases hparts with ⟨rfl, rfl, rfl, rfl, rfl, rfl⟩ | ⟨g, rfl, p1, p2, p3, rfl, ⟨rfl, rfl⟩ | ⟨p4, rfl⟩⟩
          · go_simp
          · go_simp
          · have p5 : C ≤ cp := by omega
            go_simp
        try simp only [Act.put, List.setIfInBounds_toArray, List.set_cons_zero, List.set_cons_succ]
        refine take_at (i := 10) (v := .int .i64 0) rfl rfl (by kernel_rfl) (by kernel_rfl) (by kernel_rfl) (fun _ _ _ h => h) (Or.inl ⟨by rfl, fun X _ => by go_simp⟩) trivial ?_
        try simp only [Act.put, List.setIfInBounds_toArray, List.set_cons_zero, List.set_cons_succ]
        clear hparts
        refine wpAnyH_ready (rs := [0]) (by kernel_rfl) (by simp) ?_
        refine AllReadyH.cons rfl (fun K hK => ?_) AllReadyH.nil
        rw [if_pos (by rfl)]
        go_simp
        refine hK.out _ _ trivial (fun hHeld => ?_)
        clear hK K
        try simp only [Act.put, List.setIfInBounds_toArray, List.set_cons_zero, List.set_cons_succ]
        have hownL : (V.alloc (.cells #[] 25)).ownsRow V.heap.size 25 3 (.slice (some ⟨V.heap.size, 0, none⟩) 0 0) 0 [] :=
          World.ownsRow_lit V #[] 0 (Nat.le_refl _) (by unfold maxLen; omega) (by simp)
        refine wpAnyH_ready (rs := [4]) (by kernel_rfl) (by simp) ?_
        refine AllReadyH.cons rfl (fun K hK => ?_) AllReadyH.nil
        refine step_append_src3 _ rfl (by rfl) (.tmp 73) (.tmp 76) 44 rfl V.heap.size 25 i0 (.agg #[.int .i64 0, .int .i64 0, .int .i64 0]) 24 Try.underlying44 hi hz0 hz1 hz2 rfl _ 0 [] rfl hownL u1 (n - C) (pv k (Ls.drop C)) rfl (s1.out.below (below_alloc V _) (Nat.le_refl _)) (pv_one _ _) (by unfold maxLen; omega) (by omega) (below_alloc V _).size ?_
        intro v5 V2 o5 b5
        have t5 : Below V.heap.size V V2 := (below_alloc V _).trans b5
        refine hK.out _ _ trivial (fun hHeld => ?_)
        clear hK K
        try simp only [Act.put, List.setIfInBounds_toArray, List.set_cons_zero, List.set_cons_succ]
        clear b5 hownL
        refine wpAnyH_ready (rs := [8]) (by kernel_rfl) (by simp) ?_
        refine AllReadyH.cons rfl (fun K hK => ?_) AllReadyH.nil
        refine step_append_src3 _ rfl (by rfl) (.tmp 77) (.tmp 80) 44 rfl V.heap.size 25 i0 (.agg #[.int .i64 0, .int .i64 0, .int .i64 0]) 24 Try.underlying44 hi hz0 hz1 hz2 rfl _ _ _ rfl o5 u2 C (pv k (Ls.take C)) rfl (s2.out.below t5 (Nat.le_refl _)) (pv_one _ _) (by unfold maxLen; omega) (by omega) t5.size ?_
        intro v6 V3 o6 b6
        have t6 : Below V.heap.size V V3 := t5.trans b6
        refine hK.out _ _ trivial (fun hHeld => ?_)
        clear hK K
        try simp only [Act.put, List.setIfInBounds_toArray, List.set_cons_zero, List.set_cons_succ]
        have e6 : 0 + (n - C) + C = n := by omega
        have o7 : V3.ownsRow V.heap.size 25 3 v6 n (pv k (Ls.drop C ++ Ls.take C)) := by
          rw [pv_append, ← e6]; exact o6
        obtain ⟨T, hT⟩ : ∃ T, Hid (Ls.drop C ++ Ls.take C = T) := ⟨_, rfl⟩
        rw [hT.out] at o7
        have hlT : Hid (T.length = n) := by
          have h : T.length = n := by rw [← hT.out, turn_len2, hn.out]
          exact h
        have hFT : Hid (T.flatten.length ≤ 48) := by
          have h : T.flatten.length ≤ 48 := by rw [← hT.out, turn_flat_len]; exact hFl.out
          exact h
        have p_5 : Hid (V3.ownsRow V.heap.size 25 3 v6 n (pv k T)) := o7
        have x_5 : Hid (Agl V3 g2 k Ls.flatten) := x_4.out.call t6
        have a_5 : Hid (Agl V3 g1 k Ls.flatten) := a_4.out.call t6
        have y_5 : Hid (Agl V3 g3 k []) := y_4.out.call t6
        have hb_5 := keep_call hb_4 t6 hb_4.size
        have hg3V := y_4.out.lt
        clear o5 o6 o7 e6 t5 b6 t6 s1 s2 x_4 a_4 y_4 hb_4
        generalize V.heap.size = B0 at *
        obtain ⟨ao6, cp6, rfl, -⟩ := own_shape p_5.out
        refine take_at (i := 9) (v := .int .i64 (n : Int)) rfl rfl (by kernel_rfl) (by kernel_rfl) (by kernel_rfl) (fun _ _ _ h => h) (Or.inl ⟨by rfl, fun X _ => by go_simp⟩) trivial ?_
        try simp only [Act.put, List.setIfInBounds_toArray, List.set_cons_zero, List.set_cons_succ]
        refine wpAnyH_done (by kernel_rfl) ?_ _
        go_wp2_with fail
        go_loopw [83] (fun i wr => ∃ j : Nat, j ≤ n ∧ i = .int .i64 j ∧ Hid (Agl wr g3 k (T.take j).flatten) ∧ Hid (Agl wr g1 k Ls.flatten) ∧ Hid (Agl wr g2 k Ls.flatten) ∧ Hid (wr.ownsRow B0 25 3 (.slice ao6 n cp6) n (pv k T)) ∧ Below w.heap.size w wr) (fun i _ => n - (intOf i).toNat)
        case atStart => exact ⟨0, Nat.zero_le _, rfl, y_5, a_5, x_5, p_5, hb_5⟩
        case round =>
          obtain ⟨j, hj, rfl, y_1, a_1, x_1, p_1, hb_1⟩ := hrel
          by_cases hlt : j < n
          · obtain ⟨gq, rfl, hc1, hc2, d0, d1, d2⟩ := own_agg p_1.out hlT.out j hlt
            have hstep : Hid ((T.take (j + 1)).flatten = (T.take j).flatten ++ T.getD j []) := take_flat T j (by have := hlT.out; omega)
            have hle : Hid ((T.take j).flatten.length + (T.getD j []).length ≤ 9223372036854775807) := by
              have h : (T.take j).flatten.length + (T.getD j []).length ≤ 9223372036854775807 := by
                have h1 := flat_le T (j + 1)
                rw [hstep.out, List.length_append] at h1
                have := hFT.out
                omega
              exact h
            obtain ⟨c, hc⟩ : ∃ c : Int, Hid (((T.getD j []).length : Int) = c) := ⟨_, rfl⟩
            obtain ⟨V, hV⟩ : ∃ V, Hid (val k (T.getD j []) = V) := ⟨_, rfl⟩
            rw [hc.out] at d0
            rw [hV.out] at d2
            go_upto_region 23 with fail
            have apq : Hid (Apart g3 (.slice (some ⟨gq, 0, none⟩) n cp6)) := own_apart_low p_1.out (by omega)
            have hlg := y_1.out.lt
            refine world_gen (fun W => Hid (Agl W g3 k (T.take j).flatten) ∧ Hid (Agl W g1 k Ls.flatten) ∧ Hid (Agl W g2 k Ls.flatten) ∧ Hid (W.ownsRow B0 25 3 (.slice (some ⟨gq, 0, none⟩) n cp6) n (pv k T)) ∧ Agk W wr.heap.size c k V ∧ Below w.heap.size w W)
              ⟨y_1.out.alloc _, a_1.out.alloc _, x_1.out.alloc _, p_1.out.alloc _, agk_make _ _ _ _, hb_1.alloc hb_1.size _⟩ ?_
            clear y_1 a_1 x_1 p_1 hb_1 d0 d1 d2
            generalize wr.heap.size = gc at *
            rintro W4 ⟨y_2, a_2, x_2, p_2, hq, hb_2⟩
            have d0 := hq.c0
            have d1 := hq.c1
            have d2 := hq.c2
            go_wp2_with fail
            refine (merge_is g3 k (T.take j).flatten (T.getD j []) c V _ y_2.out hle.out hc.out hV.out).mono ?_
            rintro e W5 ⟨rfl, j1, q1⟩
            rw [← hstep.out] at j1
            have y_3 : Hid (Agl W5 g3 k (T.take (j + 1)).flatten) := j1
            have a_3 : Hid (Agl W5 g1 k Ls.flatten) := q1.agl a_2.out (by omega)
            have x_3 : Hid (Agl W5 g2 k Ls.flatten) := q1.agl x_2.out (by omega)
            have p_3 : Hid (W5.ownsRow B0 25 3 (.slice (some ⟨gq, 0, none⟩) n cp6) n (pv k T)) := own_but p_2.out q1 apq.out
            have hb_3 := keep_but hb_2 q1 (by omega)
            clear y_2 a_2 x_2 p_2 hb_2 j1 q1 hq d0 d1 d2 hc hV hstep hle
            go_wp2_with fail
            go_roundw
            case rel => exact ⟨j + 1, by omega, by go_num, y_3, a_3, x_3, p_3, hb_3⟩
            case measure => simp [intOf]; omega
          · have hjn : j = n := by omega
            have hall : Hid (T.take j = T) := by
              have h : T.take j = T := List.take_of_length_le (by have := hlT.out; omega)
              exact h
            rw [hall.out] at y_1
            have y_2 : Hid (Agl wr g3 k Ls.flatten) := by
              have h : Agl wr g3 k Ls.flatten := y_1.out.to (by rw [← hT.out, turn_flat_len]) (by rw [← hT.out, turn_flat_val])
              exact h
            clear hall y_1 a_5 x_5 y_5 p_5 hb_5 hlt p_1
            obtain ⟨F, hF⟩ : ∃ F : Int, Hid ((Ls.flatten.length : Int) = F) := ⟨_, rfl⟩
            obtain ⟨U, hU⟩ : ∃ U, Hid (val k Ls.flatten = U) := ⟨_, rfl⟩
            obtain ⟨c0, c1, c2⟩ := a_1.out.cells hF.out hU.out
            obtain ⟨d0, d1, d2⟩ := x_1.out.cells hF.out hU.out
            obtain ⟨e0, e1, e2⟩ := y_2.out.cells hF.out hU.out
            clear a_1 x_1 y_2
            go_wp2_with fail
            refine (runs_any _).mono ?_
            rintro e w9 ⟨rfl, b9⟩
            go_wp2_with fail
            go_ret
            exact ⟨rfl, keep_call hb_1 b9 hb_1.size⟩
theorem aggMany_walk (kind : Int) (a1 : Option Addr) (len1 cap1 : Nat) (z1 : Unit) (cut : Int) (w : World) (_ : (Lit.int .i64 kind).wf = true) (row1 : IsRows w a1 len1 cap1 z1) (_ : (Lit.int .i64 cut).wf = true) :
    Calls Try.prog 8 #[.int .i64 kind, .slice a1 len1 cap1, .int .i64 cut] w fun e w' => e = .returned (.bool true) ∧ Below w.heap.size w w' := many_core kind a1 len1 cap1 z1 cut w row1
end Go.Proofs.Ytbopojolmmnokaa
