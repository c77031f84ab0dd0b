/- SlotSums, walked: of any numbers it returns true, and nothing that was there is written. -/
import Derived.Test.YtokcanmhhabecaaOwn
import Derived.Test.YtokcanmhhabecaaMathS
namespace Go.Proofs.Ytokcanmhhabecaa
open Go.RowKit M
set_option linter.unusedVariables false

theorem src_lit1 (w : World) (x : Int) : Src (w.alloc (.cells #[.int .i64 x] 3)) (.slice (some ⟨w.heap.size, 0, none⟩) 1 1) 1 [.int .i64 x] := by
  have h := World.ownsRow_lit (base := w.heap.size) (e := 3) (size := 1) w #[.int .i64 x] 1 (Nat.le_refl _) (by unfold maxLen; omega) (by simp)
  exact src_own h
theorem one_int (x : Int) : ∀ u ∈ [Value.int .i64 x], u.oneCell' = true := ints_oneCell _ [x]

set_option maxHeartbeats 2000000 in
set_option maxRecDepth 100000 in
theorem sums_core (t : Int) (a1 : Option Addr) (len1 cap1 : Nat) (z1 : List Int) (b c : Int) (w : World) (row1 : IsInts w a1 len1 cap1 z1) :
    Calls Try.prog 7 #[.int .i64 t, .slice a1 len1 cap1, .int .i64 b, .int .i64 c] w fun e w' => e = .returned (.bool true) ∧ Below w.heap.size w w' := by
  obtain ⟨i0, hi, hz0, hz1, hz2⟩ := info_parts Try.info3
  obtain ⟨hlm, hcm, hlc, hat⟩ := ints_at row1
  have hat' : Hid (∀ k, k < len1 → ∃ b off n, a1 = some ⟨b, off, none⟩ ∧ b < w.heap.size ∧ w.cell? ⟨b, off + k, none⟩ = some (.int .i64 n) ∧ (Lit.int .i64 n).wf = true) := hat
  clear hat row1
  go_enter Try.func7, Try.ntmps7
  go_wp2_with fail
  refine (within_any t 0 1099511627776 _ (by decide) (by decide) (by decide)).mono ?_
  rintro e w' ⟨⟨x, hx0, hx1, rfl⟩, he⟩; obtain rfl := he.symm; clear he
  go_upto_block 0 with fail
  go_cut [10, 11, 12] (fun v s m wx => ∃ ns : List Int, ns.length ≤ 8 ∧ Hid (Row wx w.heap.size v ns) ∧ s = .int .i64 ns.sum ∧ m = .int .i64 (mx ns) ∧ Hid (∀ x ∈ ns, 0 ≤ x ∧ x ≤ 500) ∧ 0 ≤ ns.sum ∧ ns.sum ≤ 4000 ∧ 0 ≤ mx ns ∧ mx ns ≤ 500 ∧ Hid (Below w.heap.size w wx))
  case first =>
    go_wp2_with fail
    go_loopw [10, 11, 12, 13] (fun v s m i wr => ∃ ns : List Int, ns.length ≤ 8 ∧ ns.length ≤ len1 ∧ i = .int .i64 (ns.length : Int) ∧ Hid (Row wr w.heap.size v ns) ∧ s = .int .i64 ns.sum ∧ m = .int .i64 (mx ns) ∧ Hid (∀ x ∈ ns, 0 ≤ x ∧ x ≤ 500) ∧ 0 ≤ ns.sum ∧ ns.sum ≤ 500 * ns.length ∧ 0 ≤ mx ns ∧ mx ns ≤ 500 ∧ Hid (Below w.heap.size w wr)) (fun _ _ _ i _ => 8 - (intOf i).toNat)
    case atStart => exact ⟨[], by simp, by simp, rfl, row_nil _ _, rfl, rfl, (show ∀ x ∈ ([] : List Int), 0 ≤ x ∧ x ≤ 500 by simp), by simp, by simp, by simp [mx], by simp [mx], Below.refl _ _⟩
    case round =>
      obtain ⟨ns, hn8, hnl, rfl, hrow, rfl, rfl, hmem, hs0, hs1, hm0, hm1, hbw⟩ := hrel
      obtain ⟨K, hK⟩ : ∃ K, Hid (ns.length = K) := ⟨_, rfl⟩
      obtain ⟨S, hS⟩ : ∃ S, Hid (ns.sum = S) := ⟨_, rfl⟩
      obtain ⟨M, hM⟩ : ∃ M, Hid (mx ns = M) := ⟨_, rfl⟩
      rw [hK.out] at hn8 hnl hs1 ⊢
      rw [hS.out] at hs0 hs1 ⊢
      rw [hM.out] at hm0 hm1 ⊢
      have hways : (K < len1 ∧ K < 8) ∨ (¬ K < len1 ∨ K < len1 ∧ ¬ K < 8) := by omega
      rcases hways with ⟨hlt, hlt8⟩ | hout
      · obtain ⟨bb, off, n, rfl, hbb, hcell, _⟩ := hat'.out K hlt
        have g := (hbw.out.cell (p := ⟨bb, off + K, none⟩) hbb).trans hcell
        have hrow' : Hid (wr.ownsRow w.heap.size 3 1 u10 K (iv ns)) := by
          have h : wr.ownsRow w.heap.size 3 1 u10 K (iv ns) := by rw [← hK.out]; exact hrow.out
          exact h
        clear hrow hcell
        go_wp2_with fail
        refine (within_any n 0 500 _ (by decide) (by decide) (by decide)).mono ?_
        rintro e w' ⟨⟨y, hy0, hy1, rfl⟩, he⟩; obtain rfl := he.symm; clear he
        clear g
        have hsz := hbw.out.size
        go_upto_region 9 with (at_builtin; refine wpList_append_src _ (by rfl) _ _ 29 rfl w.heap.size 3 i0 (.int .i64 0) 8 Try.underlying29 hi hz0 hz1 hz2 rfl _ K (iv ns) rfl (own_below hrow'.out (below_alloc _ _)) _ 1 [.int .i64 y] rfl (src_lit1 _ _) (one_int y) (by unfold maxLen; omega) (by omega) (by simp; omega) ?_; intro v1 w1 hown1 hb1)
        have hrow1 : Hid (Row w1 w.heap.size v1 (ns ++ [y])) := Row.snoc (by rw [hK.out]; exact hown1)
        have hb2 : Hid (Below w.heap.size w w1) := (hbw.out.alloc hsz _).trans hb1
        have hl1 : Hid ((ns ++ [y]).length = K + 1) := by
          have h : (ns ++ [y]).length = K + 1 := by rw [List.length_append, hK.out]; rfl
          exact h
        have hs1' : Hid ((ns ++ [y]).sum = S + y) := by
          have h : (ns ++ [y]).sum = S + y := by rw [List.sum_append, hS.out]; simp
          exact h
        have hm1' : Hid (mx (ns ++ [y]) = max M y) := by
          have h : mx (ns ++ [y]) = max M y := by rw [mx_snoc, hM.out]
          exact h
        have hmem1 : Hid (∀ x ∈ ns ++ [y], 0 ≤ x ∧ x ≤ 500) := by
          have h : ∀ x ∈ ns ++ [y], 0 ≤ x ∧ x ≤ 500 := fun x hx => by
            rcases List.mem_append.1 hx with h | h
            · exact hmem.out x h
            · rw [List.mem_singleton.1 h]; exact ⟨hy0, hy1⟩
          exact h
        clear hown1 hb1 hrow' hbw hsz hmem
        go_wp2_with fail
        all_goals
          go_roundw
          case rel => exact ⟨ns ++ [y], by rw [hl1.out]; omega, by rw [hl1.out]; omega, by rw [hl1.out]; go_num, hrow1, val_int hs1'.out.symm, val_int (by rw [hm1'.out]; omega), hmem1, by rw [hs1'.out]; omega, by rw [hs1'.out, hl1.out]; omega, by rw [hm1'.out]; omega, by rw [hm1'.out]; omega, hb2⟩
          case measure => simp [intOf]; omega
      · rcases hout with h1 | ⟨h1, h2⟩
        all_goals
          go_wp2_with fail
          go_meet
          exact ⟨ns, by rw [hK.out]; exact hn8, hrow, val_int hS.out.symm, val_int hM.out.symm, hmem, by rw [hS.out]; exact hs0, by rw [hS.out]; omega, by rw [hM.out]; exact hm0, by rw [hM.out]; exact hm1, hbw⟩
  case rest =>
    obtain ⟨ns, hn8, hrow, rfl, rfl, hmem, hs0, hs1, hm0, hm1, hbw⟩ := hcut
    clear hat' hlm hcm hlc hi hz0 hz1 hz2
    have hn8' : Hid (ns.length ≤ 8) := hn8
    clear hn8
    obtain ⟨S, hS⟩ : ∃ S, Hid (ns.sum = S) := ⟨_, rfl⟩
    obtain ⟨M, hM⟩ : ∃ M, Hid (mx ns = M) := ⟨_, rfl⟩
    rw [hS.out] at hs0 hs1 ⊢
    rw [hM.out] at hm0 hm1 ⊢
    obtain ⟨f, hf⟩ : ∃ f, Hid (x % 8 = f) := ⟨_, rfl⟩
    have hall : Hid (sumA (fun i => sv 500 (tn f i) ns) 8 = S) := by
      have h : sumA (fun i => sv 500 (tn f i) ns) 8 = S := by rw [served_all f 500 ns (by have := hf.out; omega) hn8'.out hmem.out (by decide), hS.out]
      exact h
    have hbd : Hid (∀ k, 0 ≤ sumA (fun i => sv 500 (tn f i) ns) k ∧ sumA (fun i => sv 500 (tn f i) ns) k ≤ k * 500) := sumA_bd (fun i => sv_bd)
    have hnone : Hid (∀ k, sumA (fun i => sv (-3) (tn f i) ns) k = 0) := served_none f (-3) ns (by decide)
    go_wp2_with fail
    refine (plan_is 500 x _ ns _ hrow.out.rd hx0 (by omega)).mono ?_
    rintro e w1 ⟨bb, rfl, hb, t1, b1⟩
    rw [hf.out] at t1
    have t1' : Hid (Tb w1 bb (tn f) (fun i => sv 500 (tn f i) ns)) := t1
    have hrow1 : Hid (Row w1 w.heap.size u10 ns) := hrow.out.call b1
    have hb1 : Hid (Below w.heap.size w w1) := keep_call hbw.out b1 hbw.out.size
    clear t1 b1 hrow hbw hb
    go_wp2_with fail
    go_loopw [15, 54] (fun s i wr => ∃ k : Nat, k ≤ 8 ∧ i = .int .i64 (k : Int) ∧ s = .int .i64 (sumA (fun i => sv 500 (tn f i) ns) k) ∧ Hid (Below w1.heap.size w1 wr)) (fun _ i _ => 8 - (intOf i).toNat)
    case atStart => exact ⟨0, by omega, rfl, rfl, Below.refl _ _⟩
    case round =>
      obtain ⟨k, hk, rfl, rfl, hbw⟩ := hrel
      have hbk := hbd.out k
      by_cases hlt : k < 8
      · have tt := t1'.out.call hbw.out
        have c0 := tt.at0 k hlt
        have c1 := tt.at1 k hlt
        have hnx : Hid (sumA (fun i => sv 500 (tn f i) ns) (k + 1) = sumA (fun i => sv 500 (tn f i) ns) k + sv 500 (tn f k) ns) := rfl
        have hpb : 0 ≤ sv 500 (tn f k) ns ∧ sv 500 (tn f k) ns ≤ max 0 500 := sv_bd
        obtain ⟨Q, hQ⟩ : ∃ Q, Hid (sumA (fun i => sv 500 (tn f i) ns) k = Q) := ⟨_, rfl⟩
        obtain ⟨P, hP⟩ : ∃ P, Hid (sv 500 (tn f k) ns = P) := ⟨_, rfl⟩
        obtain ⟨G, hG⟩ : ∃ G, Hid (tn f k = G) := ⟨_, rfl⟩
        rw [hQ.out, hP.out] at hnx
        rw [hP.out] at hpb c1
        rw [hQ.out] at hbk ⊢
        rw [hG.out] at c0
        have hsz := hbw.out.size
        have hb2 : Hid (∀ o, Below w1.heap.size w1 (wr.alloc o)) := fun o => hbw.out.alloc hsz o
        clear hQ hP hG tt
        go_wp2_with fail
        go_roundw
        case rel => exact ⟨k + 1, by omega, by go_num, val_int hnx.out.symm, hb2.out _⟩
        case measure => simp [intOf]; omega
      · have : k = 8 := by omega
        subst this
        rw [hall.out]
        have hrow2 : Hid (Row wr w.heap.size u10 ns) := hrow1.out.call hbw.out
        have hb2 : Hid (Below w.heap.size w wr) := keep_call hb1.out hbw.out hb1.out.size
        clear hrow1 hb1 hbw t1' hbk hall hbd hlt hk
        go_wp2_with fail
        refine (plan_is (-3) x _ ns _ hrow2.out.rd hx0 (by omega)).mono ?_
        rintro e w3 ⟨b3, rfl, hb, t3, b3'⟩
        rw [hf.out] at t3
        have t3' : Hid (Tb w3 b3 (tn f) (fun i => sv (-3) (tn f i) ns)) := t3
        have hb3 : Hid (Below w.heap.size w w3) := keep_call hb2.out b3' hb2.out.size
        clear t3 b3' hrow2 hb2 hb
        go_wp2_with fail
        go_loopw [18, 67] (fun s i wr => ∃ k : Nat, k ≤ 8 ∧ i = .int .i64 (k : Int) ∧ s = .int .i64 0 ∧ Hid (Below w3.heap.size w3 wr)) (fun _ i _ => 8 - (intOf i).toNat)
        case atStart => exact ⟨0, by omega, rfl, rfl, Below.refl _ _⟩
        case round =>
          obtain ⟨k, hk, rfl, rfl, hbw⟩ := hrel
          by_cases hlt : k < 8
          · have tt := t3'.out.call hbw.out
            have c0 := tt.at0 k hlt
            have c1 := tt.at1 k hlt
            rw [show sv (-3) (tn f k) ns = 0 from sv_none (by decide) _ _] at c1
            obtain ⟨G, hG⟩ : ∃ G, Hid (tn f k = G) := ⟨_, rfl⟩
            rw [hG.out] at c0
            have hsz := hbw.out.size
            have hb2 : Hid (∀ o, Below w3.heap.size w3 (wr.alloc o)) := fun o => hbw.out.alloc hsz o
            clear hG tt
            go_wp2_with fail
            go_roundw
            case rel => exact ⟨k + 1, by omega, by go_num, rfl, hb2.out _⟩
            case measure => simp [intOf]; omega
          · have hb4 : Hid (Below w.heap.size w wr) := keep_call hb3.out hbw.out hb3.out.size
            have h8 : k = 8 := by omega
            subst h8
            clear hb3 hbw t3' hnone hlt hk
            go_wp2_with fail
            refine (within_any b 1 50 _ (by decide) (by decide) (by decide)).mono ?_
            rintro e w' ⟨⟨B, hB0, hB1, rfl⟩, he⟩; obtain rfl := he.symm; clear he
            obtain ⟨T, hT⟩ : ∃ T, Hid (tk M B = T) := ⟨_, rfl⟩
            have hTb := tk_bd (n := M) (b := B) (by omega) hm0
            have hen := tk_enough (n := M) (b := B) hm0 (by omega)
            have hlea : 0 < M → (tk M B - 1) * B < M := tk_least (by omega)
            have hze := tk_zero (n := M) (b := B) (by omega)
            rw [hT.out] at hTb hen hlea hze
            go_wp2_with fail
            refine (ticks_is M B T _ (by omega) (by omega) (by omega) (by omega) hT.out).mono ?_
            rintro e w' ⟨rfl, he⟩; obtain rfl := he.symm; clear he
            go_wp2_with fail
            refine (within_any c 0 50 _ (by decide) (by decide) (by decide)).mono ?_
            rintro e w' ⟨⟨C, hC0, hC1, rfl⟩, he⟩; obtain rfl := he.symm; clear he
            have hmo : tk M (B + C) ≤ tk M B := tk_mono (by omega) hC0
            rw [hT.out] at hmo
            obtain ⟨U, hU⟩ : ∃ U, Hid (tk M (B + C) = U) := ⟨_, rfl⟩
            rw [hU.out] at hmo
            go_wp2_with fail
            refine (ticks_is M (B + C) U _ (by omega) (by omega) (by omega) (by omega) hU.out).mono ?_
            rintro e w' ⟨rfl, he⟩; obtain rfl := he.symm; clear he
            have hx0' : 0 ≤ T * B := Int.mul_nonneg hTb.1 (by omega)
            have hx1' : T * B ≤ 25000 := by
              have h1 := Int.mul_le_mul (show T ≤ 500 by omega) hB1 (by omega) (by omega)
              omega
            have hy : (T - 1) * B = T * B - B := by rw [Int.sub_mul, Int.one_mul]
            have hy0 : -50 ≤ (T - 1) * B := by omega
            have hy1 : (T - 1) * B ≤ 25000 := by omega
            obtain ⟨hTb0, hTb1⟩ := hTb
            clear hy hf hmem hU hT hS hM hn8'
            by_cases hM0 : 0 < M
            · have hl := hlea hM0
              have hT0 : ¬ T = 0 := by have := hze.1; omega
              have hT0' : (T == 0) = false := by simpa using hT0
              clear hlea hze hT0
              go_wp2_with fail
              refine (runs_any _).mono ?_
              rintro e w5 ⟨rfl, b5⟩
              go_wp2_with fail
              go_ret
              exact ⟨rfl, keep_call hb4.out b5 hb4.out.size⟩
            · obtain rfl : T = 0 := hze.2 (by omega)
              clear hlea hze
              go_wp2_with fail
              refine (runs_any _).mono ?_
              rintro e w5 ⟨rfl, b5⟩
              go_wp2_with fail
              go_ret
              exact ⟨rfl, keep_call hb4.out b5 hb4.out.size⟩
theorem slotSums_walk (t : Int) (a1 : Option Addr) (len1 cap1 : Nat) (z1 : List Int) (b c : Int) (w : World) (_ : (Lit.int .i64 t).wf = true) (row1 : IsInts w a1 len1 cap1 z1) (_ : (Lit.int .i64 b).wf = true) (_ : (Lit.int .i64 c).wf = true) :
    Calls Try.prog 7 #[.int .i64 t, .slice a1 len1 cap1, .int .i64 b, .int .i64 c] w fun e w' => e = .returned (.bool true) ∧ Below w.heap.size w w' := sums_core t a1 len1 cap1 z1 b c w row1
end Go.Proofs.Ytokcanmhhabecaa
