/- SlotTicks, walked: of any numbers it returns true, and nothing that was there is written. -/
import Derived.Test.YtokcanmhhabecaaSums
import Derived.Test.YtokcanmhhabecaaMathT
namespace Go.Proofs.Ytokcanmhhabecaa
open Go.RowKit M
set_option linter.unusedVariables false

theorem M.sumT_bd {g h : Nat → Int} {t B : Int} (hB : ∀ i, 0 ≤ h i ∧ h i ≤ B) (k : Nat) : 0 ≤ sumT g h t k ∧ sumT g h t k ≤ k * B := by
  induction k with
  | zero => simp [sumT]
  | succ k ih =>
    have := hB k
    rw [sumT]
    have e : ((k + 1 : Nat) : Int) * B = k * B + B := by rw [Int.natCast_succ, Int.add_mul, Int.one_mul]
    split <;> omega
set_option maxHeartbeats 2000000 in
set_option maxRecDepth 100000 in
theorem ticks_core (a b c d : Int) (a1 : Option Addr) (len1 cap1 : Nat) (z1 : List Int) (w : World) (row1 : IsInts w a1 len1 cap1 z1) :
    Calls Try.prog 5 #[.int .i64 a, .int .i64 b, .int .i64 c, .int .i64 d, .slice a1 len1 cap1] w fun e w' => e = .returned (.bool true) ∧ Below w.heap.size w w' := by
  obtain ⟨i0, hi, hz0, hz1, hz2⟩ := info_parts Try.info3
  obtain ⟨hlm, hcm, hlc, hat⟩ := ints_at row1
  have hat' : Hid (∀ k, k < len1 → ∃ b off n, a1 = some ⟨b, off, none⟩ ∧ b < w.heap.size ∧ w.cell? ⟨b, off + k, none⟩ = some (.int .i64 n) ∧ (Lit.int .i64 n).wf = true) := hat
  clear hat row1
  go_enter Try.func5, Try.ntmps5
  go_wp2_with fail
  refine (within_any a 0 60 _ (by decide) (by decide) (by decide)).mono ?_
  rintro e w' ⟨⟨n, hn0, hn1, rfl⟩, he⟩; obtain rfl := he.symm; clear he
  go_wp2_with fail
  refine (within_any b 1 8 _ (by decide) (by decide) (by decide)).mono ?_
  rintro e w' ⟨⟨B, hB0, hB1, rfl⟩, he⟩; obtain rfl := he.symm; clear he
  go_wp2_with fail
  refine (within_any c 0 7 _ (by decide) (by decide) (by decide)).mono ?_
  rintro e w' ⟨⟨t0, ht0, ht1, rfl⟩, he⟩; obtain rfl := he.symm; clear he
  go_wp2_with fail
  refine (within_any d 0 1099511627776 _ (by decide) (by decide) (by decide)).mono ?_
  rintro e w' ⟨⟨x, hx0, hx1, rfl⟩, he⟩; obtain rfl := he.symm; clear he
  obtain ⟨t, ht⟩ : ∃ t : Nat, t0 = t := ⟨t0.toNat, by omega⟩
  subst ht
  go_wp2_with fail
  go_loopw [15, 31] (fun v i wr => ∃ ns : List Int, ns.length ≤ 8 ∧ i = .int .i64 (ns.length : Int) ∧ Hid (Row wr w.heap.size v ns) ∧ Hid (Below w.heap.size w wr)) (fun _ i _ => 8 - (intOf i).toNat)
  case atStart => exact ⟨[], by simp, rfl, row_nil _ _, Below.refl _ _⟩
  case round =>
    obtain ⟨ns, hn8, rfl, hrow, hbw⟩ := hrel
    obtain ⟨K, hK⟩ : ∃ K, Hid (ns.length = K) := ⟨_, rfl⟩
    rw [hK.out] at hn8 ⊢
    by_cases hlt8 : K < 8
    · have hrow' : Hid (wr.ownsRow w.heap.size 3 1 u15 K (iv ns)) := by
        have h : wr.ownsRow w.heap.size 3 1 u15 K (iv ns) := by rw [← hK.out]; exact hrow.out
        exact h
      have hsz := hbw.out.size
      clear hrow
      by_cases hlt : K < len1
      · obtain ⟨bb, off, y0, rfl, hbb, hcell, _⟩ := hat'.out K hlt
        have g := (hbw.out.cell (p := ⟨bb, off + K, none⟩) hbb).trans hcell
        clear hcell
        go_wp2_with fail
        refine (within_any y0 0 99 _ (by decide) (by decide) (by decide)).mono ?_
        rintro e w' ⟨⟨y, hy0, hy1, rfl⟩, he⟩; obtain rfl := he.symm; clear he
        clear g
        go_wp2_with (at_builtin; refine wpList_append_src _ (by rfl) _ _ 29 rfl w.heap.size 3 i0 (.int .i64 0) 8 Try.underlying29 hi hz0 hz1 hz2 rfl _ K (iv ns) rfl (own_below hrow'.out (below_alloc _ _)) _ 1 [.int .i64 y] rfl (src_lit1 _ _) (one_int y) (by unfold maxLen; omega) (by omega) (by simp; omega) ?_; intro v1 w1 hown1 hb1)
        have hrow1 : Hid (Row w1 w.heap.size v1 (ns ++ [y])) := Row.snoc (by rw [hK.out]; exact hown1)
        have hb2 : Hid (Below w.heap.size w w1) := (hbw.out.alloc hsz _).trans hb1
        have hl1 : Hid ((ns ++ [y]).length = K + 1) := by
          have h : (ns ++ [y]).length = K + 1 := by rw [List.length_append, hK.out]; rfl
          exact h
        clear hown1 hb1 hrow' hbw hsz
        go_wp2_with fail
        go_roundw
        case rel => exact ⟨ns ++ [y], by rw [hl1.out]; omega, by rw [hl1.out]; go_num, hrow1, hb2⟩
        case measure => simp [intOf]; omega
      · go_wp2_with (at_builtin; refine wpList_append_src _ (by rfl) _ _ 29 rfl w.heap.size 3 i0 (.int .i64 0) 8 Try.underlying29 hi hz0 hz1 hz2 rfl _ K (iv ns) rfl (own_below hrow'.out (below_alloc _ _)) _ 1 [.int .i64 0] rfl (src_lit1 _ _) (one_int 0) (by unfold maxLen; omega) (by omega) (by simp; omega) ?_; intro v1 w1 hown1 hb1)
        have hrow1 : Hid (Row w1 w.heap.size v1 (ns ++ [0])) := Row.snoc (by rw [hK.out]; exact hown1)
        have hb2 : Hid (Below w.heap.size w w1) := (hbw.out.alloc hsz _).trans hb1
        have hl1 : Hid ((ns ++ [(0 : Int)]).length = K + 1) := by
          have h : (ns ++ [(0 : Int)]).length = K + 1 := by rw [List.length_append, hK.out]; rfl
          exact h
        clear hown1 hb1 hrow' hbw hsz
        go_wp2_with fail
        go_roundw
        case rel => exact ⟨ns ++ [0], by rw [hl1.out]; omega, by rw [hl1.out]; go_num, hrow1, hb2⟩
        case measure => simp [intOf]; omega
    · have hK8 : K = 8 := by omega
      subst hK8
      have hrow' : wr.ownsRow w.heap.size 3 1 u15 8 (iv ns) := by rw [← hK.out]; exact hrow.out
      obtain ⟨g, cp, rfl, hcp, hcm2, hg0, hg1⟩ := own_some hrow' (by decide)
      unfold maxLen at hcm2
      have hrow2 : Hid (wr.ownsRow w.heap.size 3 1 (.slice (some ⟨g, 0, none⟩) 8 cp) 8 (iv ns)) := hrow'
      clear hrow hrow' hat' hlm hcm hlc hi hz0 hz1 hz2 hn8 hlt8
      rw [show ((8 : Nat) : Int) = 8 from rfl]
      go_wp2_with fail
      go_loopw [18, 19] (fun l k wr => ∃ (j : Nat) (ms : List Int), l = .int .i64 (lf n B j) ∧ k = .int .i64 (j : Int) ∧ j ≤ 60 ∧ Hid (j = 0 ∨ 0 < lf n B (j - 1)) ∧ ms.length = 8 ∧ Hid (wr.ownsRow w.heap.size 3 1 (.slice (some ⟨g, 0, none⟩) 8 cp) 8 (iv ms)) ∧ Hid (Below w.heap.size w wr)) (fun l _ _ => (intOf l).toNat)
      case atStart => exact ⟨0, ns, by rw [lf_zero B hn0], rfl, by omega, Or.inl rfl, hK.out, hrow2, hbw⟩
      case round =>
        obtain ⟨j, ms, rfl, rfl, hj, hprev, hms, hrow3, hbx⟩ := hrel
        clear hrow2 hbw
        have hL := lf_bd (n := n) (b := B) j (by omega) hn0
        by_cases hpos : 0 < lf n B j
        · have hnext : Hid (lf n B (j + 1) = lf n B j - min B (lf n B j)) := lf_next j (by omega) hpos
          have hprev2 : Hid (j + 1 = 0 ∨ 0 < lf n B (j + 1 - 1)) := Or.inr (by rw [Nat.add_sub_cancel]; exact hpos)
          obtain ⟨L, hLL⟩ : ∃ L, Hid (lf n B j = L) := ⟨_, rfl⟩
          rw [hLL.out] at hnext hpos hL ⊢
          have hms' : Hid (ms.length = 8) := hms
          have hiv : Hid ((iv ms).length = 8) := by
            have h : (iv ms).length = 8 := by rw [iv_len]; exact hms
            exact h
          clear hms hprev
          obtain ⟨hL0, hL1, hL2⟩ := hL
          have hjn := hL2 hpos
          clear hL2
          obtain ⟨cx, hcx⟩ : ∃ cx, wr.cell? ⟨g, t, none⟩ = some cx := by
            have := hrow3.out.cellAt t (by omega)
            rw [this]
            exact ⟨_, List.getElem?_eq_getElem (by have := hiv.out; omega)⟩
          have hfr := hrow3.out.frozenAt t
          have hrow4 : Hid ((wr.setCell ⟨g, t, none⟩ (.int .i64 L)).ownsRow w.heap.size 3 1 (.slice (some ⟨g, 0, none⟩) 8 cp) 8 (iv (ms.set t L))) := by
            have h := (hrow3.out.stored t (.int .i64 L)).1
            have e : (iv ms).set t (.int .i64 L) = iv (ms.set t L) := by simp [iv, List.map_set]
            rw [e] at h; exact h
          have hb4 : Hid (Below w.heap.size w (wr.setCell ⟨g, t, none⟩ (.int .i64 L))) := hbx.out.setCell hg0 _
          have hsv : Hid (sv B (t : Int) (ms.set t L) = min B L) := by
            have h : sv B (t : Int) (ms.set t L) = min B L := by rw [sv_set (by have := hms'.out; omega)]; omega
            exact h
          have hlen4 : Hid ((ms.set t L).length = 8) := by
            have h : (ms.set t L).length = 8 := by rw [List.length_set]; exact hms'.out
            exact h
          clear hrow3 hbx hiv hms'
          go_upto_region 16 with fail
          refine world_gen (fun W => Hid (W.ownsRow w.heap.size 3 1 (.slice (some ⟨g, 0, none⟩) 8 cp) 8 (iv (ms.set t L))) ∧ Hid (Below w.heap.size w W)) ⟨hrow4, hb4⟩ ?_
          clear hrow4 hb4 hcx hfr
          rintro W ⟨hrow4, hb4⟩
          obtain ⟨qs, hqs⟩ : ∃ qs, Hid (ms.set t L = qs) := ⟨_, rfl⟩
          rw [hqs.out] at hrow4 hsv hlen4
          have hrd : Hid (Rd .i64 W (.slice (some ⟨g, 0, none⟩) 8 cp) qs) := by
            have h : W.ownsRow w.heap.size 3 1 (.slice (some ⟨g, 0, none⟩) 8 cp) qs.length (iv qs) := by rw [hlen4.out]; exact hrow4.out
            exact rd_iv h
          obtain ⟨f, hf⟩ : ∃ f, Hid ((x + (j : Int)) % 8 = f) := ⟨_, rfl⟩
          have hsum : Hid (sumT (tn f) (fun i => sv B (tn f i) qs) t 8 = min B L) := by
            have h : sumT (tn f) (fun i => sv B (tn f i) qs) t 8 = min B L := by
              rw [sumT_all f t (fun u => sv B u qs) (by have := hf.out; omega) (by omega)]; exact hsv.out
            exact h
          go_wp2_with fail
          refine (plan_is B (x + (j : Int)) _ qs _ hrd.out (by omega) (by omega)).mono ?_
          rintro e w1 ⟨bb, rfl, hb, t1, b1⟩
          rw [hf.out] at t1
          have t1' : Hid (Tb w1 bb (tn f) (fun i => sv B (tn f i) qs)) := t1
          have hrow5 : Hid (w1.ownsRow w.heap.size 3 1 (.slice (some ⟨g, 0, none⟩) 8 cp) 8 (iv qs)) := own_below hrow4.out b1
          have hb5 : Hid (Below w.heap.size w w1) := keep_call hb4.out b1 hb4.out.size
          clear t1 b1 hb hrow4 hb4 hrd hsv
          have hbd : Hid (∀ k, 0 ≤ sumT (tn f) (fun i => sv B (tn f i) qs) t k ∧ sumT (tn f) (fun i => sv B (tn f i) qs) t k ≤ k * 8) := sumT_bd (fun i => by have := sv_bd (b := B) (t := tn f i) (zs := qs); omega)
          go_wp2_with fail
          go_loopw [20, 66] (fun s i wr => ∃ k : Nat, k ≤ 8 ∧ i = .int .i64 (k : Int) ∧ s = .int .i64 (sumT (tn f) (fun i => sv B (tn f i) qs) t k) ∧ Hid (Below w1.heap.size w1 wr)) (fun _ i _ => 8 - (intOf i).toNat)
          case atStart => exact ⟨0, by omega, rfl, rfl, Below.refl _ _⟩
          case round =>
            obtain ⟨k, hk, rfl, rfl, hbw⟩ := hrel
            have hbk := hbd.out k
            by_cases hlt : k < 8
            · have tt := t1'.out.call hbw.out
              have c0 := tt.at0 k hlt
              have c1 := tt.at1 k hlt
              have hpb : 0 ≤ sv B (tn f k) qs ∧ sv B (tn f k) qs ≤ 8 := by have := sv_bd (b := B) (t := tn f k) (zs := qs); omega
              have hnx : Hid (sumT (tn f) (fun i => sv B (tn f i) qs) t (k + 1) = sumT (tn f) (fun i => sv B (tn f i) qs) t k + if tn f k = t then sv B (tn f k) qs else 0) := rfl
              obtain ⟨Q, hQ⟩ : ∃ Q, Hid (sumT (tn f) (fun i => sv B (tn f i) qs) t k = Q) := ⟨_, rfl⟩
              obtain ⟨P, hP⟩ : ∃ P, Hid (sv B (tn f k) qs = P) := ⟨_, rfl⟩
              obtain ⟨G, hG⟩ : ∃ G, Hid (tn f k = G) := ⟨_, rfl⟩
              rw [hQ.out, hP.out, hG.out] at hnx
              rw [hP.out] at hpb c1
              rw [hQ.out] at hbk ⊢
              rw [hG.out] at c0
              have hsz := hbw.out.size
              have hb2 : Hid (∀ o, Below w1.heap.size w1 (wr.alloc o)) := fun o => hbw.out.alloc hsz o
              clear hQ hP hG tt
              by_cases hGt : G = (t : Int)
              · have hGt' : (G == (t : Int)) = true := by simpa using hGt
                have hnx2 : Hid (sumT (tn f) (fun i => sv B (tn f i) qs) t (k + 1) = Q + P) := by
                  have h := hnx.out; rw [if_pos hGt] at h; exact h
                clear hGt hnx
                go_wp2_with fail
                go_roundw
                case rel => exact ⟨k + 1, by omega, by go_num, val_int hnx2.out.symm, hb2.out _⟩
                case measure => simp [intOf]; omega
              · have hGt' : (G == (t : Int)) = false := by simpa using hGt
                have hnx2 : Hid (sumT (tn f) (fun i => sv B (tn f i) qs) t (k + 1) = Q) := by
                  have h := hnx.out; rw [if_neg hGt, Int.add_zero] at h; exact h
                clear hGt hnx
                go_wp2_with fail
                go_roundw
                case rel => exact ⟨k + 1, by omega, by go_num, val_int hnx2.out.symm, hb2.out _⟩
                case measure => simp [intOf]; omega
            · have : k = 8 := by omega
              subst this
              rw [hsum.out]
              have hrow6 : Hid (wr.ownsRow w.heap.size 3 1 (.slice (some ⟨g, 0, none⟩) 8 cp) 8 (iv qs)) := own_below hrow5.out hbw.out
              have hb6 : Hid (Below w.heap.size w wr) := keep_call hb5.out hbw.out hb5.out.size
              clear hrow5 hb5 hbw t1' hbk hsum hbd hlt hk
              obtain ⟨V, hV⟩ : ∃ V, Hid (min B L = V) := ⟨_, rfl⟩
              rw [hV.out] at hnext ⊢
              have hV1 : 0 ≤ V := by have := hV.out; omega
              have hV2 : V ≤ 8 := by have := hV.out; omega
              have hV3 : V ≤ L := by have := hV.out; omega
              have hV4 : 0 < V := by have := hV.out; omega
              have hway : (V = B ∧ B ≤ L) ∨ (V = L ∧ L < B) := by have := hV.out; omega
              rcases hway with ⟨h1, h2⟩ | ⟨h1, h2⟩
              all_goals
                subst h1
                go_wp2_with fail
                go_roundw
                case rel => exact ⟨j + 1, qs, val_int (by have := hnext.out; omega), by go_num, by omega, hprev2, hlen4.out, hrow6, hb6⟩
                case measure => simp [intOf]; omega
        · have hz : lf n B j = 0 := by omega
          have htk : Hid (tk n B = (j : Int)) := tk_of j (by omega) hn0 hz hprev.out
          rw [hz]
          clear hz hL hpos hrow3
          go_wp2_with fail
          refine (ticks_is n B j _ (by omega) (by omega) (by omega) (by omega) htk.out).mono ?_
          rintro e w' ⟨rfl, he⟩; obtain rfl := he.symm; clear he
          go_wp2_with fail
          refine (ticks_is (n + 1) 0 (-1) _ (by omega) (by omega) (by omega) (by omega) (tk_never (by omega) (by omega))).mono ?_
          rintro e w' ⟨rfl, he⟩; obtain rfl := he.symm; clear he
          go_wp2_with fail
          refine (ticks_is 0 0 0 _ (by omega) (by omega) (by omega) (by omega) (tk_none (by omega))).mono ?_
          rintro e w' ⟨rfl, he⟩; obtain rfl := he.symm; clear he
          go_wp2_with fail
          refine (ticks_is (-n) B 0 _ (by omega) (by omega) (by omega) (by omega) (tk_none (by omega))).mono ?_
          rintro e w' ⟨rfl, he⟩; obtain rfl := he.symm; clear he
          go_wp2_with fail
          refine (runs_any _).mono ?_
          rintro e w5 ⟨rfl, b5⟩
          go_wp2_with fail
          go_ret
          exact ⟨rfl, keep_call hbx.out b5 hbx.out.size⟩
theorem slotTicks_walk (a b c d : Int) (a1 : Option Addr) (len1 cap1 : Nat) (z1 : List Int) (w : World) (_ : (Lit.int .i64 a).wf = true) (_ : (Lit.int .i64 b).wf = true) (_ : (Lit.int .i64 c).wf = true) (_ : (Lit.int .i64 d).wf = true) (row1 : IsInts w a1 len1 cap1 z1) :
    Calls Try.prog 5 #[.int .i64 a, .int .i64 b, .int .i64 c, .int .i64 d, .slice a1 len1 cap1] w fun e w' => e = .returned (.bool true) ∧ Below w.heap.size w w' := ticks_core a b c d a1 len1 cap1 z1 w row1
end Go.Proofs.Ytokcanmhhabecaa
