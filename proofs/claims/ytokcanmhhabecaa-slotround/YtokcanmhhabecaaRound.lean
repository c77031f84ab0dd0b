/- SlotRound, walked: of any numbers it returns true, and nothing that was there is written. -/
import Derived.Test.YtokcanmhhabecaaSet
namespace Go.Proofs.Ytokcanmhhabecaa
open Go.RowKit M
open Go.Maps (Keyed)
open Go.Maps (keyOf_int_mk)
set_option linter.unusedVariables false

theorem wf_small {a : Int} (h0 : 0 ≤ a) (h1 : a ≤ 9223372036854775807) : (Lit.int .i64 a).wf = true := WalkArith.wf_i64 (by omega)
theorem and_three (d : Int) : 0 ≤ bits BinOp.and IntKind.i64 d 3 ∧ bits BinOp.and IntKind.i64 d 3 ≤ 3 := by
  have h : (BitVec.ofInt 64 d &&& BitVec.ofInt 64 3).toNat ≤ 3 := by
    rw [BitVec.toNat_and]
    exact Nat.le_trans Nat.and_le_right (by decide)
  obtain ⟨n, hn⟩ : ∃ n, (BitVec.ofInt 64 d &&& BitVec.ofInt 64 3).toNat = n := ⟨_, rfl⟩
  have e : bits BinOp.and IntKind.i64 d 3 = IntKind.i64.wrap (((BitVec.ofInt 64 d &&& BitVec.ofInt 64 3).toNat : Nat) : Int) := rfl
  rw [e, hn]
  rw [hn] at h
  have : n = 0 ∨ n = 1 ∨ n = 2 ∨ n = 3 := by omega
  rcases this with rfl | rfl | rfl | rfl <;> decide
theorem own_under {w w' : World} {base B : Nat} {e : TypeId} {size g cap : Nat} {n : Nat} {xs : List Value} (h : w.ownsRow base e size (.slice (some ⟨g, 0, none⟩) n cap) n xs) (hb : Below B w w') (hg : g < B) : w'.ownsRow base e size (.slice (some ⟨g, 0, none⟩) n cap) n xs := by
  obtain ⟨h1, h | ⟨g', cap', cur, he, h2, hh, r⟩⟩ := h
  · exact ⟨h1, .inl h⟩
  · injection he with e1 e2 e3
    injection e1 with e1
    injection e1 with e1
    subst e1
    exact ⟨h1, .inr ⟨g, cap', cur, by rw [e3], h2, (hb.block g hg).trans hh, r⟩⟩
theorem row8_rd {w : World} {base : Nat} {v : Value} {ns : List Int} (h : w.ownsRow base 3 1 v 8 (iv ns)) (hl : ns.length = 8) : Rd .i64 w v ns := by
  have h2 : w.ownsRow base 3 1 v ns.length (iv ns) := by rw [hl]; exact h
  exact rd_iv h2
set_option maxHeartbeats 4000000 in
set_option maxRecDepth 100000 in
theorem round_core (a b : Int) (a1 : Option Addr) (len1 cap1 : Nat) (z1 : List Int) (c d : Int) (w : World) (row1 : IsInts w a1 len1 cap1 z1) :
    Calls Try.prog 6 #[.int .i64 a, .int .i64 b, .slice a1 len1 cap1, .int .i64 c, .int .i64 d] w fun e w' => e = .returned (.bool true) ∧ Below w.heap.size w w' := by
  obtain ⟨i0, hi, hz0, hz1, hz2⟩ := info_parts Try.info3
  obtain ⟨hlm, hcm, hlc, hat⟩ := ints_at row1
  obtain ⟨ha0, ha1⟩ := and_three d
  have hat' : Hid (∀ k, k < len1 → ∃ b off n, a1 = some ⟨b, off, none⟩ ∧ b < w.heap.size ∧ w.cell? ⟨b, off + k, none⟩ = some (.int .i64 n) ∧ (Lit.int .i64 n).wf = true) := hat
  clear hat row1
  have hmm := @run_makeMap Try.prog
  go_enter Try.func6, Try.ntmps6
  go_wp2_with fail
  refine (within_any a 0 1099511627776 _ (by decide) (by decide) (by decide)).mono ?_
  rintro e w' ⟨⟨x, hx0, hx1, rfl⟩, he⟩; obtain rfl := he.symm; clear he
  go_wp2_with fail
  obtain ⟨B, hB⟩ : ∃ B, Hid (w.heap.size = B) := ⟨_, rfl⟩
  have hmk := World.ownsMap_made w Try.prog 3 (plainElem (H := Unit) Try.prog 4)
  have hbm := below_alloc w (.map #[] 0)
  rw [hB.out] at hmk hbm ⊢
  go_loopw [27] (fun i wr => ∃ j : Nat, j ≤ 8 ∧ i = .int .i64 j ∧ Hid (wr.ownsMap Try.prog 3 (plainElem (H := Unit) Try.prog 4) B j (setB (firsts x j))) ∧ Hid (Below B w wr)) (fun i _ => 8 - (intOf i).toNat)
  case atStart => exact ⟨0, by omega, rfl, hmk, hbm⟩
  case round =>
    obtain ⟨j, hj, rfl, hown, hbw⟩ := hrel
    clear hmk hbm hmm
    by_cases hlt : j < 8
    · go_wp2_with fail
      refine (order_is (x + (j : Int)) _ (by omega) (by omega)).mono ?_
      rintro e w1 ⟨bl, rfl, hbl, t1, b1⟩
      have c0 := t1.at0 0 (by omega)
      have hy : tn ((x + (j : Int)) % 8) 0 = (x + (j : Int)) % 8 := by unfold tn; omega
      rw [hy, Nat.zero_mul] at c0
      have hown1 : w1.ownsMap Try.prog 3 (plainElem (H := Unit) Try.prog 4) B j (setB (firsts x j)) := ownsMap_below hown.out b1 hown.out.lt
      have hb1 : Hid (Below B w w1) := hbw.out.trans (b1.mono (Nat.le_of_lt hown.out.lt))
      have hsn : Hid (setB (firsts x (j + 1)) = (setB (firsts x j)).put (.int .i64 ((x + (j : Int)) % 8)) (.lit (.bool true))) := by
        have h : setB (firsts x (j + 1)) = (setB (firsts x j)).put (.int .i64 ((x + (j : Int)) % 8)) (.lit (.bool true)) := by rw [firsts_next, setB_snoc]
        exact h
      obtain ⟨y, hyy⟩ : ∃ y, Hid ((x + (j : Int)) % 8 = y) := ⟨_, rfl⟩
      rw [hyy.out] at c0 hsn
      have hy0 : 0 ≤ y := by have := hyy.out; omega
      have hy1 : y < 8 := by have := hyy.out; omega
      clear hown hbw b1 t1 hbl hy hyy
      go_wp2_with (at_mapUpdate; refine wpList_mapUpdate_own _ rfl _ _ _ 35 rfl 3 4 keyLaw Try.underlying35 _ B j _ rfl hown1 (by unfold maxLen; omega) _ _ _ rfl rfl (keyOf_int_mk Try.underlying3 (wf_small hy0 (by omega))) _ [] (plainElem_bool Try.underlying4 true) ?_)
      intro wr1 hown2 hgrow2
      have hown3 : Hid (wr1.ownsMap Try.prog 3 (plainElem (H := Unit) Try.prog 4) B (j + 1) (setB (firsts x (j + 1)))) := by
        have h : wr1.ownsMap Try.prog 3 (plainElem (H := Unit) Try.prog 4) B (j + 1) (setB (firsts x (j + 1))) := by rw [hsn.out]; exact hown2
        exact h
      have hb3 : Hid (Below B w wr1) := hb1.out.grown hgrow2 (Nat.le_of_lt hown1.lt) (fun j hj => by cases hj; exact Nat.le_refl _)
      clear hown2 hgrow2 hown1 hb1 hsn c0 hy0 hy1
      go_wp2_with fail
      go_roundw
      case rel => exact ⟨j + 1, by omega, by go_num, hown3, hb3⟩
      case measure => simp [intOf]; omega
    · obtain rfl : j = 8 := by omega
      clear hlt
      go_wp2_with fail
      refine (within_any c 0 7 _ (by decide) (by decide) (by decide)).mono ?_
      rintro e w' ⟨⟨t0, ht0, ht1, rfl⟩, he⟩; obtain rfl := he.symm; clear he
      obtain ⟨t, htt⟩ : ∃ t : Nat, t0 = t := ⟨t0.toNat, by omega⟩
      subst htt
      go_upto_region 12 with fail
      obtain ⟨g0, hg0⟩ : ∃ g0, Hid (wr.heap.size = g0) := ⟨_, rfl⟩
      have hoB := hown.out.lt
      have hbf : Hid (Below B w (wr.alloc (.cells #[.int .i64 t] 3))) := hbw.out.alloc (Nat.le_of_lt hoB) _
      refine world_gen (fun W => Hid (W.ownsMap Try.prog 3 (plainElem (H := Unit) Try.prog 4) B 8 (setB (firsts x 8))) ∧ Hid (Ob W wr.heap.size t) ∧ Hid (Below B w W)) ⟨hown.out.alloc _, ob_make wr t, hbf⟩ ?_
      rw [hg0.out]
      clear hown hbw hbf hoB hg0
      rintro W ⟨hown, hob, hbw0⟩
      obtain ⟨B1, hB1⟩ : ∃ B1, Hid (W.heap.size = B1) := ⟨_, rfl⟩
      have hB1m : B < B1 := by have := hown.out.lt; have := hB1.out; omega
      have hB1g : g0 < B1 := by have := hob.out.lt; have := hB1.out; omega
      go_wp2_with fail
      go_loopw [16, 45] (fun v i wr => ∃ ns : List Int, ns.length ≤ 8 ∧ i = .int .i64 (ns.length : Int) ∧ Hid (Row wr B1 v ns) ∧ Hid (∀ x ∈ ns, 0 ≤ x ∧ x ≤ 99) ∧ Hid (Below B1 W wr)) (fun _ i _ => 8 - (intOf i).toNat)
      case atStart => exact ⟨[], by simp, rfl, row_nil _ _, (show ∀ x ∈ ([] : List Int), 0 ≤ x ∧ x ≤ 99 by simp), Below.refl _ _⟩
      case round =>
        obtain ⟨ns, hn8, rfl, hrow, hmem, hbw⟩ := hrel
        obtain ⟨K, hK⟩ : ∃ K, Hid (ns.length = K) := ⟨_, rfl⟩
        rw [hK.out] at hn8 ⊢
        by_cases hlt8 : K < 8
        · have hrow' : Hid (wr.ownsRow B1 3 1 u16 K (iv ns)) := by
            have h : wr.ownsRow B1 3 1 u16 K (iv ns) := by rw [← hK.out]; exact hrow.out
            exact h
          have hsz : B1 ≤ wr.heap.size := by have h1 := hbw.out.size; have h2 := hB1.out; omega
          clear hrow
          by_cases hlt : K < len1
          · obtain ⟨bb, off, y0, rfl, hbb, hcell, _⟩ := hat'.out K hlt
            have hbB : bb < B := by have := hB.out; omega
            have g := (hbw.out.cell (p := ⟨bb, off + K, none⟩) (Nat.lt_trans hbB hB1m)).trans ((hbw0.out.cell (p := ⟨bb, off + K, none⟩) hbB).trans hcell)
            clear hcell hbb
            go_wp2_with fail
            refine (within_any y0 0 99 _ (by decide) (by decide) (by decide)).mono ?_
            rintro e w' ⟨⟨y, hy0, hy1, rfl⟩, he⟩; obtain rfl := he.symm; clear he
            clear g
            go_wp2_with (at_builtin; refine wpList_append_src _ (by rfl) _ _ 29 rfl B1 3 i0 (.int .i64 0) 8 Try.underlying29 hi hz0 hz1 hz2 rfl _ K (iv ns) rfl (own_below hrow'.out (below_alloc _ _)) _ 1 [.int .i64 y] rfl (src_lit1 _ _) (one_int y) (by unfold maxLen; omega) (by omega) (by simp; omega) ?_; intro v1 w1 hown1 hb1)
            have hrow1 : Hid (Row w1 B1 v1 (ns ++ [y])) := Row.snoc (by rw [hK.out]; exact hown1)
            have hb2 : Hid (Below B1 W w1) := (hbw.out.alloc hsz _).trans hb1
            have hl1 : Hid ((ns ++ [(y : Int)]).length = K + 1) := by
              have h : (ns ++ [(y : Int)]).length = K + 1 := by rw [List.length_append, hK.out]; rfl
              exact h
            have hmem1 : Hid (∀ x ∈ ns ++ [(y : Int)], 0 ≤ x ∧ x ≤ 99) := by
              have h : ∀ x ∈ ns ++ [(y : Int)], 0 ≤ x ∧ x ≤ 99 := fun x hx => by
                rcases List.mem_append.1 hx with h | h
                · exact hmem.out x h
                · rw [List.mem_singleton.1 h]; omega
              exact h
            clear hown1 hb1 hrow' hbw hsz hmem
            go_wp2_with fail
            go_roundw
            case rel => exact ⟨ns ++ [y], by rw [hl1.out]; omega, by rw [hl1.out]; go_num, hrow1, hmem1, hb2⟩
            case measure => simp [intOf]; omega
          · go_wp2_with (at_builtin; refine wpList_append_src _ (by rfl) _ _ 29 rfl B1 3 i0 (.int .i64 0) 8 Try.underlying29 hi hz0 hz1 hz2 rfl _ K (iv ns) rfl (own_below hrow'.out (below_alloc _ _)) _ 1 [.int .i64 0] rfl (src_lit1 _ _) (one_int 0) (by unfold maxLen; omega) (by omega) (by simp; omega) ?_; intro v1 w1 hown1 hb1)
            have hrow1 : Hid (Row w1 B1 v1 (ns ++ [0])) := Row.snoc (by rw [hK.out]; exact hown1)
            have hb2 : Hid (Below B1 W w1) := (hbw.out.alloc hsz _).trans hb1
            have hl1 : Hid ((ns ++ [(0 : Int)]).length = K + 1) := by
              have h : (ns ++ [(0 : Int)]).length = K + 1 := by rw [List.length_append, hK.out]; rfl
              exact h
            have hmem1 : Hid (∀ x ∈ ns ++ [(0 : Int)], 0 ≤ x ∧ x ≤ 99) := by
              have h : ∀ x ∈ ns ++ [(0 : Int)], 0 ≤ x ∧ x ≤ 99 := fun x hx => by
                rcases List.mem_append.1 hx with h | h
                · exact hmem.out x h
                · rw [List.mem_singleton.1 h]; omega
              exact h
            clear hown1 hb1 hrow' hbw hsz hmem
            go_wp2_with fail
            go_roundw
            case rel => exact ⟨ns ++ [0], by rw [hl1.out]; omega, by rw [hl1.out]; go_num, hrow1, hmem1, hb2⟩
            case measure => simp [intOf]; omega
        · have hK8 : K = 8 := by omega
          subst hK8
          rw [show ((8 : Nat) : Int) = 8 from rfl]
          have hrow' : wr.ownsRow B1 3 1 u16 8 (iv ns) := by rw [← hK.out]; exact hrow.out
          obtain ⟨g, cp, rfl, hcp, hcm2, hg1, hg2⟩ := own_some hrow' (by decide)
          unfold maxLen at hcm2
          clear hat' hlm hcm hlc hn8 hlt8 hrow
          have hown0 : (wr.alloc (.cells #[] 3)).ownsRow wr.heap.size 3 1 (.slice (some ⟨wr.heap.size, 0, none⟩) 0 0) 0 [] :=
            World.ownsRow_lit wr #[] 0 (Nat.le_refl _) (by unfold maxLen; omega) (by simp)
          have hsrc : Src (wr.alloc (.cells #[] 3)) (.slice (some ⟨g, 0, none⟩) 8 cp) 8 (iv ns) := (src_own hrow').below (below_alloc wr _) (Nat.le_refl _)
          have hgB2 : g < wr.heap.size := hg2
          have hrd8 : Hid (wr.ownsRow B1 3 1 (.slice (some ⟨g, 0, none⟩) 8 cp) 8 (iv ns)) := hrow'
          clear hrow' hg2
          go_upto_region 22 with (at_builtin; refine wpList_append_src _ (by rfl) _ _ 29 rfl wr.heap.size 3 i0 (.int .i64 0) 8 Try.underlying29 hi hz0 hz1 hz2 rfl _ 0 [] rfl hown0 _ 8 (iv ns) rfl hsrc (iv_one _) (by unfold maxLen; omega) (by omega) (by simp) ?_; intro v2 w2 hown2 hb2)
          have hb2' : Hid (Below wr.heap.size wr w2) := (below_alloc wr _).trans hb2
          have hown2' : w2.ownsRow wr.heap.size 3 1 v2 8 (iv ns) := by simpa using hown2
          clear hown0 hsrc hown2 hb2 hi hz0 hz1 hz2
          obtain ⟨g2, cp2, rfl, hcp2, hcm3, hg3, hg4⟩ := own_some hown2' (by decide)
          unfold maxLen at hcm3
          have hrow2 : Hid (w2.ownsRow B1 3 1 (.slice (some ⟨g, 0, none⟩) 8 cp) 8 (iv ns)) := own_below hrd8.out hb2'.out
          have hturn : Hid (w2.ownsRow wr.heap.size 3 1 (.slice (some ⟨g2, 0, none⟩) 8 cp2) 8 (iv ns)) := hown2'
          have hsz1 : B1 ≤ wr.heap.size := by have h1 := hbw.out.size; have h2 := hB1.out; omega
          have hob2 : Hid (Ob w2 g0 t) := (hob.out.below hbw.out hB1g).below hb2'.out (by omega)
          have hown3 : Hid (w2.ownsMap Try.prog 3 (plainElem (H := Unit) Try.prog 4) B 8 (setB (firsts x 8))) := ownsMap_below (ownsMap_below hown.out hbw.out hB1m) hb2'.out (by omega)
          have hbw2 : Hid (Below B w w2) := (hbw0.out.trans (hbw.out.mono (Nat.le_of_lt hB1m))).trans (hb2'.out.mono (by omega))
          have hlen : Hid (ns.length = 8) := hK
          have hsz2 := hb2'.out.size
          generalize wr.heap.size = B2 at *
          have hwB : Hid (w.heap.size = B) := hB
          clear hob hown hbw0 hbw hrd8 hown2' hb2' hK hg4 hB1 hB
          go_wp2_with fail
          go_loopw [67] (fun i wr => ∃ k : Nat, k ≤ 8 ∧ i = .int .i64 (k : Int) ∧ ∃ ms : List Int, Hid (ms.length = 8) ∧ Hid (ms.getD t 0 = ns.getD t 0) ∧ Hid (wr.ownsRow B2 3 1 (.slice (some ⟨g2, 0, none⟩) 8 cp2) 8 (iv ms)) ∧ Hid (Below B2 w2 wr)) (fun i _ => 8 - (intOf i).toNat)
          case atStart => exact ⟨0, by omega, rfl, ns, hlen, rfl, hturn, Below.refl _ _⟩
          case round =>
            obtain ⟨k, hk, rfl, ms, hml, hmt, hmo, hbw⟩ := hrel
            have ob := hob2.out.below hbw.out (show g0 < B2 by omega)
            have oc0 := ob.c0
            by_cases hlt : k < 8
            · by_cases hkt : k = t
              · have hkt' : ((k : Int) != (t : Int)) = false := by simp; omega
                clear hkt ob
                go_wp2_with fail
                go_roundw
                case rel => exact ⟨k + 1, by omega, by go_num, ms, hml, hmt, hmo, hbw⟩
                case measure => simp [intOf]; omega
              · have hkt' : ((k : Int) != (t : Int)) = true := by simp; omega
                have hiv : Hid ((iv ms).length = 8) := by
                  have h : (iv ms).length = 8 := by rw [iv_len]; exact hml.out
                  exact h
                obtain ⟨cx, hcx⟩ : ∃ cx, wr.cell? ⟨g2, k, none⟩ = some cx := by
                  have := hmo.out.cellAt k (by omega)
                  rw [this]
                  exact ⟨_, List.getElem?_eq_getElem (by have := hiv.out; omega)⟩
                have hfr := hmo.out.frozenAt k
                have hst : Hid (∀ y : Int, (wr.setCell ⟨g2, k, none⟩ (.int .i64 y)).ownsRow B2 3 1 (.slice (some ⟨g2, 0, none⟩) 8 cp2) 8 (iv (ms.set k y)) ∧ Below B2 w2 (wr.setCell ⟨g2, k, none⟩ (.int .i64 y)) ∧ (ms.set k y).length = 8 ∧ (ms.set k y).getD t 0 = ns.getD t 0) := fun y => by
                  have h := (hmo.out.stored k (.int .i64 y)).1
                  have e : (iv ms).set k (.int .i64 y) = iv (ms.set k y) := by simp [iv, List.map_set]
                  rw [e] at h
                  refine ⟨h, hbw.out.setCell hg3 _, by rw [List.length_set]; exact hml.out, ?_⟩
                  rw [← hmt.out]
                  simp [List.getD_eq_getElem?_getD, List.getElem?_set_ne hkt]
                clear hkt ob hiv hmo hbw hml hmt
                go_wp2_with fail
                refine (within_any d 0 99 _ (by decide) (by decide) (by decide)).mono ?_
                rintro e w' ⟨⟨y, hy0, hy1, rfl⟩, he⟩; obtain rfl := he.symm; clear he
                go_wp2_with fail
                go_roundw
                case rel => exact ⟨k + 1, by omega, by go_num, ms.set k y, (hst.out y).2.2.1, (hst.out y).2.2.2, (hst.out y).1, (hst.out y).2.1⟩
                case measure => simp [intOf]; omega
            · obtain rfl : k = 8 := by omega
              clear hlt hk oc0
              have hrow3 : Hid (Rd .i64 wr (.slice (some ⟨g, 0, none⟩) 8 cp) ns) := row8_rd (own_under hrow2.out hbw.out hgB2) hlen.out
              have hturn3 : Hid (Rd .i64 wr (.slice (some ⟨g2, 0, none⟩) 8 cp2) ms) := row8_rd hmo.out hml.out
              have hmap3 : Hid (wr.ownsMap Try.prog 3 (plainElem (H := Unit) Try.prog 4) B 8 (setB (firsts x 8))) := ownsMap_below hown3.out hbw.out (by omega)
              have hob3 : Hid (Ob wr g0 t) := ob
              have hbw3 : Hid (Below B w wr) := hbw2.out.trans (hbw.out.mono (by omega))
              have hsvt : Hid (∀ q : Int, 0 ≤ q → sv q t ms = sv q t ns ∧ sv q t ns = min q (ns.getD t 0)) := fun q hq => by
                have hl1 := hml.out
                have hl2 := hlen.out
                have hg := getD_bd hmem.out (by decide) (by decide) t
                unfold sv
                rw [Int.toNat_natCast, hl1, hl2, hmt.out, if_pos (by omega)]
                exact ⟨rfl, by omega⟩
              have hgt := getD_bd hmem.out (by decide) (by decide) t
              obtain ⟨R, hR⟩ : ∃ R, Hid (ns.getD t 0 = R) := ⟨_, rfl⟩
              rw [hR.out] at hsvt hgt
              obtain ⟨hgt0, hgt1⟩ := hgt
              obtain ⟨_, _, _, heq, _, _, hcc⟩ := hrow3.out
              injection heq with e1 e2 e3
              obtain ⟨bb9, off9, hbo, hcell9⟩ := hcc (by have := hlen.out; omega)
              rw [← e1] at hbo
              injection hbo with hbo
              injection hbo with f1 f2
              subst f1 f2
              have hct : Hid (wr.cell? ⟨g, t, none⟩ = some (.int .i64 R)) := by
                have h := hcell9 t (by have := hlen.out; omega)
                rw [hR.out, Nat.zero_add] at h
                exact h
              clear e1 e2 e3 hcc hcell9 ob hrow2 hturn hob2 hown3 hbw2 hmo hml hmt hmem hbw hR
              go_wp2_with fail
              refine (within_any b 0 9 _ (by decide) (by decide) (by decide)).mono ?_
              rintro e w' ⟨⟨q, hq0, hq1, rfl⟩, he⟩; obtain rfl := he.symm; clear he
              have hsq := hsvt.out q hq0
              obtain ⟨V, hV⟩ : ∃ V, Hid (sv q t ns = V) := ⟨_, rfl⟩
              rw [hV.out] at hsq
              have hsq1 : Hid (sv q t ms = V) := hsq.1
              have hsq2 : Hid (V = min q R) := hsq.2
              clear hsq hsvt
              obtain ⟨f, hf⟩ : ∃ f, Hid (x % 8 = f) := ⟨_, rfl⟩
              obtain ⟨j, hj, hj1, hj2⟩ := at_place f t (by have := hf.out; omega) (by omega)
              have hpj : Hid (j < 8 ∧ tn f j = t ∧ (∀ i : Nat, i < j → tn f i ≠ t) ∧ sv q (tn f j) ns = V) := ⟨hj, hj1, hj2, by rw [hj1]; exact hV.out⟩
              clear hj hj1 hj2
              go_wp2_with fail
              refine (plan_is q x _ ns _ hrow3.out hx0 (by omega)).mono ?_
              rintro e w4 ⟨bp, rfl, hbp, tp, lp⟩
              rw [hf.out] at tp
              have hob4 : Ob w4 g0 t := hob3.out.call lp
              go_wp2_with fail
              refine (pick_is bp g0 _ _ t V _ tp hob4 j hpj.out.1 hpj.out.2.1 hpj.out.2.2.1 hpj.out.2.2.2).mono ?_
              rintro e w5 ⟨rfl, l5⟩
              have l35 : Below wr.heap.size wr w5 := keep_call lp l5 lp.size
              have hob5 : Hid (Ob w5 g0 t) := hob3.out.call l35
              have hturn5 : Hid (Rd .i64 w5 (.slice (some ⟨g2, 0, none⟩) 8 cp2) ms) := hturn3.out.call l35
              have hmap5 : w5.ownsMap Try.prog 3 (plainElem (H := Unit) Try.prog 4) B 8 (setB (firsts x 8)) := ownsMap_below hmap3.out l35 hmap3.out.lt
              have hbw5 : Hid (Below B w w5) := hbw3.out.trans (l35.mono (Nat.le_of_lt hmap3.out.lt))
              have hct5 : Hid (w5.cell? ⟨g, t, none⟩ = some (.int .i64 R)) := (l35.cell (World.block_lt_of_cell? wr _ hct.out)).trans hct.out
              clear tp lp hbp hob4 l5 l35 hob3 hturn3 hmap3 hbw3 hct hpj hf hrow3
              go_wp2_with (at_len; refine wpList_len_own _ rfl _ 35 rfl 3 4 Try.underlying35 _ B 8 _ rfl hmap5 ?_; rw [firsts_all])
              obtain ⟨D, hD⟩ : ∃ D, Hid (bits BinOp.and IntKind.i64 d 3 = D) := ⟨_, rfl⟩
              rw [hD.out] at ha0 ha1
              rw [hD.out]
              clear hD
              obtain ⟨f2, hf2⟩ : ∃ f, Hid ((x + D) % 8 = f) := ⟨_, rfl⟩
              obtain ⟨j2, hj2, hj3, hj4⟩ := at_place f2 t (by have := hf2.out; omega) (by omega)
              have hpj2 : Hid (j2 < 8 ∧ tn f2 j2 = t ∧ (∀ i : Nat, i < j2 → tn f2 i ≠ t) ∧ sv q (tn f2 j2) ms = V) := ⟨hj2, hj3, hj4, by rw [hj3]; exact hsq1.out⟩
              clear hj2 hj3 hj4
              refine (plan_is q (x + D) _ ms _ hturn5.out (by omega) (by omega)).mono ?_
              rintro e w6 ⟨bp2, rfl, hbp2, tp2, lp2⟩
              rw [hf2.out] at tp2
              have hob6 : Ob w6 g0 t := hob5.out.call lp2
              go_wp2_with fail
              refine (pick_is bp2 g0 _ _ t V _ tp2 hob6 j2 hpj2.out.1 hpj2.out.2.1 hpj2.out.2.2.1 hpj2.out.2.2.2).mono ?_
              rintro e w7 ⟨rfl, l7⟩
              have l57 : Below w5.heap.size w5 w7 := keep_call lp2 l7 lp2.size
              have oc0 := (hob5.out.call l57).c0
              have hbw7 : Hid (Below B w w7) := hbw5.out.trans (l57.mono (Nat.le_of_lt hmap5.lt))
              have hct7 := (l57.cell (World.block_lt_of_cell? w5 _ hct5.out)).trans hct5.out
              have hVR : (V = q ∧ q ≤ R) ∨ (V = R ∧ R < q) := by have := hsq2.out; omega
              clear tp2 lp2 hbp2 hob6 l7 l57 hob5 hturn5 hmap5 hbw5 hct5 hpj2 hf2 hsq1 hsq2 hV
              have hfin : Hid (∀ W, Below w7.heap.size w7 W → Below w.heap.size w W) := fun W h => by
                rw [hwB.out]
                exact hbw7.out.trans (h.mono (by have h1 := hbw7.out.size; have h2 := hwB.out; omega))
              rcases hVR with ⟨rfl, h2⟩ | ⟨rfl, h2⟩
              all_goals
                go_wp2_with fail
                refine (runs_any _).mono ?_
                rintro e w8 ⟨rfl, b8⟩
                have hf8 : Hid (Below w.heap.size w w8) := hfin.out _ b8
                clear b8
                go_wp2_with fail
                go_ret
                exact ⟨rfl, hf8.out⟩
theorem slotRound_walk (a b : Int) (a1 : Option Addr) (len1 cap1 : Nat) (z1 : List Int) (c d : Int) (w : World) (_ : (Lit.int .i64 a).wf = true) (_ : (Lit.int .i64 b).wf = true) (row1 : IsInts w a1 len1 cap1 z1) (_ : (Lit.int .i64 c).wf = true) (_ : (Lit.int .i64 d).wf = true) :
    Calls Try.prog 6 #[.int .i64 a, .int .i64 b, .slice a1 len1 cap1, .int .i64 c, .int .i64 d] w fun e w' => e = .returned (.bool true) ∧ Below w.heap.size w w' := round_core a b a1 len1 cap1 z1 c d w row1
end Go.Proofs.Ytokcanmhhabecaa
