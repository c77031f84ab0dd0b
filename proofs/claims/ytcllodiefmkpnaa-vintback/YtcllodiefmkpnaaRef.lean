/- The document's own answer to P3.1: the bytes of one int, of several. -/
import Derived.Test.YtcllodiefmkpnaaPut
import Derived.Deep.DeepCutAuto
namespace Go.Proofs.Ytcllodiefmkpnaa
open Go.RowKit M

theorem u64_and127 (x : Nat) (h : x < 18446744073709551616) : bits BinOp.and IntKind.u64 (x : Int) 127 = ((x % 128 : Nat) : Int) := by
  have h1 := u64_and_nat x 127 h (by decide)
  rw [Nat.and_two_pow_sub_one_eq_mod x 7] at h1
  exact h1
theorem u8_or128' (d : Nat) (h : d < 128) : bits BinOp.or IntKind.u8 (d : Int) 128 = ((d + 128 : Nat) : Int) := by
  rw [Lib.u8_or128_any _ (by omega) (by omega)]
  omega
/-- The number that an int is put as, as the reference works it out. -/
theorem ref_pos (n : Int) (hn : Fits n) (h : 0 ≤ n) : IntKind.u64.wrap (IntKind.u64.wrap n * 2) = ((zz n : Nat) : Int) := by
  obtain ⟨h1, h2⟩ := hn
  unfold zz
  rw [if_pos h, IntKind.wrap_u64, IntKind.wrap_u64]; omega
theorem ref_neg (n : Int) (hn : Fits n) (h : n < 0) : bits BinOp.xor IntKind.u64 IntKind.u64.max (IntKind.u64.wrap (IntKind.u64.wrap n * 2)) = ((zz n : Nat) : Int) := by
  obtain ⟨h1, h2⟩ := hn
  have e1 : IntKind.u64.wrap (IntKind.u64.wrap n * 2) = (((2 * n + 18446744073709551616).toNat : Nat) : Int) := by
    rw [IntKind.wrap_u64, IntKind.wrap_u64]; omega
  have e2 : IntKind.u64.max = ((2 ^ 64 - 1 : Nat) : Int) := by decide
  rw [e1, e2, bits_xor_u64_nat _ _ (by decide) (by omega), Lib.xor_ones64 _ (by omega)]
  unfold zz
  rw [if_neg (by omega)]
  omega
set_option maxHeartbeats 1000000 in
set_option maxRecDepth 100000 in
theorem number_any (n : Int) (w : World) (hn : Fits n) :
    Calls Try.prog 21 #[.int .i64 n] w fun e w' => ∃ u, e = .returned u ∧ w'.ownsRow w.heap.size 5 1 u (leb (zz n)).length (bv (leb (zz n))) ∧ Below w.heap.size w w' := by
  obtain ⟨i0, hi, hz0, hz1, hz2⟩ := info_parts Try.info5
  have hzl := zz_lt n hn
  have htl := leb_ten (zz n) hzl
  go_enter Try.func21, Try.ntmps21
  go_upto_if 9 with fail
  go_cut [3] (fun t wx => t = .int .u64 (zz n : Nat) ∧ wx = w)
  case first =>
    by_cases h0 : n < 0
    · go_wp2_with fail
      go_meet
      exact ⟨val_int (ref_neg n hn h0), rfl⟩
    · have hp := ref_pos n hn (by omega)
      go_wp2_with fail
      go_meet
      exact ⟨rfl, rfl⟩
  case rest =>
    obtain ⟨rfl, hwc⟩ := hcut
    obtain rfl := hwc.symm
    go_wp2_with fail
    go_loopw [3, 4] (fun r v wi => ∃ (x : Nat) (dn : List Nat), x < 18446744073709551616 ∧ Hid (dn ++ leb x = [] ++ leb (zz n)) ∧ r = .int .u64 x ∧ wi.ownsRow w.heap.size 5 1 v dn.length (bv dn) ∧ Below w.heap.size w wi) (fun r _ _ => (intOf r).toNat)
    case atStart => exact ⟨zz n, [], hzl, rfl, rfl, World.ownsRow_nil _ _ _ _, Below.refl _ _⟩
    case round =>
      obtain ⟨x, dn, hxl, hdn, rfl, hown2, hbi⟩ := hrel
      have hdl : dn.length ≤ 10 := by
        have h1 := congrArg List.length hdn.out
        rw [List.length_append, List.length_append, List.length_nil] at h1
        omega
      by_cases h128 : 128 ≤ x
      · have hnx : Hid (dn ++ [x % 128 + 128] ++ leb (x / 128) = [] ++ leb (zz n)) := leb_step _ _ _ _ hdn.out h128
        have hand := u64_and127 x hxl
        have hd : x % 128 < 128 := by omega
        obtain ⟨d, hdd⟩ : ∃ d, Hid (x % 128 = d) := ⟨_, rfl⟩
        rw [hdd.out] at hand hd hnx
        have hor := u8_or128' d hd
        obtain ⟨y, hy⟩ : ∃ y, Hid (d + 128 = y) := ⟨_, rfl⟩
        rw [hy.out] at hor hnx
        clear hdn hy hdd
        go_wp2_with (at_builtin; refine wpList_append_own _ rfl _ _ 25 rfl w.heap.size 5 i0 (.int .u8 0) 1 1 Try.underlying25 hi hz0 hz1 hz2 rfl (by decide) _ _ _ rfl (hown2.alloc _) ⟨wr.heap.size, 0, none⟩ 1 1 [.int .u8 (y : Int)] rfl rfl ?c1 ?c2 ?c3 ?c4 ?c5 ?_)
        case c1 =>
          intro j u hj
          match j, hj with
          | 0, hj => simp at hj; subst hj; simp [Addr.add]
        case c2 => intro u hu; simp at hu; subst hu; rfl
        case c3 => unfold maxLen; omega
        case c4 => omega
        case c5 => have := hbi.size; simp; omega
        intro v' w1 hown' hgrow _
        have hb1 : Below w.heap.size w w1 := (hbi.alloc hbi.size _).grown hgrow (by have := hbi.size; simp; omega) (fun k hk => (hown2.lt k hk).1)
        have hown3 : w1.ownsRow w.heap.size 5 1 v' (dn ++ [y]).length (bv (dn ++ [y])) := by
          rw [bv_append, List.length_append]; exact hown'
        clear hown' hgrow hown2
        go_wp2_with fail
        go_roundw
        case rel => exact ⟨x / 128, dn ++ [y], by omega, hnx, by simp, hown3, hb1⟩
        case measure => simp [intOf]; omega
      · have hend : Hid (dn ++ [x] = leb (zz n)) := by
          have h := hdn.out
          rw [leb_small x (by omega)] at h
          exact h
        clear hdn
        go_wp2_with (at_builtin; refine wpList_append_own _ rfl _ _ 25 rfl w.heap.size 5 i0 (.int .u8 0) 1 1 Try.underlying25 hi hz0 hz1 hz2 rfl (by decide) _ _ _ rfl (hown2.alloc _) ⟨wr.heap.size, 0, none⟩ 1 1 [.int .u8 (x : Int)] rfl rfl ?c1 ?c2 ?c3 ?c4 ?c5 ?_)
        case c1 =>
          intro j u hj
          match j, hj with
          | 0, hj => simp at hj; subst hj; simp [Addr.add]
        case c2 => intro u hu; simp at hu; subst hu; rfl
        case c3 => unfold maxLen; omega
        case c4 => omega
        case c5 => have := hbi.size; simp; omega
        intro v' w1 hown' hgrow _
        have hb1 : Below w.heap.size w w1 := (hbi.alloc hbi.size _).grown hgrow (by have := hbi.size; simp; omega) (fun k hk => (hown2.lt k hk).1)
        have hown3 : w1.ownsRow w.heap.size 5 1 v' (leb (zz n)).length (bv (leb (zz n))) := by
          rw [← hend.out, bv_append, List.length_append]; exact hown'
        clear hown' hgrow hown2 hend
        go_wp2_with fail
        go_ret
        exact ⟨_, rfl, hown3, hb1⟩

theorem own_src {w : World} {base : Nat} {v : Value} {l : List Value} {e : TypeId} (h : w.ownsRow base e 1 v l.length l) : (v = .slice none 0 0 ∧ l = []) ∨ ∃ g cap, v = .slice (some ⟨g, 0, none⟩) l.length cap ∧ g < w.heap.size ∧ ∀ j u, l[j]? = some u → w.cell? ((⟨g, 0, none⟩ : Addr).add j) = some u := by
  obtain ⟨hl, h0 | ⟨g, cap, cur, rfl, hb, hh, hn, hm, hs, ht⟩⟩ := h
  · obtain ⟨rfl, h0⟩ := h0
    exact .inl ⟨rfl, List.eq_nil_of_length_eq_zero h0⟩
  · refine .inr ⟨g, cap, rfl, (Array.getElem?_eq_some_iff.1 hh).1, fun j u hj => ?_⟩
    have h2 : w.ownsRow base e 1 (.slice (some ⟨g, 0, none⟩) l.length cap) l.length l := ⟨hl, .inr ⟨g, cap, cur, rfl, hb, hh, hn, hm, hs, ht⟩⟩
    have hjl := (List.getElem?_eq_some_iff.1 hj).1
    have := h2.cellAt j (by omega)
    rw [Addr.add_lit, Nat.zero_add, this, hj]
set_option maxHeartbeats 1000000 in
set_option maxRecDepth 100000 in
theorem numbers_any (v : Value) (zs : List Int) (w : World) (hv : Rd .i64 w v zs) (hf : ∀ n ∈ zs, Fits n) (hl : zs.length ≤ 1000) :
    Calls Try.prog 13 #[v] w fun e w' => ∃ u, e = .returned u ∧ w'.ownsRow w.heap.size 5 1 u (put zs).length (bv (put zs)) ∧ Below w.heap.size w w' := by
  obtain ⟨i0, hi, hz0, hz1, hz2⟩ := info_parts Try.info5
  have hv' : Hid (Rd .i64 w v zs) := hv
  have hf' : Hid (∀ n ∈ zs, Fits n) := hf
  obtain ⟨_, ao, cap, rfl, _, _, _⟩ := hv
  clear hf
  go_enter Try.func13, Try.ntmps13
  go_wp2_with fail
  go_loopw [3, 8] (fun v i wr => ∃ k : Nat, k ≤ zs.length ∧ i = .int .i64 k ∧ wr.ownsRow w.heap.size 5 1 v (put (zs.take k)).length (bv (put (zs.take k))) ∧ Below w.heap.size w wr) (fun _ i _ => zs.length - (intOf i).toNat)
  case atStart => exact ⟨0, Nat.zero_le _, rfl, World.ownsRow_nil _ _ _ _, Below.refl _ _⟩
  case round =>
    obtain ⟨k, hk, rfl, hown, hbw⟩ := hrel
    by_cases hlt : k < zs.length
    · have hrd := hv'.out.below hbw (Nat.le_refl _)
      obtain ⟨_, ao2, cap2, he, _, _, hc0⟩ := hrd
      obtain ⟨b, off, rfl, hcell⟩ := hc0 (by omega)
      clear hc0
      injection he with he1 he2 he3
      subst he1 he3
      have hx := hcell k hlt
      clear hcell
      have hfk : Fits (zs.getD k 0) := fits_at hf'.out k hlt
      have hsn : Hid (put (zs.take (k + 1)) = put (zs.take k) ++ leb (zz (zs.getD k 0))) := by
        have h : put (zs.take (k + 1)) = put (zs.take k) ++ leb (zz (zs.getD k 0)) := by
          rw [take_snoc' zs 0 k hlt, put_append, put_one]
        exact h
      have hpl : (put (zs.take k)).length ≤ 10000 := by
        have h1 := put_len_le (zs.take k) (fits_take hf'.out k)
        have h2 : (zs.take k).length ≤ zs.length := by rw [List.length_take]; omega
        omega
      obtain ⟨n, hn⟩ : ∃ n, Hid (zs.getD k 0 = n) := ⟨_, rfl⟩
      rw [hn.out] at hx hfk hsn
      obtain ⟨pk, hpk⟩ : ∃ pk, Hid (put (zs.take k) = pk) := ⟨_, rfl⟩
      rw [hpk.out] at hown hsn hpl
      clear hn hpk
      have htl := leb_ten (zz n) (zz_lt n hfk)
      have hpos := leb_pos (zz n)
      obtain ⟨ln, hln⟩ : ∃ ln, Hid (leb (zz n) = ln) := ⟨_, rfl⟩
      go_wp2_with fail
      refine (number_any n _ hfk).mono ?_
      rintro e w2 ⟨u, rfl, hu, b2⟩
      rw [hln.out] at hu htl hpos hsn
      have hown2 := own_below hown b2
      have t2 : Below w.heap.size w w2 := hbw.trans (b2.mono hbw.size)
      clear hown hx
      obtain ⟨rfl, hnil⟩ | ⟨g, cap2, rfl, hg, hsrc⟩ := own_src (l := bv ln) (by rw [bv_len]; exact hu)
      · exfalso
        have := congrArg List.length hnil
        rw [bv_len] at this
        simp at this
        rw [this] at hpos
        simp at hpos
      · rw [bv_len]
        go_wp2_with (at_builtin; refine wpList_append_own _ rfl _ _ 25 rfl w.heap.size 5 i0 (.int .u8 0) 1 1 Try.underlying25 hi hz0 hz1 hz2 rfl (by decide) _ _ _ rfl hown2 ⟨g, 0, none⟩ ln.length cap2 (bv ln) rfl (by rw [bv_len]; omega) hsrc (bv_one _) ?c3 ?c4 ?c5 ?_)
        case c3 => unfold maxLen; omega
        case c4 => omega
        case c5 => exact t2.size
        intro v' w1 hown' hgrow _
        have hb1 : Below w.heap.size w w1 := t2.grown hgrow t2.size (fun k hk => (hown2.lt k hk).1)
        have hown3 : w1.ownsRow w.heap.size 5 1 v' (put (zs.take (k + 1))).length (bv (put (zs.take (k + 1)))) := by
          rw [hsn.out, bv_append, List.length_append]; exact hown'
        clear hown' hgrow hown2 hsn hsrc
        go_wp2_with fail
        go_roundw
        case rel => exact ⟨k + 1, by omega, by go_num, hown3, hb1⟩
        case measure => simp [intOf]; omega
    · have : k = zs.length := by omega
      subst this
      go_wp2_with fail
      go_ret
      exact ⟨_, rfl, by rw [List.take_length] at hown; exact hown, hbw⟩
end Go.Proofs.Ytcllodiefmkpnaa
