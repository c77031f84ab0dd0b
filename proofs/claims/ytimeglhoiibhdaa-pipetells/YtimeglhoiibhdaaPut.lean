/- What vint.Put answers: the bytes of all ints, one behind the other, in new memory. -/
import Derived.Test.YtimeglhoiibhdaaBase
namespace Go.Proofs.Ytimeglhoiibhdaa
open Go.RowKit M

theorem byte_more (x : Nat) : bits BinOp.or IntKind.u8 ((x : Int) % 256) 128 = ((x % 128 + 128 : Nat) : Int) := by
  rw [Lib.u8_or128_any _ (by omega) (by omega)]
  omega
theorem leb_step (dn pk : List Nat) (x u : Nat) (h : dn ++ leb x = pk ++ leb u) (hx : 128 ≤ x) : dn ++ [x % 128 + 128] ++ leb (x / 128) = pk ++ leb u := by
  rw [← h, leb_great x hx, List.append_assoc]; rfl

set_option maxHeartbeats 1000000 in
set_option maxRecDepth 100000 in
/-- vint.Put. -/
theorem put_any (v : Value) (zs : List Int) (w : World) (hv : Rd .i64 w v zs) (hf : ∀ n ∈ zs, Fits n) (hl : zs.length ≤ 1000) :
    Calls Try.prog 11 #[v] w fun e w' => ∃ u, e = .returned u ∧ w'.ownsRow w.heap.size 5 1 u (put zs).length (bv (put zs)) ∧ Below w.heap.size w w' := by
  obtain ⟨i0, hi, hz0, hz1, hz2⟩ := info_parts Try.info5
  have hv' : Hid (Rd .i64 w v zs) := hv
  have hf' : Hid (∀ n ∈ zs, Fits n) := hf
  obtain ⟨_, ao, cap, rfl, _, _, _⟩ := hv
  clear hf
  go_enter Try.func11, Try.ntmps11
  go_wp2
  go_loopw [3, 9] (fun v i wr => ∃ k : Nat, k ≤ zs.length ∧ i = .int .i64 k ∧ wr.ownsRow w.heap.size 5 1 v (put (zs.take k)).length (bv (put (zs.take k))) ∧ Below w.heap.size w wr) (fun _ i _ => zs.length - (intOf i).toNat)
  case atStart => exact ⟨0, Nat.zero_le _, rfl, World.ownsRow_nil _ _ _ _, Below.refl _ _⟩
  case round =>
    obtain ⟨k, hk, rfl, hown, hbw⟩ := hrel
    by_cases hlt : k < zs.length
    · have hrd := hv'.out.below hbw (Nat.le_refl _)
      obtain ⟨_, ao2, cap2, he, _, _, hc0⟩ := hrd
      obtain ⟨b, off, rfl, hcell⟩ := hc0 (by omega)
      clear hc0
      injection he with he1 he2 he3
      subst he1 he3
      have hx := hcell k hlt
      clear hcell
      have hfk : Fits (zs.getD k 0) := fits_at hf'.out k hlt
      have hsn : Hid (put (zs.take (k + 1)) = put (zs.take k) ++ leb (zz (zs.getD k 0))) := by
        have h : put (zs.take (k + 1)) = put (zs.take k) ++ leb (zz (zs.getD k 0)) := by
          rw [take_snoc' zs 0 k hlt, put_append, put_one]
        exact h
      have hpl : (put (zs.take k)).length ≤ 10000 := by
        have h1 := put_len_le (zs.take k) (fits_take hf'.out k)
        have h2 : (zs.take k).length ≤ zs.length := by rw [List.length_take]; omega
        omega
      obtain ⟨n, hn⟩ : ∃ n, Hid (zs.getD k 0 = n) := ⟨_, rfl⟩
      rw [hn.out] at hx hfk hsn
      obtain ⟨pk, hpk⟩ : ∃ pk, Hid (put (zs.take k) = pk) := ⟨_, rfl⟩
      rw [hpk.out] at hown hsn hpl
      clear hn hpk
      have hzl := zz_lt n hfk
      have htl := leb_ten (zz n) hzl
      go_wp2_with fail
      refine (fold_any n _ hfk).mono ?_
      rintro e w' ⟨rfl, he⟩; obtain rfl := he.symm; clear he
      go_wp2_with fail
      go_loopw [3, 6] (fun v r wi => ∃ (x : Nat) (dn : List Nat), x < 18446744073709551616 ∧ Hid (dn ++ leb x = pk ++ leb (zz n)) ∧ r = .int .u64 x ∧ wi.ownsRow w.heap.size 5 1 v dn.length (bv dn) ∧ Below w.heap.size w wi) (fun _ r _ => (intOf r).toNat)
      case atStart => exact ⟨zz n, pk, hzl, rfl, rfl, hown, hbw⟩
      case round =>
        obtain ⟨x, dn, hxl, hdn, rfl, hown2, hbi⟩ := hrel
        clear hown hbw hx
        have hdl : dn.length ≤ 10010 := by
          have h1 := congrArg List.length hdn.out
          rw [List.length_append, List.length_append] at h1
          omega
        by_cases h128 : 128 ≤ x
        · have hby := byte_more x
          have hnx : Hid (dn ++ [x % 128 + 128] ++ leb (x / 128) = pk ++ leb (zz n)) := by
            have h := leb_step _ _ _ _ hdn.out h128
            exact h
          obtain ⟨y, hy⟩ : ∃ y, Hid (x % 128 + 128 = y) := ⟨_, rfl⟩
          rw [hy.out] at hby hnx
          clear hdn hy
          go_wp2_with (at_builtin; refine wpList_append_own _ rfl _ _ 27 rfl w.heap.size 5 i0 (.int .u8 0) 1 1 Try.underlying27 hi hz0 hz1 hz2 rfl (by decide) _ _ _ rfl (hown2.alloc _) ⟨wr.heap.size, 0, none⟩ 1 1 [.int .u8 (y : Int)] rfl rfl ?c1 ?c2 ?c3 ?c4 ?c5 ?_)
          case c1 =>
            intro j u hj
            match j, hj with
            | 0, hj => simp at hj; subst hj; simp [Addr.add]
          case c2 => intro u hu; simp at hu; subst hu; rfl
          case c3 => unfold maxLen; omega
          case c4 => omega
          case c5 => have := hbi.size; simp; omega
          intro v' w1 hown' hgrow _
          have hb1 : Below w.heap.size w w1 := (hbi.alloc hbi.size _).grown hgrow (by have := hbi.size; simp; omega) (fun k hk => (hown2.lt k hk).1)
          have hown3 : w1.ownsRow w.heap.size 5 1 v' (dn ++ [y]).length (bv (dn ++ [y])) := by
            rw [bv_append, List.length_append]; exact hown'
          clear hown' hgrow hown2 hby
          go_wp2_with fail
          go_roundw
          case rel => exact ⟨x / 128, dn ++ [y], by omega, hnx, by simp, hown3, hb1⟩
          case measure => simp [intOf]; omega
        · have hend : Hid (dn ++ [x] = pk ++ leb (zz n)) := by
            have h := hdn.out
            rw [leb_small x (by omega)] at h
            exact h
          clear hdn
          go_wp2_with (at_builtin; refine wpList_append_own _ rfl _ _ 27 rfl w.heap.size 5 i0 (.int .u8 0) 1 1 Try.underlying27 hi hz0 hz1 hz2 rfl (by decide) _ _ _ rfl (hown2.alloc _) ⟨wr.heap.size, 0, none⟩ 1 1 [.int .u8 (x : Int)] rfl rfl ?c1 ?c2 ?c3 ?c4 ?c5 ?_)
          case c1 =>
            intro j u hj
            match j, hj with
            | 0, hj => simp at hj; subst hj; simp [Addr.add]
          case c2 => intro u hu; simp at hu; subst hu; rfl
          case c3 => unfold maxLen; omega
          case c4 => omega
          case c5 => have := hbi.size; simp; omega
          intro v' w1 hown' hgrow _
          have hb1 : Below w.heap.size w w1 := (hbi.alloc hbi.size _).grown hgrow (by have := hbi.size; simp; omega) (fun k hk => (hown2.lt k hk).1)
          have hown3 : w1.ownsRow w.heap.size 5 1 v' (put (zs.take (k + 1))).length (bv (put (zs.take (k + 1)))) := by
            rw [hsn.out, ← hend.out, bv_append, List.length_append]; exact hown'
          clear hown' hgrow hown2 hend hsn
          go_wp2_with fail
          go_roundw
          case rel => exact ⟨k + 1, by omega, by go_num, hown3, hb1⟩
          case measure => simp [intOf]; omega
    · have : k = zs.length := by omega
      subst this
      go_wp2_with fail
      go_ret
      exact ⟨_, rfl, by rw [List.take_length] at hown; exact hown, hbw⟩
end Go.Proofs.Ytimeglhoiibhdaa
