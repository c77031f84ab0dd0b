/- The document's own answer to P1.3: the numbers of a set, rising, in new memory. -/
import Derived.Test.YtmhldbanjlccmaaDoorOwn
namespace Go.Proofs.YtmhldbanjlccmaaDoor
open Go.RowKit M

theorem shr_bit (m k : Nat) (hm : m < 18446744073709551616) : (bits BinOp.and IntKind.u64 ((m : Int) / 2 ^ k) 1 == 1) = m.testBit k := by
  have e : ((m : Int) / 2 ^ k) = ((m / 2 ^ k : Nat) : Int) := by simp
  have h := u64_and_nat (m / 2 ^ k) 1 (Nat.lt_of_le_of_lt (Nat.div_le_self _ _) hm) (by decide)
  rw [e]
  have h' : bits BinOp.and IntKind.u64 ((m / 2 ^ k : Nat) : Int) 1 = ((m / 2 ^ k &&& 1 : Nat) : Int) := h
  rw [h', Nat.and_one_is_mod, Nat.testBit_eq_decide_div_mod_eq, Bool.eq_iff_iff, beq_iff_eq, decide_eq_true_iff]
  omega

set_option maxHeartbeats 400000 in
theorem ref_ids (m : Nat) (w : World) (hm : m < 18446744073709551616) :
    Calls Tryd.prog 16 #[.int .u64 m] w fun e w' => ∃ v, e = .returned v ∧ w'.ownsRow w.heap.size 3 1 v (ids 64 m).length (vals (ids 64 m)) ∧ Below w.heap.size w w' := by
  obtain ⟨i0, hi, hz0, hz1, hz2⟩ := info_parts Tryd.info3
  go_enter Tryd.func16, Tryd.ntmps16
  go_wp2
  go_loopw [3, 5] (fun v i wr => ∃ k : Nat, k ≤ 64 ∧ i = .int .i64 k ∧ wr.ownsRow w.heap.size 3 1 v (ids k m).length (vals (ids k m)) ∧ Below w.heap.size w wr) (fun _ i _ => 64 - (intOf i).toNat)
  case atStart => exact ⟨0, by decide, rfl, World.ownsRow_nil _ _ _ _, Below.refl _ _⟩
  case round =>
    obtain ⟨k, hk, rfl, hown, hbw⟩ := hrel
    have hl := ids_len64 k m hk
    have hsn : Hid (ids (k + 1) m = ids k m ++ (if m.testBit k then [k] else [])) := ids_snoc k m
    by_cases hlt : k < 64
    · have hb := shr_bit m k hm
      by_cases hp : m.testBit k = true
      · rw [hp] at hb
        have hsn' : Hid (ids (k + 1) m = ids k m ++ [k]) := by
          have := hsn.out
          rw [if_pos hp] at this; exact this
        clear hsn hp
        go_wp2_with (at_builtin; refine wpList_append_own _ rfl _ _ 28 rfl w.heap.size 3 i0 (.int .i64 0) 1 8 Tryd.underlying28 hi hz0 hz1 hz2 rfl (by decide) _ _ _ rfl (hown.alloc _) ⟨wr.heap.size, 0, none⟩ 1 1 [.int .i64 (k : Int)] rfl rfl ?c1 ?c2 ?c3 ?c4 ?c5 ?_)
        case c1 =>
          intro j u hj
          match j, hj with
          | 0, hj => simp at hj; subst hj; simp [Addr.add]
        case c2 => intro u hu; simp at hu; subst hu; rfl
        case c3 => unfold maxLen; omega
        case c4 => omega
        case c5 => have := hbw.size; simp; omega
        intro v' w1 hown' hgrow _
        have hb1 : Below w.heap.size w w1 := (hbw.alloc hbw.size _).grown hgrow (by have := hbw.size; simp; omega) (fun k hk => (hown.lt k hk).1)
        have hown2 : w1.ownsRow w.heap.size 3 1 v' (ids (k + 1) m).length (vals (ids (k + 1) m)) := by
          rw [hsn'.out, vals_snoc, List.length_append]; exact hown'
        clear hown' hgrow hown hb
        go_wp2
        go_roundw
        case rel => exact ⟨k + 1, by omega, by go_num, hown2, hb1⟩
        case measure => simp [intOf]; omega
      · have hp' : m.testBit k = false := by simpa using hp
        rw [hp'] at hb
        have hsn' : ids (k + 1) m = ids k m := by
          have := hsn.out
          rw [if_neg hp, List.append_nil] at this; exact this
        have hown2 : wr.ownsRow w.heap.size 3 1 u3 (ids (k + 1) m).length (vals (ids (k + 1) m)) := by rw [hsn']; exact hown
        clear hsn hp hp' hsn' hown
        go_wp2
        go_roundw
        case rel => exact ⟨k + 1, by omega, by go_num, hown2, hbw⟩
        case measure => simp [intOf]; omega
    · have : k = 64 := by omega
      subst this
      go_wp2
      go_ret
      exact ⟨_, rfl, hown, hbw⟩
end Go.Proofs.YtmhldbanjlccmaaDoor
