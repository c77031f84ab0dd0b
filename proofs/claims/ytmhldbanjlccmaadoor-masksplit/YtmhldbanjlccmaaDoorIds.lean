/- What mask.Ids answers: the numbers of a set, rising, in new memory. -/
import Derived.Test.YtmhldbanjlccmaaDoorFold
import Derived.Deep.QuietTactic
import Derived.BigQuiet
namespace Go.Proofs.YtmhldbanjlccmaaDoor
open Go.RowKit M

theorem Tryd.info3 : (Tryd.prog.info? 3).map (fun i => (i.zero, i.size, i.bytes)) = some (some (.int .i64 0), 1, 8) := by kernel_rfl

/-- The cells of a list of numbers. -/
def vals (l : List Nat) : List Value := (toI l).map (Value.int .i64)
theorem vals_len (l : List Nat) : (vals l).length = l.length := by simp [vals, toI]
theorem vals_snoc (l : List Nat) (x : Nat) : vals (l ++ [x]) = vals l ++ [.int .i64 x] := by simp [vals, toI]

theorem ids_len64 (n x : Nat) (h : n ≤ 64) : (ids n x).length ≤ 64 := by
  unfold ids
  exact Nat.le_trans (List.length_filter_le _ _) (by simpa using h)

/-- A row of the call's own, read as a slice of integers. -/
theorem rd_own {w : World} {base : Nat} {v : Value} {zs : List Int} {k : IntKind} {e : TypeId} (h : w.ownsRow base e 1 v zs.length (zs.map (Value.int k))) : Rd k w v zs := by
  obtain ⟨_, h | ⟨g, cap, cur, rfl, hb, hh, hn, hm, hs, ht⟩⟩ := h
  · obtain ⟨rfl, h0⟩ := h
    have : zs = [] := List.eq_nil_of_length_eq_zero h0
    subst this
    exact ⟨by simp, none, 0, rfl, by simp, fun h => absurd rfl h⟩
  · refine ⟨by unfold maxLen at hm; omega, some ⟨g, 0, none⟩, cap, rfl, hn, fun _ => ⟨g, 0, rfl, fun j hj => ?_⟩⟩
    have h2 : w.ownsRow base e 1 (.slice (some ⟨g, 0, none⟩) zs.length cap) zs.length (zs.map (Value.int k)) := ⟨by simp, .inr ⟨g, cap, cur, rfl, hb, hh, hn, hm, hs, ht⟩⟩
    have := h2.cellAt j (by omega)
    rw [Nat.zero_add, this]
    simp [List.getD_eq_getElem?_getD, hj]

set_option maxHeartbeats 400000 in
theorem ids_some (m : Nat) (w : World) (hm : m < 18446744073709551616) (h0 : m ≠ 0) (hT : Tab w) :
    Calls Tryd.prog 14 #[.int .u64 m] w fun e w' => ∃ v, e = .returned v ∧ w'.ownsRow w.heap.size 3 1 v (ids 64 m).length (vals (ids 64 m)) ∧ Below w.heap.size w w' := by
  obtain ⟨i0, hi, hz0, hz1, hz2⟩ := info_parts Tryd.info3
  have hz : ((m : Int) == 0) = false := by simp; omega
  have hcl := cnt_le m
  go_enter Tryd.func14, Tryd.ntmps14
  go_wp2_with (first
    | (go_at_call 18; refine (count_any _ _ hm).mono ?_; rintro e w' ⟨rfl, he⟩; obtain rfl := he.symm)
    | (at_make; refine wpList_make_own _ rfl _ _ 28 rfl w.heap.size 3 i0 (.int .i64 0) 1 Tryd.underlying28 hi hz0 hz1 _ _ _ (cnt m) rfl rfl rfl (by rw [hz2]; omega) (by unfold maxLen; omega) (Nat.le_refl _) ?_; intro w0 hown0 hgrow0))
  have hb0 : Below w.heap.size w w0 := (Below.refl _ _).grown hgrow0 (Nat.le_refl _) (fun k hk => by cases hk)
  clear hgrow0
  go_loopw [3, 4] (fun v r wr => ∃ (x : Nat) (dn : List Nat), x < 18446744073709551616 ∧ dn ++ ids 64 x = ids 64 m ∧ r = .int .u64 x ∧ wr.ownsRow w.heap.size 3 1 v dn.length (vals dn) ∧ Below w.heap.size w wr) (fun _ r _ => (intOf r).toNat)
  case atStart => exact ⟨m, [], hm, rfl, rfl, hown0, hb0⟩
  case round =>
    obtain ⟨x, dn, hx, hdn, rfl, hown, hbw⟩ := hrel
    clear hown0 hb0
    by_cases hx0 : x = 0
    · subst hx0
      have hdn' : Hid (dn = ids 64 m) := by
        have h : dn = ids 64 m := by rw [← hdn, ids_zero, List.append_nil]
        exact h
      clear hdn
      go_wp2
      go_ret
      exact ⟨_, rfl, by rw [← hdn'.out]; exact hown, hbw⟩
    · have hxz : ((x : Int) != 0) = true := by simp; omega
      have hTr := hT.below hbw hT.1
      have hdl : dn.length ≤ 64 := by
        have h1 := congrArg List.length hdn
        have h2 := ids_len64 64 m (Nat.le_refl _)
        rw [List.length_append] at h1; omega
      have hdn' : Hid (dn ++ ids 64 x = ids 64 m) := hdn
      clear hdn
      go_wp2_with (first
        | (go_at_call 23; refine (tz_any _ _ hx hx0 hTr).mono ?_; rintro e w' ⟨rfl, he⟩; obtain rfl := he.symm)
        | (go_at_call 22; refine (least_any _ _ hx).mono ?_; rintro e w' ⟨rfl, he⟩; obtain rfl := he.symm)
        | (at_builtin; refine wpList_append_own _ rfl _ _ 28 rfl w.heap.size 3 i0 (.int .i64 0) 1 8 Tryd.underlying28 hi hz0 hz1 hz2 rfl (by decide) _ _ _ rfl (hown.alloc _) ⟨wr.heap.size, 0, none⟩ 1 1 [.int .i64 (Lib.ctz 64 x : Nat)] rfl rfl ?c1 ?c2 ?c3 ?c4 ?c5 ?_)
        | go_in)
      case c1 =>
        intro j u hj
        match j, hj with
        | 0, hj => simp at hj; subst hj; simp [Addr.add]
      case c2 => intro u hu; simp at hu; subst hu; rfl
      case c3 => unfold maxLen; omega
      case c4 => omega
      case c5 => have := hbw.size; simp; omega
      intro v' w1 hown' hgrow _
      have hown2 : w1.ownsRow w.heap.size 3 1 v' (dn ++ [Lib.ctz 64 x]).length (vals (dn ++ [Lib.ctz 64 x])) := by
        rw [vals_snoc, List.length_append]; exact hown'
      have hb1 : Below w.heap.size w w1 := (hbw.alloc hbw.size _).grown hgrow (by have := hbw.size; simp; omega) (fun k hk => (hown.lt k hk).1)
      have hTr1 := hT.below hb1 hT.1
      clear hown' hgrow hown
      go_wp2_with (first
        | (go_at_call 22; refine (least_any _ _ hx).mono ?_; rintro e w' ⟨rfl, he⟩; obtain rfl := he.symm))
      go_roundw
      case rel =>
        refine ⟨wl x, dn ++ [Lib.ctz 64 x], Nat.lt_of_le_of_lt (wl_le x) hx, ?_, rfl, hown2, hb1⟩
        rw [← hdn'.out, ids_ctz x hx0 hx]; simp
      case measure => have := wl_lt x hx0; simp [intOf]; omega
/-- mask.Ids. -/
theorem ids_any (m : Nat) (w : World) (hm : m < 18446744073709551616) (hT : Tab w) :
    Calls Tryd.prog 14 #[.int .u64 m] w fun e w' => ∃ v, e = .returned v ∧ w'.ownsRow w.heap.size 3 1 v (ids 64 m).length (vals (ids 64 m)) ∧ Below w.heap.size w w' := by
  by_cases h0 : m = 0
  · subst h0
    have hnil : Hid (ids 64 0 = []) := ids_zero 64
    go_enter Tryd.func14, Tryd.ntmps14
    go_wp2
    go_ret
    exact ⟨_, rfl, by rw [hnil.out]; exact World.ownsRow_nil _ _ _ _, Below.refl _ _⟩
  · exact ids_some m w hm h0 hT

set_option maxHeartbeats 400000 in
/-- cordonbook.Same of two lists of int: are they the same? -/
theorem same_any (v1 v2 : Value) (z1 z2 : List Int) (w : World) (h1 : Rd .i64 w v1 z1) (h2 : Rd .i64 w v2 z2) (hs : z1 = z2) :
    Calls Tryd.prog 13 #[v1, v2] w fun e w' => e = .returned (.bool true) ∧ ∃ n, w' = w.drewN n := by
  subst hs
  obtain ⟨hl, ao, cap, rfl, _, hc0⟩ := h1
  obtain ⟨_, ao2, cap2, rfl, _, hc2⟩ := h2
  by_cases hn : z1.length = 0
  · rw [hn]
    clear hc0 hc2 hn hl
    go_enter Tryd.func13, Tryd.ntmps13
    go_wp2
    go_loop [5] (fun i => i = .int .i64 0) (fun _ => 0)
    case atStart => exact rfl
    case round =>
      obtain rfl := hrel
      go_wp2
      go_ret
      exact ⟨rfl, 0, rfl⟩
  · obtain ⟨b, off, rfl, hc⟩ := hc0 hn
    obtain ⟨b2, off2, rfl, hd⟩ := hc2 hn
    clear hc0 hc2
    go_enter Tryd.func13, Tryd.ntmps13
    go_wp2
    go_loopw [5] (fun i wr => ∃ k n : Nat, k ≤ z1.length ∧ i = .int .i64 k ∧ wr = w.drewN n) (fun i _ => z1.length - (intOf i).toNat)
    case atStart => exact ⟨0, 0, Nat.zero_le _, rfl, rfl⟩
    case round =>
      obtain ⟨k, n, hk, rfl, rfl⟩ := hrel
      by_cases hlt : k < z1.length
      · have g1 := hc k hlt
        have g2 := hd k hlt
        clear hc hd
        go_wp2
        go_quiet (fail)
        go_wp2
        go_roundw
        case rel => exact ⟨k + 1, n + nq, by omega, by go_num, rfl⟩
        case measure => simp [intOf]; omega
      · go_wp2
        go_ret
        exact ⟨rfl, n, rfl⟩
end Go.Proofs.YtmhldbanjlccmaaDoor
