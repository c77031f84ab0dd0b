/- What mask.Join, mask.Meet and mask.Of compute of any list: they read it, and write nothing. -/
import Derived.Test.YtmhldbanjlccmaaDoorLeaf
namespace Go.Proofs.YtmhldbanjlccmaaDoor
open Go.RowKit M

/-- A slice value whose elements are these integers. -/
def Rd (k : IntKind) (w : World) (v : Value) (zs : List Int) : Prop :=
  zs.length ≤ 9223372036854775807 ∧ ∃ ao cap, v = .slice ao zs.length cap ∧ zs.length ≤ cap ∧ (zs.length ≠ 0 → ∃ b off, ao = some ⟨b, off, none⟩ ∧ ∀ j, j < zs.length → w.cell? ⟨b, off + j, none⟩ = some (.int k (zs.getD j 0)))

theorem toI_len (l : List Nat) : (toI l).length = l.length := by simp [toI]
theorem toI_getD (l : List Nat) (j : Nat) : (toI l).getD j 0 = ((l.getD j 0 : Nat) : Int) := by
  simp only [toI, List.getD_eq_getElem?_getD, List.getElem?_map]
  cases l[j]? <;> simp
theorem take_snoc' {α : Type} (l : List α) (d : α) (k : Nat) (h : k < l.length) : l.take (k + 1) = l.take k ++ [l.getD k d] := by
  rw [List.take_succ_eq_append_getElem h]
  simp [List.getD_eq_getElem?_getD, h]

theorem getD_lt (ns : List Nat) (h : ∀ x ∈ ns, x < 18446744073709551616) (k : Nat) : ns.getD k 0 < 18446744073709551616 := by
  rw [List.getD_eq_getElem?_getD]
  cases e : ns[k]? with
  | none => simp
  | some x => simpa using h x (List.mem_of_getElem? e)
theorem take_lt (ns : List Nat) (h : ∀ x ∈ ns, x < 18446744073709551616) (k : Nat) : ∀ x ∈ ns.take k, x < 18446744073709551616 := fun x hx => h x (List.mem_of_mem_take hx)

theorem val_int {k : IntKind} {a b : Int} (h : a = b) : Value.int k a = .int k b := by rw [h]
theorem toI_get? (l : List Nat) (j : Nat) : (toI l)[j]?.getD 0 = ((l.getD j 0 : Nat) : Int) := by rw [← toI_getD, List.getD_eq_getElem?_getD]

set_option maxHeartbeats 400000 in
/-- mask.Join. -/
theorem join_any (v : Value) (ns : List Nat) (w : World) (hv : Rd .u64 w v (toI ns)) (hlt : ∀ x ∈ ns, x < 18446744073709551616) :
    Calls Tryd.prog 11 #[v] w fun e w' => e = .returned (.int .u64 (joinL ns : Nat)) ∧ w' = w := by
  obtain ⟨hlen, ao, cap, rfl, _, hc0⟩ := hv
  rw [toI_len] at hlen hc0 ⊢
  by_cases hn : ns.length = 0
  · have hj : Hid (joinL ns = 0) := by show _; rw [List.eq_nil_of_length_eq_zero hn]; rfl
    rw [hn]
    clear hc0 hn hlen
    go_enter Tryd.func11, Tryd.ntmps11
    go_wp2
    go_loop [3, 8] (fun t i => i = .int .i64 0 ∧ t = .int .u64 0) (fun _ _ => 0)
    case atStart => exact ⟨rfl, rfl⟩
    case round =>
      obtain ⟨rfl, rfl⟩ := hrel
      go_wp2
      go_ret
      exact ⟨ret_int (by rw [hj.out]; rfl), rfl⟩
  · obtain ⟨b, off, rfl, hc⟩ := hc0 hn
    clear hc0
    go_enter Tryd.func11, Tryd.ntmps11
    go_wp2
    go_loop [3, 8] (fun t i => ∃ k : Nat, k ≤ ns.length ∧ i = .int .i64 k ∧ t = .int .u64 (joinL (ns.take k) : Nat)) (fun _ i => ns.length - (intOf i).toNat)
    case atStart => exact ⟨0, Nat.zero_le _, rfl, rfl⟩
    case round =>
      obtain ⟨k, hk, rfl, rfl⟩ := hrel
      have hJl := joinL_lt _ (take_lt ns hlt k)
      have hkl := getD_lt ns hlt k
      by_cases hlt' : k < ns.length
      · go_wp2
        go_round
        case rel =>
          refine ⟨k + 1, by omega, by go_num, val_int ?_⟩
          rw [take_snoc' ns 0 k hlt', joinL_snoc, toI_get?, u64_or_nat _ _ hJl hkl]
        case measure => simp [intOf]; omega
      · go_wp2
        go_ret
        exact ⟨ret_int (by rw [List.take_of_length_le (by omega)]), rfl⟩
set_option maxHeartbeats 400000 in
/-- mask.Meet. -/
theorem meet_any (v : Value) (ns : List Nat) (w : World) (hv : Rd .u64 w v (toI ns)) (hlt : ∀ x ∈ ns, x < 18446744073709551616) :
    Calls Tryd.prog 12 #[v] w fun e w' => e = .returned (.int .u64 (meetL ns : Nat)) ∧ w' = w := by
  obtain ⟨hlen, ao, cap, rfl, _, hc0⟩ := hv
  rw [toI_len] at hlen hc0 ⊢
  by_cases hn : ns.length = 0
  · have hj : Hid (meetL ns = 18446744073709551615) := by show _; rw [List.eq_nil_of_length_eq_zero hn]; rfl
    rw [hn]
    clear hc0 hn hlen
    go_enter Tryd.func12, Tryd.ntmps12
    go_wp2
    go_loop [3, 8] (fun t i => i = .int .i64 0 ∧ t = .int .u64 18446744073709551615) (fun _ _ => 0)
    case atStart => exact ⟨rfl, rfl⟩
    case round =>
      obtain ⟨rfl, rfl⟩ := hrel
      go_wp2
      go_ret
      exact ⟨ret_int (by rw [hj.out]; rfl), rfl⟩
  · obtain ⟨b, off, rfl, hc⟩ := hc0 hn
    clear hc0
    go_enter Tryd.func12, Tryd.ntmps12
    go_wp2
    go_loop [3, 8] (fun t i => ∃ k : Nat, k ≤ ns.length ∧ i = .int .i64 k ∧ t = .int .u64 (meetL (ns.take k) : Nat)) (fun _ i => ns.length - (intOf i).toNat)
    case atStart => exact ⟨0, Nat.zero_le _, rfl, rfl⟩
    case round =>
      obtain ⟨k, hk, rfl, rfl⟩ := hrel
      have hJl := meetL_lt (ns.take k)
      have hkl := getD_lt ns hlt k
      by_cases hlt' : k < ns.length
      · go_wp2
        go_round
        case rel =>
          refine ⟨k + 1, by omega, by go_num, val_int ?_⟩
          rw [take_snoc' ns 0 k hlt', meetL_snoc, toI_get?, u64_and_nat _ _ hJl hkl]
        case measure => simp [intOf]; omega
      · go_wp2
        go_ret
        exact ⟨ret_int (by rw [List.take_of_length_le (by omega)]), rfl⟩
set_option maxHeartbeats 400000 in
/-- mask.Of. -/
theorem of_any (v : Value) (zs : List Int) (w : World) (hv : Rd .i64 w v zs) :
    Calls Tryd.prog 10 #[v] w fun e w' => e = .returned (.int .u64 (ofL zs : Nat)) ∧ w' = w := by
  obtain ⟨hlen, ao, cap, rfl, _, hc0⟩ := hv
  by_cases hn : zs.length = 0
  · have hj : Hid (ofL zs = 0) := by show _; rw [List.eq_nil_of_length_eq_zero hn]; rfl
    rw [hn]
    clear hc0 hn hlen
    go_enter Tryd.func10, Tryd.ntmps10
    go_wp2
    go_loop [3, 8] (fun t i => i = .int .i64 0 ∧ t = .int .u64 0) (fun _ _ => 0)
    case atStart => exact ⟨rfl, rfl⟩
    case round =>
      obtain ⟨rfl, rfl⟩ := hrel
      go_wp2
      go_ret
      exact ⟨ret_int (by rw [hj.out]; rfl), rfl⟩
  · obtain ⟨b, off, rfl, hc⟩ := hc0 hn
    clear hc0
    go_enter Tryd.func10, Tryd.ntmps10
    go_wp2
    go_loop [3, 8] (fun t i => ∃ k : Nat, k ≤ zs.length ∧ i = .int .i64 k ∧ t = .int .u64 (ofL (zs.take k) : Nat)) (fun _ i => zs.length - (intOf i).toNat)
    case atStart => exact ⟨0, Nat.zero_le _, rfl, rfl⟩
    case round =>
      obtain ⟨k, hk, rfl, rfl⟩ := hrel
      have hJl := ofL_lt (zs.take k)
      have hkl := bitN_lt (zs.getD k 0)
      by_cases hlt' : k < zs.length
      · go_wp2_with (go_at_call 24; refine (bit_any _ _).mono ?_; rintro e w' ⟨rfl, rfl⟩)
        go_round
        case rel =>
          refine ⟨k + 1, by omega, by go_num, val_int ?_⟩
          rw [take_snoc' zs 0 k hlt', ofL_snoc, ← u64_or_nat _ _ hJl hkl]
          simp [List.getD_eq_getElem?_getD, hlt']
        case measure => simp [intOf]; omega
      · go_wp2
        go_ret
        exact ⟨ret_int (by rw [List.take_of_length_le (by omega)]), rfl⟩
end Go.Proofs.YtmhldbanjlccmaaDoor
