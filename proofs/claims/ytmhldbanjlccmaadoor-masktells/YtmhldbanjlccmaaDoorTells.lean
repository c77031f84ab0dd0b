/- MaskTells, walked: of any set, any list of numbers and any number it returns true, and nothing that was there is written. -/
import Derived.Test.YtmhldbanjlccmaaDoorRefIds
import Derived.Test.YtmhldbanjlccmaaDoorRoomy
import Derived.Deep.DeepCutAuto
namespace Go.Proofs.YtmhldbanjlccmaaDoor
open Go.RowKit M

theorem rd_iv {w : World} {base : Nat} {v : Value} {zs : List Int} {e : TypeId} (h : w.ownsRow base e 1 v zs.length (iv zs)) : Rd .i64 w v zs := rd_own h
theorem rd_vals {w : World} {base : Nat} {v : Value} {l : List Nat} {e : TypeId} (h : w.ownsRow base e 1 v l.length (vals l)) : Rd .i64 w v (toI l) :=
  rd_own (zs := toI l) (by rw [toI_len]; exact h)
theorem own_below {w w' : World} {base : Nat} {e : TypeId} {size : Nat} {v : Value} {n : Nat} {xs : List Value} (h : w.ownsRow base e size v n xs) (hb : Below w.heap.size w w') : w'.ownsRow base e size v n xs := by
  obtain ⟨h1, h | ⟨g, cap, cur, rfl, h2, hh, r⟩⟩ := h
  · exact ⟨h1, .inl h⟩
  · have hg : g < w.heap.size := (Array.getElem?_eq_some_iff.1 hh).1
    exact ⟨h1, .inr ⟨g, cap, cur, rfl, h2, (hb.block g hg).trans hh, r⟩⟩

/-- The first K of a list that came in, as they are copied. -/
theorem src_i64 (w : World) (o : Obj) (x : Addr) (zs : List Int) (K : Nat) (hK : K ≤ zs.length) (hcell : ∀ i, i < zs.length → w.cell? (x.add i) = some (.int .i64 (zs.getD i 0))) :
    ∃ ns : List Int, ns.length = K ∧ (iv ns).length = K * 1 ∧ ∀ j u, (iv ns)[j]? = some u → (w.alloc o).cell? (x.add j) = some u := by
  refine ⟨zs.take K, by simp; omega, by simp [iv]; omega, ?_⟩
  intro j u hj
  simp only [iv, List.getElem?_map, Option.map_eq_some_iff] at hj
  obtain ⟨z, hz, rfl⟩ := hj
  have hjK : j < K := by
    have := (List.getElem?_eq_some_iff.1 hz).1
    simp at this; omega
  rw [List.getElem?_take_of_lt hjK] at hz
  have hc := hcell j (by omega)
  have hlt : (x.add j).block < w.heap.size := World.block_lt_of_cell? w _ hc
  rw [(below_alloc w o).cell hlt, hc]
  simp [List.getD_eq_getElem?_getD, hz]

/-- What Roomy makes of a list. -/
def fullL (ns : List Int) : List Int := ns ++ List.replicate 80 7
theorem fullL_len (ns : List Int) : (fullL ns).length = ns.length + 80 := by simp [fullL]

def OnlyIs (m : Nat) (n0 : Int) (ok : Bool) : Prop :=
  (m ≠ 0 ∧ wl m = 0 ∧ ((Lib.ctz 64 m : Nat) : Int) = n0 ∧ ok = true) ∨ ((m = 0 ∨ wl m ≠ 0) ∧ n0 = -1 ∧ ok = false)
theorem only_all (m : Nat) : ∃ n0 ok, OnlyIs m n0 ok := by
  by_cases h : m ≠ 0 ∧ wl m = 0
  · exact ⟨_, true, .inl ⟨h.1, h.2, rfl, rfl⟩⟩
  · refine ⟨-1, false, .inr ⟨?_, rfl, rfl⟩⟩
    by_cases h0 : m = 0
    · exact .inl h0
    · exact .inr fun h1 => h ⟨h0, h1⟩
theorem only_gen (m : Nat) (n0 : Int) (ok : Bool) (w : World) (hm : m < 18446744073709551616) (hT : Tab w) (h : OnlyIs m n0 ok) :
    Calls Tryd.prog 9 #[.int .u64 m] w fun e w' => e = .returned (.tuple #[.int .i64 n0, .bool ok]) ∧ w' = w := by
  rcases h with ⟨h0, h1, rfl, rfl⟩ | ⟨h0, rfl, rfl⟩
  · exact only_yes m w hm h0 h1 hT
  · exact only_no m w hm h0
/-- What Only answers, and what the list of the set's numbers is. -/
theorem only_ids (m : Nat) (n0 : Int) (ok : Bool) (hm : m < 18446744073709551616) (h : OnlyIs m n0 ok) :
    (((ids 64 m).length = 1 ∧ toI (ids 64 m) = [n0] ∧ ok = true) ∨ ((ids 64 m).length ≠ 1 ∧ n0 = -1 ∧ ok = false)) := by
  rcases h with ⟨h0, h1, rfl, rfl⟩ | ⟨h0, rfl, rfl⟩
  · left
    rw [ids_ctz m h0 hm, h1, ids_zero]
    exact ⟨rfl, rfl, rfl⟩
  · right
    refine ⟨?_, rfl, rfl⟩
    rcases h0 with h0 | h0
    · subst h0; rw [ids_zero]; simp
    · have hne : m ≠ 0 := by
        intro e; subst e; exact h0 rfl
      have hlt : wl m < 18446744073709551616 := Nat.lt_of_le_of_lt (wl_le m) hm
      rw [ids_ctz m hne hm, ids_ctz (wl m) h0 hlt]
      simp
theorem of_is (v : Value) (zs : List Int) (w : World) (n : Int) (hv : Rd .i64 w v zs) (hn : ((ofL zs : Nat) : Int) = n) :
    Calls Tryd.prog 10 #[v] w fun e w' => e = .returned (.int .u64 n) ∧ w' = w := by rw [← hn]; exact of_any v zs w hv
theorem rd_iv' {w : World} {base : Nat} {v : Value} {zs : List Int} {e : TypeId} (h : w.ownsRow base e 1 v zs.length (iv zs)) :
    ∃ ao cap, v = .slice ao zs.length cap ∧ (zs.length ≠ 0 → ∃ b off, ao = some ⟨b, off, none⟩ ∧ ∀ j, j < zs.length → w.cell? ⟨b, off + j, none⟩ = some (.int .i64 (zs.getD j 0))) := by
  obtain ⟨hl, ao, cap, rfl, _, hc⟩ := rd_iv h
  exact ⟨ao, cap, rfl, hc⟩

theorem and63 (k : Nat) (h : k < 64) : bits BinOp.and IntKind.u64 (k : Int) 63 = (k : Int) := by
  have h1 := u64_and_nat k 63 (by omega) (by decide)
  have h2 : k &&& 63 = k := by
    rw [Nat.and_two_pow_sub_one_eq_mod k 6]
    exact Nat.mod_eq_of_lt h
  rw [h2] at h1
  exact h1

set_option maxHeartbeats 2000000 in
set_option maxRecDepth 100000 in
theorem tells_core (m : Nat) (ao : Option Addr) (len cap : Nat) (zs : List Int) (id : Int) (w : World) (hm : m < 18446744073709551616) (hrow : IsRow .i64 w ao len cap zs) (hT : Tab w) :
    Calls Tryd.prog 4 #[.int .u64 m, .slice ao len cap, .int .i64 id] w fun e w' => e = .returned (.bool true) ∧ Below w.heap.size w w' := by
  obtain ⟨i0, hi, hz0, hz1, hz2⟩ := info_parts Tryd.info3
  have hown0 : (w.alloc (.cells #[] 3)).ownsRow w.heap.size 3 1 (.slice (some ⟨w.heap.size, 0, none⟩) 0 0) 0 [] :=
    World.ownsRow_lit w #[] 0 (Nat.le_refl _) (by unfold maxLen; omega) (by simp)
  go_enter Tryd.func4, Tryd.ntmps4
  go_upto_region 1 with fail
  go_cut [7] (fun v wx => ∃ ns : List Int, ns.length ≤ 20 ∧ wx.ownsRow w.heap.size 3 1 v ns.length (iv ns) ∧ Below w.heap.size w wx)
  case first =>
    rcases hrow with ⟨rfl, rfl, rfl, rfl⟩ | ⟨x, rfl, hlc, hcm, hzl, hcell, hwf⟩
    · go_wp2_with (at_builtin; refine wpList_append_own_none rfl _ _ 28 rfl w.heap.size 3 i0 1 Tryd.underlying28 hi _ 0 [] rfl hown0 rfl ?_)
      go_meet
      exact ⟨[], by simp, hown0, below_alloc _ _⟩
    · unfold maxLen at hcm
      obtain ⟨K, hK, hKe⟩ : ∃ K, K ≤ 20 ∧ K ≤ zs.length ∧ ((len ≤ 20 ∧ K = len) ∨ (20 < len ∧ K = 20)) := by
        by_cases h20 : len ≤ 20
        · exact ⟨len, h20, by omega, .inl ⟨h20, rfl⟩⟩
        · exact ⟨20, by decide, by omega, .inr ⟨by omega, rfl⟩⟩
      obtain ⟨hKz, hKe⟩ := hKe
      obtain ⟨ns, hnl, hul, hsrc⟩ := src_i64 w (.cells #[] 3) x zs K hKz hcell
      clear hcell hwf
      rcases hKe with ⟨h20, rfl⟩ | ⟨h20, rfl⟩
      · go_wp2_with (at_builtin; refine wpList_append_own _ rfl _ _ 28 rfl w.heap.size 3 i0 (.int .i64 0) 1 8 Tryd.underlying28 hi hz0 hz1 hz2 rfl (by decide) _ 0 [] rfl hown0 x K cap (iv ns) rfl hul hsrc (iv_one ns) ?c3 ?c4 ?c5 ?_)
        case c3 => unfold maxLen; omega
        case c4 => omega
        case c5 => simp
        intro v' w1 hown' hgrow _
        go_wp2_with fail
        go_meet
        refine ⟨ns, by omega, ?_, (below_alloc w _).grown hgrow (by simp) ?_⟩
        · rw [hnl]; simpa using hown'
        · intro k hk; simp [Value.ownBlock] at hk; omega
      · go_wp2_with (at_builtin; refine wpList_append_own _ rfl _ _ 28 rfl w.heap.size 3 i0 (.int .i64 0) 1 8 Tryd.underlying28 hi hz0 hz1 hz2 rfl (by decide) _ 0 [] rfl hown0 x 20 cap (iv ns) rfl hul hsrc (iv_one ns) ?c3 ?c4 ?c5 ?_)
        case c3 => unfold maxLen; omega
        case c4 => omega
        case c5 => simp
        intro v' w1 hown' hgrow _
        go_wp2_with fail
        go_meet
        refine ⟨ns, by omega, ?_, (below_alloc w _).grown hgrow (by simp) ?_⟩
        · rw [hnl]; simpa using hown'
        · intro k hk; simp [Value.ownBlock] at hk; omega
  case rest =>
    obtain ⟨ns, hn20, hown, hbw⟩ := hcut
    clear hown0
    go_wp2_with fail
    refine (roomy_any _ ns 7 _ (rd_iv hown) hn20).mono ?_
    rintro e w2 ⟨u, rfl, hfull0, b2⟩
    have hfull : w2.ownsRow wc.heap.size 3 1 u (fullL ns).length (iv (fullL ns)) := hfull0
    clear hfull0
    have o2 := own_below hown b2
    have t2 : Below w.heap.size w w2 := hbw.trans (b2.mono hbw.size)
    clear hown hbw b2
    obtain ⟨ao', cap', rfl, hcs⟩ := rd_iv' o2
    have hcs' : Hid (ns.length ≠ 0 → ∃ b off, ao' = some ⟨b, off, none⟩ ∧ ∀ j, j < ns.length → w2.cell? ⟨b, off + j, none⟩ = some (.int .i64 (ns.getD j 0))) := hcs
    clear hcs
    go_wp2_with fail
    go_loop [9, 27] (fun t i => ∃ k : Nat, k ≤ ns.length ∧ i = .int .i64 k ∧ t = .int .u64 (ofL (ns.take k) : Nat)) (fun _ i => ns.length - (intOf i).toNat)
    case atStart => exact ⟨0, Nat.zero_le _, rfl, rfl⟩
    case round =>
      obtain ⟨k, hk, rfl, rfl⟩ := hrel
      by_cases hlt : k < ns.length
      · obtain ⟨b', off', rfl, hcell⟩ := hcs'.out (by omega)
        have hx := hcell k hlt
        clear hcell hcs'
        have hJl := ofL_lt (ns.take k)
        have hsn : Hid (ofL (ns.take (k + 1)) = ofL (ns.take k) ||| bitN (ns.getD k 0)) := by
          have h : ofL (ns.take (k + 1)) = ofL (ns.take k) ||| bitN (ns.getD k 0) := by rw [take_snoc' ns 0 k hlt, ofL_snoc]
          exact h
        obtain ⟨x, hxx⟩ : ∃ x, Hid (ns.getD k 0 = x) := ⟨_, rfl⟩
        rw [hxx.out] at hx hsn
        clear hxx
        by_cases h0 : 0 ≤ x
        · by_cases h64 : x < 64
          · go_wp2_with fail
            go_round
            case rel =>
              refine ⟨k + 1, by omega, by go_num, val_int ?_⟩
              rw [hsn.out, ← u64_or_nat _ _ hJl (bitN_lt x), ← pow_bits x h0 h64]
            case measure => simp [intOf]; omega
          · have hz : Hid (bitN x = 0) := by
              have h : bitN x = 0 := by unfold bitN; rw [if_neg (by omega)]
              exact h
            go_wp2_with fail
            go_round
            case rel => exact ⟨k + 1, by omega, by go_num, val_int (by rw [hsn.out, hz.out, Nat.or_zero])⟩
            case measure => simp [intOf]; omega
        · have hz : Hid (bitN x = 0) := by
            have h : bitN x = 0 := by unfold bitN; rw [if_neg (by omega)]
            exact h
          go_wp2_with fail
          go_round
          case rel => exact ⟨k + 1, by omega, by go_num, val_int (by rw [hsn.out, hz.out, Nat.or_zero])⟩
          case measure => simp [intOf]; omega
      · have : k = ns.length := by omega
        subst this
        clear hcs'
        go_wp2_with fail
        refine (ref_ids m w2 hm).mono ?_
        rintro e w3 ⟨vl, rfl, hl, b3⟩
        have o3 := own_below o2 b3
        have f3 := own_below hfull b3
        have t3 : Below w.heap.size w w3 := t2.trans (b3.mono t2.size)
        have hT3 := hT.below t3 hT.1
        clear o2 hfull t2 b3
        obtain ⟨n0, ok, honly⟩ := only_all m
        have hway : Hid (((ids 64 m).length = 1 ∧ toI (ids 64 m) = [n0] ∧ ok = true) ∨ ((ids 64 m).length ≠ 1 ∧ n0 = -1 ∧ ok = false)) := only_ids m n0 ok hm honly
        have hon : Hid (OnlyIs m n0 ok) := honly
        clear honly
        have hL64 := ids_len64 64 m (Nat.le_refl _)
        obtain ⟨al, capl, rfl, hcl⟩ : ∃ al capl, vl = .slice al (ids 64 m).length capl ∧ ((ids 64 m).length ≠ 0 → ∃ b off, al = some ⟨b, off, none⟩ ∧ ∀ j, j < (ids 64 m).length → w3.cell? ⟨b, off + j, none⟩ = some (.int .i64 ((toI (ids 64 m)).getD j 0))) := by
          obtain ⟨_, al, capl, rfl, _, hc⟩ := rd_vals hl
          rw [toI_len] at hc
          exact ⟨al, capl, by rw [toI_len], hc⟩
        have hcl' : Hid ((ids 64 m).length ≠ 0 → ∃ b off, al = some ⟨b, off, none⟩ ∧ ∀ j, j < (ids 64 m).length → w3.cell? ⟨b, off + j, none⟩ = some (.int .i64 ((toI (ids 64 m)).getD j 0))) := hcl
        clear hcl
        obtain ⟨N, hN⟩ : ∃ N, N = (ids 64 m).length := ⟨_, rfl⟩
        have hN' : Hid (N = (ids 64 m).length) := hN
        rw [← hN] at hl hway hL64 hcl' ⊢
        clear hN
        go_wp2_with fail
        refine (only_gen m n0 ok w3 hm hT3 hon.out).mono ?_
        rintro e w' ⟨rfl, he⟩; obtain rfl := he.symm; clear he
        go_upto_if 51 with fail
        go_cut [15] (fun z wx => z = .int .i64 n0 ∧ wx = w3)
        case first =>
          rcases hway.out with ⟨h1, h2, h3⟩ | ⟨h1, h2, h3⟩
          · obtain ⟨b', off', rfl, hcell⟩ := hcl'.out (by omega)
            have hx : w3.cell? ⟨b', off', none⟩ = some (.int .i64 n0) := by
              have := hcell 0 (by omega)
              rw [h2] at this
              simpa using this
            clear hcell hcl' hway h2
            go_wp2_with fail
            go_meet
            exact ⟨rfl, rfl⟩
          · clear hcl' hway
            go_wp2_with fail
            go_meet
            exact ⟨by rw [h2], rfl⟩
        case rest =>
          obtain ⟨rfl, hwc⟩ := hcut
          obtain rfl := hwc.symm
          clear hcl' hon hwc
          have hok : ((N : Int) == 1) = ok := by
            rcases hway.out with ⟨h1, _, h3⟩ | ⟨h1, _, h3⟩
            · rw [h1, h3]; rfl
            · rw [h3]; simp; omega
          clear hway
          obtain ⟨_, af, capf, rfl, hcf, hff⟩ := rd_iv f3
          rw [fullL_len] at hcf hff ⊢
          obtain ⟨bf, off, rfl, hfc⟩ := hff (by omega)
          have hrf : Hid (Rd .i64 w3 (.slice (some ⟨bf, off, none⟩) (ns.length + 80) capf) (fullL ns)) := by
            have h := rd_iv f3
            rw [fullL_len] at h; exact h
          have hrp : Hid (Rd .i64 w3 (.slice (some ⟨bf, off, none⟩) ns.length capf) ns) := by
            refine ⟨by omega, _, capf, rfl, by omega, fun _ => ⟨bf, off, rfl, fun j hj => ?_⟩⟩
            rw [hfc j (by omega)]
            exact congrArg (fun z => some (Value.int .i64 z)) (pre_at ns 7 j hj)
          have hro : Hid (Rd .i64 w3 (.slice ao' ns.length cap') ns) := rd_iv o3
          clear hff hfc f3 o3
          have hll : Hid (w3.ownsRow w2.heap.size 3 1 (.slice al N capl) (ids 64 m).length (vals (ids 64 m))) := by
            rw [← hN'.out]; exact hl
          clear hl
          go_wp2_with fail
          refine (of_is _ ns w3 _ hrp.out rfl).mono ?_
          rintro e w' ⟨rfl, he⟩; obtain rfl := he.symm; clear he
          go_wp2_with fail
          refine (intact_any _ _ ns 7 w3 hrf.out hro.out hn20).mono ?_
          rintro e w4 ⟨rfl, d1, he⟩
          have b4 : Below w3.heap.size w3 w4 := by rw [he]; exact below_drewN (Below.refl _ _) d1
          have t4 : Below w.heap.size w w4 := t3.trans (b4.mono t3.size)
          have hT4 := hT.below t4 hT.1
          clear he hrf hrp hro
          go_wp2_with fail
          refine (ids_any m w4 hm hT4).mono ?_
          rintro e w5 ⟨vi, rfl, hvi, b5⟩
          have t5 : Below w.heap.size w w5 := t4.trans (b5.mono t4.size)
          have hll5 : Hid (w5.ownsRow w2.heap.size 3 1 (.slice al N capl) (ids 64 m).length (vals (ids 64 m))) := own_below (own_below hll.out b4) b5
          have hvi5 : Hid (Rd .i64 w5 vi (toI (ids 64 m))) := rd_vals hvi
          clear hll hvi b4 b5 t3 t4 hT3 hT4
          go_wp2_with fail
          refine (same_any _ _ (toI (ids 64 m)) (toI (ids 64 m)) w5 hvi5.out (rd_vals hll5.out) rfl).mono ?_
          rintro e w6 ⟨rfl, d2, he⟩
          have b6 : Below w5.heap.size w5 w6 := by rw [he]; exact below_drewN (Below.refl _ _) d2
          have t6 : Below w.heap.size w w6 := t5.trans (b6.mono t5.size)
          have hT6 := hT.below t6 hT.1
          have hll6 : Hid (Rd .i64 w6 (.slice al N capl) (toI (ids 64 m))) := rd_vals (own_below hll5.out b6)
          clear he hll5 hvi5 b6 t5
          go_wp2_with fail
          refine (count_is w6 m (N : Int) hm (by rw [hN'.out]; rfl)).mono ?_
          rintro e w' ⟨rfl, he⟩; obtain rfl := he.symm; clear he
          go_wp2_with fail
          have hLm : Hid (((ofL (toI (ids 64 m)) : Nat) : Int) = (m : Int)) := by
            have h : ((ofL (toI (ids 64 m)) : Nat) : Int) = (m : Int) := by rw [ofL_ids m hm]
            exact h
          by_cases h0 : 0 ≤ id
          · by_cases h64 : id < 64
            · obtain ⟨k, rfl⟩ := Int.eq_ofNat_of_zero_le h0
              have hk : k < 64 := by omega
              have hsh : bits BinOp.and IntKind.u64 (k : Int) 63 = (k : Int) := and63 k hk
              have hbit := shr_bit m k hm
              have hp : Hid ((decide (0 ≤ (k : Int) ∧ (k : Int) < 64) && m.testBit (k : Int).toNat) = m.testBit k) := by
                have h : (decide (0 ≤ (k : Int) ∧ (k : Int) < 64) && m.testBit (k : Int).toNat) = m.testBit k := by
                  rw [decide_eq_true (⟨h0, h64⟩ : 0 ≤ (k : Int) ∧ (k : Int) < 64)]; simp
                exact h
              refine (has_is w6 m k (m.testBit k) hm hp.out).mono ?_
              rintro e w' ⟨rfl, he⟩; obtain rfl := he.symm; clear he
              go_wp2_with fail
              refine (of_is _ (toI (ids 64 m)) w6 _ hll6.out hLm.out).mono ?_
              rintro e w' ⟨rfl, he⟩; obtain rfl := he.symm; clear he
              go_wp2_with fail
              refine (runs_any w6 hT6).mono ?_
              rintro e w7 ⟨rfl, b7⟩
              go_wp2
              go_ret
              exact ⟨rfl, t6.trans (b7.mono t6.size)⟩
            · have hp : Hid ((decide (0 ≤ id ∧ id < 64) && m.testBit id.toNat) = false) := by
                have h : (decide (0 ≤ id ∧ id < 64) && m.testBit id.toNat) = false := by
                  rw [decide_eq_false (by omega)]; rfl
                exact h
              refine (has_is w6 m id false hm hp.out).mono ?_
              rintro e w' ⟨rfl, he⟩; obtain rfl := he.symm; clear he
              go_wp2_with fail
              refine (of_is _ (toI (ids 64 m)) w6 _ hll6.out hLm.out).mono ?_
              rintro e w' ⟨rfl, he⟩; obtain rfl := he.symm; clear he
              go_wp2_with fail
              refine (runs_any w6 hT6).mono ?_
              rintro e w7 ⟨rfl, b7⟩
              go_wp2
              go_ret
              exact ⟨rfl, t6.trans (b7.mono t6.size)⟩
          · have hp : Hid ((decide (0 ≤ id ∧ id < 64) && m.testBit id.toNat) = false) := by
              have h : (decide (0 ≤ id ∧ id < 64) && m.testBit id.toNat) = false := by
                rw [decide_eq_false (by omega)]; rfl
              exact h
            refine (has_is w6 m id false hm hp.out).mono ?_
            rintro e w' ⟨rfl, he⟩; obtain rfl := he.symm; clear he
            go_wp2_with fail
            refine (of_is _ (toI (ids 64 m)) w6 _ hll6.out hLm.out).mono ?_
            rintro e w' ⟨rfl, he⟩; obtain rfl := he.symm; clear he
            go_wp2_with fail
            refine (runs_any w6 hT6).mono ?_
            rintro e w7 ⟨rfl, b7⟩
            go_wp2
            go_ret
            exact ⟨rfl, t6.trans (b7.mono t6.size)⟩

theorem wf_nat {x : Int} (h : (Lit.int .u64 x).wf = true) : ∃ n : Nat, x = (n : Int) ∧ n < 18446744073709551616 := by
  obtain ⟨h0, h1⟩ := bounds_u64 h
  exact ⟨x.toNat, by omega, by omega⟩
theorem maskTells_walk (a0 : Int) (a1 : Option Addr) (len1 cap1 : Nat) (z1 : List Int) (a2 : Int) (w : World) (w0 : (Lit.int .u64 a0).wf = true) (w1 : IsRow .i64 w a1 len1 cap1 z1) (_w2 : (Lit.int .i64 a2).wf = true) (hT : Tab w) :
    Calls Tryd.prog 4 #[.int .u64 a0, .slice a1 len1 cap1, .int .i64 a2] w fun e w' => e = .returned (.bool true) ∧ Below w.heap.size w w' := by
  obtain ⟨a, rfl, ha⟩ := wf_nat w0
  exact tells_core a a1 len1 cap1 z1 a2 w ha w1 hT
end Go.Proofs.YtmhldbanjlccmaaDoor
