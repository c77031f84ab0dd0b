/- MaskLess, walked: of any two sets, any list of sets and any number it returns true, and nothing that was there is written. -/
import Derived.Test.YtmhldbanjlccmaaDoorOwn
import Derived.Deep.DeepCutAuto
namespace Go.Proofs.YtmhldbanjlccmaaDoor
open Go.RowKit M

def us (l : List Nat) : List Value := (toI l).map (Value.int .u64)
theorem us_len (l : List Nat) : (us l).length = l.length := by simp [us, toI]
theorem us_one (l : List Nat) : ∀ u ∈ us l, u.oneCell' = true := ints_oneCell _ _
theorem us_snoc (l : List Nat) (x : Nat) : us (l ++ [x]) = us l ++ [.int .u64 x] := by simp [us, toI]
theorem rd_us {w : World} {base : Nat} {v : Value} {ns : List Nat} {e : TypeId} (h : w.ownsRow base e 1 v ns.length (us ns)) : Rd .u64 w v (toI ns) :=
  rd_own (zs := toI ns) (by rw [toI_len]; exact h)

/-- The first K of a list that came in, as they are copied. -/
theorem src_ok (w : World) (o : Obj) (x : Addr) (zs : List Int) (K : Nat) (hK : K ≤ zs.length) (hcell : ∀ i, i < zs.length → w.cell? (x.add i) = some (.int .u64 (zs.getD i 0))) (hwf : ∀ n ∈ zs, (Lit.int .u64 n).wf = true) :
    ∃ ns : List Nat, ns.length = K ∧ (∀ y ∈ ns, y < 18446744073709551616) ∧ (us ns).length = K * 1 ∧ ∀ j u, (us ns)[j]? = some u → (w.alloc o).cell? (x.add j) = some u := by
  have hm : ∀ z ∈ zs, 0 ≤ z ∧ z ≤ 18446744073709551615 := fun z hz => bounds_u64 (hwf z hz)
  refine ⟨(zs.take K).map Int.toNat, by simp; omega, ?_, by simp [us, toI]; omega, ?_⟩
  · intro y hy
    obtain ⟨z, hz, rfl⟩ := List.mem_map.1 hy
    have := hm z (List.mem_of_mem_take hz)
    omega
  · intro j u hj
    simp only [us, toI, List.map_map, List.getElem?_map, Option.map_eq_some_iff] at hj
    obtain ⟨z, hz, rfl⟩ := hj
    have hjK : j < K := by
      have := (List.getElem?_eq_some_iff.1 hz).1
      simp at this; omega
    rw [List.getElem?_take_of_lt hjK] at hz
    have hb := hm z (List.mem_of_getElem? hz)
    have hc := hcell j (by omega)
    have hlt : (x.add j).block < w.heap.size := World.block_lt_of_cell? w _ hc
    rw [(below_alloc w o).cell hlt, hc]
    have e1 : zs.getD j 0 = z := by simp [List.getD_eq_getElem?_getD, hz]
    rw [e1]
    show some (Value.int IntKind.u64 z) = some (Value.int IntKind.u64 ((z.toNat : Nat) : Int))
    rw [Int.toNat_of_nonneg hb.1]

theorem own_below {w w' : World} {base : Nat} {e : TypeId} {size : Nat} {v : Value} {n : Nat} {xs : List Value} (h : w.ownsRow base e size v n xs) (hb : Below w.heap.size w w') : w'.ownsRow base e size v n xs := by
  obtain ⟨h1, h | ⟨g, cap, cur, rfl, h2, hh, r⟩⟩ := h
  · exact ⟨h1, .inl h⟩
  · have hg : g < w.heap.size := (Array.getElem?_eq_some_iff.1 hh).1
    exact ⟨h1, .inr ⟨g, cap, cur, rfl, h2, (hb.block g hg).trans hh, r⟩⟩
theorem join_is (v : Value) (ns : List Nat) (w : World) (n : Int) (hv : Rd .u64 w v (toI ns)) (hlt : ∀ x ∈ ns, x < 18446744073709551616) (hn : ((joinL ns : Nat) : Int) = n) :
    Calls Tryd.prog 11 #[v] w fun e w' => e = .returned (.int .u64 n) ∧ w' = w := by rw [← hn]; exact join_any v ns w hv hlt
theorem meet_is (v : Value) (ns : List Nat) (w : World) (n : Int) (hv : Rd .u64 w v (toI ns)) (hlt : ∀ x ∈ ns, x < 18446744073709551616) (hn : ((meetL ns : Nat) : Int) = n) :
    Calls Tryd.prog 12 #[v] w fun e w' => e = .returned (.int .u64 n) ∧ w' = w := by rw [← hn]; exact meet_any v ns w hv hlt
theorem rd_us' {w : World} {base : Nat} {v : Value} {ns : List Nat} {e : TypeId} (h : w.ownsRow base e 1 v ns.length (us ns)) :
    ∃ ao cap, v = .slice ao ns.length cap ∧ ns.length ≤ 9223372036854775807 ∧ (ns.length ≠ 0 → ∃ b off, ao = some ⟨b, off, none⟩ ∧ ∀ j, j < ns.length → w.cell? ⟨b, off + j, none⟩ = some (.int .u64 (ns.getD j 0 : Nat))) := by
  obtain ⟨hl, ao, cap, rfl, _, hc⟩ := rd_us h
  rw [toI_len] at hl hc ⊢
  refine ⟨ao, cap, rfl, hl, fun h0 => ?_⟩
  obtain ⟨b, off, e, hj⟩ := hc h0
  exact ⟨b, off, e, fun j hlt => by rw [hj j hlt, toI_getD]⟩
theorem mem_getD (ns : List Nat) (k : Nat) (h : k < ns.length) : ns.getD k 0 ∈ ns := by
  rw [List.getD_eq_getElem?_getD, List.getElem?_eq_getElem h]; exact List.getElem_mem h
theorem sub_join (ns : List Nat) (x : Nat) (h : x ∈ ns) : decide (x &&& joinL ns = x) = true := by
  rw [decide_eq_true_iff, sub_iff]
  intro i hi
  rw [testBit_joinL]
  exact List.any_eq_true.2 ⟨x, h, hi⟩
theorem meet_sub (ns : List Nat) (x : Nat) (h : x ∈ ns) : decide (meetL ns &&& x = meetL ns) = true := by
  rw [decide_eq_true_iff, sub_iff]
  intro i hi
  rw [testBit_meetL, Bool.and_eq_true] at hi
  exact List.all_eq_true.1 hi.2 x h
theorem join_more (ns : List Nat) (x : Nat) : decide (joinL ns &&& joinL (ns ++ [x]) = joinL ns) = true := by
  rw [decide_eq_true_iff, joinL_snoc, sub_iff]
  intro i hi
  simp [hi]
theorem meet_less (ns : List Nat) (x : Nat) : decide (meetL (ns ++ [x]) &&& meetL ns = meetL (ns ++ [x])) = true := by
  rw [decide_eq_true_iff, meetL_snoc, sub_iff]
  intro i hi
  rw [Nat.testBit_and, Bool.and_eq_true] at hi
  exact hi.1
theorem all_snoc {ns : List Nat} {x : Nat} (h : ∀ y ∈ ns, y < 18446744073709551616) (hx : x < 18446744073709551616) : ∀ y ∈ ns ++ [x], y < 18446744073709551616 := by
  intro y hy
  rcases List.mem_append.1 hy with hy | hy
  · exact h y hy
  · rw [List.mem_singleton.1 hy]; exact hx
theorem or_and_absorb (a b : Nat) : a ||| (a &&& b) = a := by
  apply Nat.eq_of_testBit_eq
  intro i
  simp only [Nat.testBit_or, Nat.testBit_and]
  cases a.testBit i <;> simp
theorem and_or_absorb (a b : Nat) : a &&& (a ||| b) = a := by
  apply Nat.eq_of_testBit_eq
  intro i
  simp only [Nat.testBit_or, Nat.testBit_and]
  cases a.testBit i <;> simp
/-- One more, behind a list of the call's own. -/
theorem one_src (w : World) (x : Nat) : ∀ j u, ([.int .u64 (x : Int)] : List Value)[j]? = some u → (w.alloc (.cells #[.int .u64 (x : Int)] 24)).cell? ((⟨w.heap.size, 0, none⟩ : Addr).add j) = some u := by
  intro j u hj
  match j, hj with
  | 0, hj => simp at hj; subst hj; simp [Addr.add]
theorem own_snoc {w : World} {base : Nat} {v : Value} {ns : List Nat} {e : TypeId} {x : Nat} (h : w.ownsRow base e 1 v (ns.length + 1) (us ns ++ [.int .u64 (x : Int)])) : w.ownsRow base e 1 v (ns ++ [x]).length (us (ns ++ [x])) := by
  rw [us_snoc, List.length_append]; exact h

set_option maxHeartbeats 1000000 in
set_option maxRecDepth 100000 in
theorem less_core (a b : Nat) (ao : Option Addr) (len cap : Nat) (zs : List Int) (i : Int) (w : World) (ha : a < 18446744073709551616) (hb : b < 18446744073709551616) (hrow : IsRow .u64 w ao len cap zs) (hT : Tab w) :
    Calls Tryd.prog 8 #[.int .u64 a, .int .u64 b, .slice ao len cap, .int .i64 i] w fun e w' => e = .returned (.bool true) ∧ Below w.heap.size w w' := by
  obtain ⟨i0, hi, hz0, hz1, hz2⟩ := info_parts Tryd.info24
  have hown0 : (w.alloc (.cells #[] 24)).ownsRow w.heap.size 24 1 (.slice (some ⟨w.heap.size, 0, none⟩) 0 0) 0 [] :=
    World.ownsRow_lit w #[] 0 (Nat.le_refl _) (by unfold maxLen; omega) (by simp)
  go_enter Tryd.func8, Tryd.ntmps8
  go_upto_region 1 with fail
  go_cut [9] (fun v wx => ∃ ns : List Nat, ns.length ≤ 9 ∧ (∀ x ∈ ns, x < 18446744073709551616) ∧ wx.ownsRow w.heap.size 24 1 v ns.length (us ns) ∧ Below w.heap.size w wx)
  case first =>
    rcases hrow with ⟨rfl, rfl, rfl, rfl⟩ | ⟨x, rfl, hlc, hcm, hzl, hcell, hwf⟩
    · go_wp2_with (at_builtin; refine wpList_append_own_none rfl _ _ 41 rfl w.heap.size 24 i0 1 Tryd.underlying41 hi _ 0 [] rfl hown0 rfl ?_)
      go_meet
      exact ⟨[], by simp, by simp, hown0, below_alloc _ _⟩
    · unfold maxLen at hcm
      by_cases h9 : len ≤ 9
      · obtain ⟨ns, hnl, hns, hul, hsrc⟩ := src_ok w (.cells #[] 24) x zs len (by omega) hcell hwf
        clear hcell hwf
        go_wp2_with (at_builtin; refine wpList_append_own _ rfl _ _ 41 rfl w.heap.size 24 i0 (.int .u64 0) 1 8 Tryd.underlying41 hi hz0 hz1 hz2 rfl (by decide) _ 0 [] rfl hown0 x len cap (us ns) rfl hul hsrc (us_one ns) ?c3 ?c4 ?c5 ?_)
        case c3 => unfold maxLen; omega
        case c4 => omega
        case c5 => simp
        intro v' w1 hown' hgrow _
        go_wp2_with fail
        go_meet
        refine ⟨ns, by omega, hns, ?_, (below_alloc w _).grown hgrow (by simp) ?_⟩
        · rw [hnl]; simpa using hown'
        · intro k hk; simp [Value.ownBlock] at hk; omega
      · obtain ⟨ns, hnl, hns, hul, hsrc⟩ := src_ok w (.cells #[] 24) x zs 9 (by omega) hcell hwf
        clear hcell hwf
        go_wp2_with (at_builtin; refine wpList_append_own _ rfl _ _ 41 rfl w.heap.size 24 i0 (.int .u64 0) 1 8 Tryd.underlying41 hi hz0 hz1 hz2 rfl (by decide) _ 0 [] rfl hown0 x 9 cap (us ns) rfl hul hsrc (us_one ns) ?c3 ?c4 ?c5 ?_)
        case c3 => unfold maxLen; omega
        case c4 => omega
        case c5 => simp
        intro v' w1 hown' hgrow _
        go_wp2_with fail
        go_meet
        refine ⟨ns, by omega, hns, ?_, (below_alloc w _).grown hgrow (by simp) ?_⟩
        · rw [hnl]; simpa using hown'
        · intro k hk; simp [Value.ownBlock] at hk; omega
  case rest =>
    obtain ⟨ns, hn9, hns, hown, hbw⟩ := hcut
    clear hown0
    have hJ := joinL_lt ns hns
    have hM := meetL_lt ns
    go_wp2_with fail
    refine (join_any _ ns _ (rd_us hown) hns).mono ?_
    rintro e w' ⟨rfl, he⟩; obtain rfl := he.symm; clear he
    go_wp2_with fail
    refine (meet_any _ ns _ (rd_us hown) hns).mono ?_
    rintro e w' ⟨rfl, he⟩; obtain rfl := he.symm; clear he
    go_wp2_with fail
    refine (within_any i 0 63 wc (by decide) (by decide) (by decide)).mono ?_
    rintro e w' ⟨⟨k, k0, k1, rfl⟩, he⟩; obtain rfl := he.symm; clear he
    go_wp2_with fail
    refine (of1 wc k _ rfl).mono ?_
    rintro e w1 ⟨rfl, b1⟩
    have t1 : Below w.heap.size w w1 := hbw.trans (b1.mono hbw.size)
    have o1 := own_below hown b1
    clear hown hbw b1
    have hB := bitN_lt k
    obtain ⟨ao', cap', rfl, hlen, hcs⟩ := rd_us' o1
    have hcs' : Hid (ns.length ≠ 0 → ∃ b off, ao' = some ⟨b, off, none⟩ ∧ ∀ j, j < ns.length → w1.cell? ⟨b, off + j, none⟩ = some (.int .u64 (ns.getD j 0 : Nat))) := hcs
    clear hcs
    go_wp2_with fail
    go_loop [32] (fun i => ∃ k : Nat, k ≤ ns.length ∧ i = .int .i64 k) (fun i => ns.length - (intOf i).toNat)
    case atStart => exact ⟨0, Nat.zero_le _, rfl⟩
    case round =>
      obtain ⟨n, hn, rfl⟩ := hrel
      by_cases hlt : n < ns.length
      · obtain ⟨b', off', rfl, hcell⟩ := hcs'.out (by omega)
        have hx := hcell n hlt
        have hmem : Hid (ns.getD n 0 ∈ ns) := mem_getD ns n hlt
        have hxl := hns _ hmem.out
        clear hcell hcs'
        obtain ⟨x, hxx⟩ : ∃ x, Hid (ns.getD n 0 = x) := ⟨_, rfl⟩
        rw [hxx.out] at hx hmem hxl
        go_wp2_with fail
        refine (below_is w1 x (joinL ns) true hxl hJ (sub_join ns x hmem.out)).mono ?_
        rintro e w' ⟨rfl, he⟩; obtain rfl := he.symm; clear he
        go_wp2_with fail
        refine (below_is w1 (meetL ns) x true hM hxl (meet_sub ns x hmem.out)).mono ?_
        rintro e w' ⟨rfl, he⟩; obtain rfl := he.symm; clear he
        go_wp2_with fail
        go_round
        case rel => exact ⟨n + 1, by omega, by go_num⟩
        case measure => simp [intOf]; omega
      · clear hcs'
        go_wp2_with fail
        refine (meet2 w1 a b _ ha hb rfl).mono ?_
        rintro e w2 ⟨rfl, b2⟩
        have t2 : Below w.heap.size w w2 := t1.trans (b2.mono t1.size)
        have o2 := own_below o1 b2
        clear b2 o1
        go_wp2_with fail
        refine (join2 w2 a (a &&& b) (a : Int) ha (and_lt a b ha) (by rw [or_and_absorb])).mono ?_
        rintro e w3 ⟨rfl, b3⟩
        have t3 : Below w.heap.size w w3 := t2.trans (b3.mono t2.size)
        have o3 := own_below o2 b3
        clear b3 o2
        go_wp2_with fail
        refine (join2 w3 a b _ ha hb rfl).mono ?_
        rintro e w4 ⟨rfl, b4⟩
        have t4 : Below w.heap.size w w4 := t3.trans (b4.mono t3.size)
        have o4 := own_below o3 b4
        clear b4 o3
        go_wp2_with fail
        refine (meet2 w4 a (a ||| b) (a : Int) ha (or_lt a b ha hb) (by rw [and_or_absorb])).mono ?_
        rintro e w5 ⟨rfl, b5⟩
        have t5 : Below w.heap.size w w5 := t4.trans (b5.mono t4.size)
        have o5 := own_below o4 b5
        clear b5 o4
        go_wp2_with (at_builtin; refine wpList_append_keep _ rfl _ _ 41 rfl w.heap.size 24 i0 (.int .u64 0) 1 8 Tryd.underlying41 hi hz0 hz1 hz2 rfl (by decide) _ ns.length (us ns) rfl (o5.alloc _) ⟨w5.heap.size, 0, none⟩ 1 1 [.int .u64 ((bitN k : Nat) : Int)] rfl rfl (one_src _ _) (us_one [bitN k]) (by unfold maxLen; omega) (by omega) (by have := t5.size; simp; omega) ?_; intro v6 w6 q6 o6 g6)
        have t6 : Below w.heap.size w w6 := (t5.alloc t5.size _).grown g6 (by have := t5.size; simp; omega) (fun k hk => (o5.lt k hk).1)
        have r6 := rd_us (own_snoc q6)
        clear g6 q6 o5
        go_wp2_with fail
        refine (join_is v6 (ns ++ [bitN k]) w6 _ r6 (all_snoc hns hB) rfl).mono ?_
        rintro e w' ⟨rfl, he⟩; obtain rfl := he.symm; clear he
        go_wp2_with fail
        refine (below_is w6 (joinL ns) (joinL (ns ++ [bitN k])) true hJ (joinL_lt _ (all_snoc hns hB)) (join_more _ _)).mono ?_
        rintro e w' ⟨rfl, he⟩; obtain rfl := he.symm; clear he
        clear r6
        go_wp2_with (at_builtin; refine wpList_append_keep _ rfl _ _ 41 rfl w.heap.size 24 i0 (.int .u64 0) 1 8 Tryd.underlying41 hi hz0 hz1 hz2 rfl (by decide) _ ns.length (us ns) rfl (o6.alloc _) ⟨w6.heap.size, 0, none⟩ 1 1 [.int .u64 ((bitN k : Nat) : Int)] rfl rfl (one_src _ _) (us_one [bitN k]) (by unfold maxLen; omega) (by omega) (by have := t6.size; simp; omega) ?_; intro v7 w7 q7 o7 g7)
        have t7 : Below w.heap.size w w7 := (t6.alloc t6.size _).grown g7 (by have := t6.size; simp; omega) (fun k hk => (o6.lt k hk).1)
        have r7 := rd_us (own_snoc q7)
        clear g7 q7 o6
        go_wp2_with fail
        refine (meet_is v7 (ns ++ [bitN k]) w7 _ r7 (all_snoc hns hB) rfl).mono ?_
        rintro e w' ⟨rfl, he⟩; obtain rfl := he.symm; clear he
        go_wp2_with fail
        refine (below_is w7 (meetL (ns ++ [bitN k])) (meetL ns) true (meetL_lt _) hM (meet_less _ _)).mono ?_
        rintro e w' ⟨rfl, he⟩; obtain rfl := he.symm; clear he
        clear r7
        go_wp2_with (at_builtin; refine wpList_append_keep _ rfl _ _ 41 rfl w.heap.size 24 i0 (.int .u64 0) 1 8 Tryd.underlying41 hi hz0 hz1 hz2 rfl (by decide) _ ns.length (us ns) rfl (o7.alloc _) ⟨w7.heap.size, 0, none⟩ 1 1 [.int .u64 ((joinL ns : Nat) : Int)] rfl rfl (one_src _ _) (us_one [joinL ns]) (by unfold maxLen; omega) (by omega) (by have := t7.size; simp; omega) ?_; intro v8 w8 q8 o8 g8)
        have t8 : Below w.heap.size w w8 := (t7.alloc t7.size _).grown g8 (by have := t7.size; simp; omega) (fun k hk => (o7.lt k hk).1)
        have r8 := rd_us (own_snoc q8)
        clear g8 q8 o7
        go_wp2_with fail
        refine (join_is v8 (ns ++ [joinL ns]) w8 ((joinL ns : Nat) : Int) r8 (all_snoc hns hJ) (by rw [joinL_snoc, Nat.or_self])).mono ?_
        rintro e w' ⟨rfl, he⟩; obtain rfl := he.symm; clear he
        clear r8
        go_wp2_with (at_builtin; refine wpList_append_keep _ rfl _ _ 41 rfl w.heap.size 24 i0 (.int .u64 0) 1 8 Tryd.underlying41 hi hz0 hz1 hz2 rfl (by decide) _ ns.length (us ns) rfl (o8.alloc _) ⟨w8.heap.size, 0, none⟩ 1 1 [.int .u64 ((meetL ns : Nat) : Int)] rfl rfl (one_src _ _) (us_one [meetL ns]) (by unfold maxLen; omega) (by omega) (by have := t8.size; simp; omega) ?_; intro v9 w9 q9 o9 g9)
        have t9 : Below w.heap.size w w9 := (t8.alloc t8.size _).grown g9 (by have := t8.size; simp; omega) (fun k hk => (o8.lt k hk).1)
        have r9 := rd_us (own_snoc q9)
        clear g9 q9 o8
        go_wp2_with fail
        refine (meet_is v9 (ns ++ [meetL ns]) w9 ((meetL ns : Nat) : Int) r9 (all_snoc hns hM) (by rw [meetL_snoc, Nat.and_self])).mono ?_
        rintro e w' ⟨rfl, he⟩; obtain rfl := he.symm; clear he
        have hT9 := hT.below t9 hT.1
        go_wp2_with fail
        refine (runs_any w9 hT9).mono ?_
        rintro e w10 ⟨rfl, b10⟩
        go_wp2
        go_ret
        exact ⟨rfl, t9.trans (b10.mono t9.size)⟩

theorem wf_nat {x : Int} (h : (Lit.int .u64 x).wf = true) : ∃ n : Nat, x = (n : Int) ∧ n < 18446744073709551616 := by
  obtain ⟨h0, h1⟩ := bounds_u64 h
  exact ⟨x.toNat, by omega, by omega⟩
theorem maskLess_walk (a0 a1 : Int) (a2 : Option Addr) (len2 cap2 : Nat) (z2 : List Int) (a3 : Int) (w : World) (w0 : (Lit.int .u64 a0).wf = true) (w1 : (Lit.int .u64 a1).wf = true) (w2 : IsRow .u64 w a2 len2 cap2 z2) (_w3 : (Lit.int .i64 a3).wf = true) (hT : Tab w) :
    Calls Tryd.prog 8 #[.int .u64 a0, .int .u64 a1, .slice a2 len2 cap2, .int .i64 a3] w fun e w' => e = .returned (.bool true) ∧ Below w.heap.size w w' := by
  obtain ⟨a, rfl, ha⟩ := wf_nat w0
  obtain ⟨b, rfl, hb⟩ := wf_nat w1
  exact less_core a b a2 len2 cap2 z2 a3 w ha hb w2 hT
end Go.Proofs.YtmhldbanjlccmaaDoor
