/- The statement PipeOnly, for every memory. -/
import Derived.Test.YtimeglhoiibhdaaEdges
import Derived.Test.YtimeglhoiibhdaaRoomyB
namespace Go.Proofs.Ytimeglhoiibhdaa
open Go.RowKit M
theorem IsBytes.below {w w' : World} {a : Option Addr} {len cap B : Nat} {zs : List Int} (h : IsBytes w a len cap zs) (hb : Below B w w') (hB : w.heap.size ≤ B) : IsBytes w' a len cap zs := by
  rcases h with h | ⟨x, rfl, h1, h2, h3, h4, h5⟩
  · exact .inl h
  · refine .inr ⟨x, rfl, h1, h2, h3, fun i hi => ?_, h5⟩
    have c0 := h4 i hi
    have k0 : (x.add i).block < w.heap.size := World.block_lt_of_cell? w _ c0
    exact (hb.cell (Nat.lt_of_lt_of_le k0 hB)).trans c0
/-- The first K bytes of a slice that came in, as they are copied. -/
theorem src_bytes {w : World} {x : Addr} {zs : List Int} {K : Nat} (hK : K ≤ zs.length) (hcell : ∀ i, i < zs.length → w.cell? (x.add i) = some (.int .u8 (zs.getD i 0))) (hlt : ∀ n ∈ zs, 0 ≤ n ∧ n < 256) :
    ∃ ns : List Nat, ns.length = K ∧ (∀ y ∈ ns, y < 256) ∧ ∀ j u, (bv ns)[j]? = some u → w.cell? (x.add j) = some u := by
  refine ⟨(zs.take K).map Int.toNat, by simp; omega, ?_, ?_⟩
  · intro y hy
    obtain ⟨z, hz, rfl⟩ := List.mem_map.1 hy
    have := hlt z (List.mem_of_mem_take hz)
    omega
  · intro j u hj
    have hl : j < K := by
      have h := (List.getElem?_eq_some_iff.1 hj).1
      rw [bv_len, List.length_map, List.length_take] at h
      omega
    have hz : j < zs.length := by omega
    have e : zs.getD j 0 = zs[j] := by simp [List.getD_eq_getElem?_getD, hz]
    have hp := hlt zs[j] (List.getElem_mem hz)
    rw [hcell j hz, e]
    have h2 : (bv ((zs.take K).map Int.toNat))[j]? = some (.int .u8 zs[j]) := by
      simp [bv, toI, List.getElem?_take_of_lt hl, hz]
      omega
    rw [h2] at hj
    exact hj
theorem own_emptyB (w : World) : (w.alloc (.cells #[] 5)).ownsRow w.heap.size 5 1 (.slice (some ⟨w.heap.size, 0, none⟩) 0 0) 0 [] :=
  World.ownsRow_lit w #[] 0 (Nat.le_refl _) (by unfold maxLen; omega) (by simp)
theorem bv_at (l : List Nat) (j : Nat) (h : j < l.length) : (bv l)[j]? = some (.int .u8 (l.getD j 0 : Nat)) := by
  simp [bv, toI, List.getD_eq_getElem?_getD, h]
theorem own_src {w : World} {base g cp : Nat} {l : List Nat} {e : TypeId} (h : w.ownsRow base e 1 (.slice (some ⟨g, 0, none⟩) l.length cp) l.length (bv l)) : ∀ j u, (bv l)[j]? = some u → w.cell? ((⟨g, 0, none⟩ : Addr).add j) = some u := by
  intro j u hj
  have hl := (List.getElem?_eq_some_iff.1 hj).1
  rw [bv_len] at hl
  have := h.cellAt j (by omega)
  rw [Addr.add_lit, Nat.zero_add, this]
  exact hj
theorem xor_u8 (a b : Int) : 0 ≤ bits BinOp.xor IntKind.u8 a b ∧ bits BinOp.xor IntKind.u8 a b < 256 := by
  show 0 ≤ IntKind.u8.wrap _ ∧ IntKind.u8.wrap _ < 256
  rw [IntKind.wrap_u8]
  omega
theorem bv_set (l : List Nat) (j y : Nat) : (bv l).set j (.int .u8 (y : Int)) = bv (l.set j y) := by
  simp [bv, toI, List.map_set]
/-- The first bytes of a list. -/
theorem rd_take {w : World} {base g cp : Nat} {l : List Nat} {e : TypeId} (h : w.ownsRow base e 1 (.slice (some ⟨g, 0, none⟩) l.length cp) l.length (bv l)) (K : Nat) (hK : K ≤ l.length) (hcp : l.length ≤ cp) (hcm : cp ≤ 9223372036854775807) : Rd .u8 w (.slice (some ⟨g, 0, none⟩) K cp) (toI (l.take K)) := by
  have hl : (toI (l.take K)).length = K := by rw [toI_len, List.length_take]; omega
  refine ⟨by omega, _, cp, by rw [hl], by omega, hcm, fun _ => ⟨g, 0, rfl, fun j hj => ?_⟩⟩
  rw [hl] at hj
  have := h.cellAt j (by omega)
  rw [Nat.zero_add, this, bv_at l j (by omega), toI_getD]
  simp [List.getD_eq_getElem?_getD, List.getElem?_take_of_lt hj]
theorem rd_prefix {k : IntKind} {w : World} {ao : Option Addr} {N cap : Nat} {xs ys : List Int} (h : Rd k w (.slice ao N cap) (xs ++ ys)) : Rd k w (.slice ao xs.length cap) xs := by
  obtain ⟨h1, ao', cap', he, h2, h3, hc⟩ := h
  injection he with e1 e2 e3
  subst e1 e3
  rw [List.length_append] at h1 h2
  refine ⟨by omega, _, _, rfl, by omega, h3, fun h0 => ?_⟩
  obtain ⟨b, off, rfl, hcell⟩ := hc (by rw [List.length_append]; omega)
  refine ⟨b, off, rfl, fun j hj => ?_⟩
  rw [hcell j (by rw [List.length_append]; omega)]
  simp [List.getD_eq_getElem?_getD, List.getElem?_append_left hj]
theorem zero_fits : PFits ⟨[], 0, 0, 0, 0, 0⟩ := by
  refine ⟨(fun o ho => by cases ho), ?_, ?_, ?_, ?_, ?_⟩
  all_goals exact ⟨by decide, by decide⟩
theorem small_len {p : Pq} (h : Small p) : (enc p).length ≤ 14 := by
  rw [enc_of (small_right h)]
  obtain ⟨h1, h2, h3, h4, h5, h6, h7, h8, h9, h10, h11, h12⟩ := h
  have hone : ∀ l : List Int, (∀ z ∈ l, -64 ≤ z ∧ z ≤ 63) → (put l).length = l.length := by
    intro l
    induction l with
    | nil => intro _; rfl
    | cons z l ih =>
      intro hz
      have := hz z (List.mem_cons_self ..)
      rw [put_cons, List.length_append, ih (fun y hy => hz y (List.mem_cons_of_mem _ hy)), leb_small _ (by unfold zz; split <;> omega)]
      simp; omega
  rw [hone, nums_len]
  · omega
  · intro z hz
    simp only [nums, List.cons_append, List.nil_append, List.mem_cons] at hz
    rcases hz with rfl | rfl | rfl | rfl | rfl | rfl | hz
    all_goals first | omega | skip
    simp only [opInts, List.mem_flatMap, List.mem_cons, List.not_mem_nil, or_false] at hz
    obtain ⟨o, ho, rfl | rfl⟩ := hz
    · have := h2 o ho; omega
    · have := h2 o ho; omega
set_option maxHeartbeats 4000000 in
set_option maxRecDepth 100000 in
theorem only_core (ao : Option Addr) (lo co : Nat) (an : Option Addr) (ln cn : Nat) (n s a k f : Int) (ra : Option Addr) (rl rc : Nat) (zs : List Int) (x2 x3 x4 : Int) (w : World) (ho : Ints w ao lo co) (hn : Ints w an ln cn) (hraw : IsBytes w ra rl rc zs) :
    Calls Try.prog 5 #[kv (.slice ao lo co) (.slice an ln cn) n s a k f, .slice ra rl rc, .int .i64 x2, .int .u8 x3, .int .i64 x4] w fun e w' => e = .returned (.bool true) ∧ Below w.heap.size w w' := by
  obtain ⟨i0, hi, hz0, hz1, hz2⟩ := info_parts Try.info5
  have hraw' : Hid (IsBytes w ra rl rc zs) := hraw
  clear hraw
  go_enter Try.func5, Try.ntmps5
  go_upto_region 1 with fail
  refine world_gen (fun W => Kpk W w.heap.size (.slice ao lo co) (.slice an ln cn) n s a k f ∧ Ints W ao lo co ∧ Ints W an ln cn ∧ Below w.heap.size w W)
    ⟨kpk_new _ _ _ _ _ _ _ _, ho.call (below_alloc _ _), hn.call (below_alloc _ _), below_alloc _ _⟩ ?_
  clear ho hn
  rintro W0 ⟨k0, ho, hn, b0⟩
  obtain ⟨g, hg⟩ : ∃ g, Hid (w.heap.size = g) := ⟨_, rfl⟩
  rw [hg.out] at k0 ⊢
  have kA := k0.call (below_alloc W0 (.cells #[] 5))
  have c0 := kA.c0
  have c1 := kA.c1
  have c2 := kA.c2
  have c3 := kA.c3
  have c4 := kA.c4
  have c5 := kA.c5
  have c6 := kA.c6
  have hemp := own_emptyB W0
  go_wp2_with fail
  refine (keep_any ao lo co an ln cn n s a k f _ (ho.call (below_alloc _ _)) (hn.call (below_alloc _ _))).mono ?_
  rintro e w1 ⟨p, u, hsm, rfl, o1, _, b1⟩
  have hr : Hid (rightP p = true) := small_right hsm
  have hf : Hid (PFits p) := small_fits hsm
  have hlen := small_len hsm
  have rd1 : Hid (RdO w1 u p.os) := rd_opl o1 rfl hf.out.1
  have hemp1 := own_below hemp b1
  have bb1 := bstep b0 b1
  have b1s := b1.size
  clear o1 hsm c0 c1 c2 c3 c4 c5 c6 k0 kA ho hn hemp b1
  go_wp2_with fail
  refine (enc_any _ p _ rd1.out hf.out).mono ?_
  rintro e w2 ⟨ub, rfl, o2, b2⟩
  obtain ⟨gb, cb, rfl, _, _, _, _⟩ := own_form1 o2 (enc_len hr.out)
  have hemp2 := own_below hemp1 b2
  have bb2 := bcall bb1 b2
  have hE := enc_len hr.out
  have hbt : Hid (∀ c ∈ enc p, c < 256) := by rw [enc_of hr.out]; exact put_bytes _
  obtain ⟨l, hl⟩ : ∃ l, Hid (enc p = l) := ⟨_, rfl⟩
  rw [hl.out] at o2 hE hlen hbt ⊢
  have hb02 : W0.heap.size ≤ w2.heap.size := Nat.le_trans (Nat.le_trans (by simp) b1s) b2.size
  go_upto_region 2 with (at_builtin; refine wpList_append_own _ rfl _ _ 27 rfl W0.heap.size 5 i0 (.int .u8 0) 1 1 Try.underlying27 hi hz0 hz1 hz2 rfl (by decide) (.slice (some ⟨W0.heap.size, 0, none⟩) 0 0) 0 [] rfl hemp2 ⟨gb, 0, none⟩ l.length cb (bv l) rfl (by rw [bv_len, Nat.mul_one]) (own_src o2) (bv_one l) (by unfold maxLen; omega) (by omega) hb02 ?_; intro vb w3 hown3 hgrow3 hnil3)
  have hown3' : w3.ownsRow W0.heap.size 5 1 vb l.length (bv l) := by simpa using hown3
  obtain ⟨g3, cp, rfl, hcp1, hcp2, hg3, hg3'⟩ := own_form1 hown3' hE
  have hb3 : Below W0.heap.size w2 w3 := (Below.refl _ w2).grown hgrow3 hb02 (fun k hk => by simp [Value.ownBlock] at hk; omega)
  have bb3 : Below w.heap.size w w3 := bb2.trans (hb3.mono b0.size)
  have hb0s := b0.size
  obtain ⟨L, hL⟩ : ∃ L, Hid (l.length = L) := ⟨_, rfl⟩
  rw [hL.out] at hE hlen hcp1 ⊢
  have hown3L : w3.ownsRow W0.heap.size 5 1 (.slice (some ⟨g3, 0, none⟩) L cp) L (bv l) := by rw [← hL.out]; exact hown3'
  have hE' : ((L : Int) == 0) = false := by simp; omega
  clear hown3 hgrow3 hnil3 hemp2 hemp1 o2 rd1 bb1 bb2 b2 b1s b0 hb3 hb02
  go_wp2_with fail
  refine (within_any x2 0 ((L : Int) - 1) _ (by omega) (by omega) (by omega)).mono ?_
  rintro e w' ⟨⟨iz, hi1, hi2, rfl⟩, he⟩; obtain rfl := he.symm; clear he
  obtain ⟨i, rfl⟩ : ∃ i : Nat, iz = (i : Int) := ⟨iz.toNat, by omega⟩
  have hiL : i < L := by omega
  go_wp2_with fail
  refine (within_any x4 0 3 _ (by omega) (by omega) (by omega)).mono ?_
  rintro e w' ⟨⟨q, hq1, hq2, rfl⟩, he⟩; obtain rfl := he.symm; clear he hE'
  go_upto_block 0 with fail
  go_cut [11] (fun u wx => ∃ bs : List Nat, bs.length ≤ 60 ∧ Hid (∀ c ∈ bs, c < 256) ∧ (∃ ab cb, u = .slice ab bs.length cb) ∧ Hid (Rd .u8 wx u (toI bs)) ∧ Below w.heap.size w wx)
  case first =>
    obtain rfl | rfl | rfl | rfl : q = 0 ∨ q = 1 ∨ q = 2 ∨ q = 3 := by omega
    · have hc := hown3'.cellAt i (by have := hL.out; omega)
      rw [bv_at l i (by have := hL.out; omega)] at hc
      have hfz := hown3'.frozenAt i
      obtain ⟨c, hcn⟩ : ∃ c, Hid (l.getD i 0 = c) := ⟨_, rfl⟩
      rw [hcn.out] at hc
      obtain ⟨y, hy⟩ : ∃ y : Nat, bits BinOp.xor IntKind.u8 (c : Int) x3 = (y : Int) := ⟨(bits BinOp.xor IntKind.u8 (c : Int) x3).toNat, by have := xor_u8 (c : Int) x3; omega⟩
      have hy2 : y < 256 := by have := xor_u8 (c : Int) x3; omega
      have hst := (hown3'.stored i (.int .u8 (y : Int))).1
      rw [bv_set] at hst
      have hi0 : (0 : Int) ≤ (i : Int) := by omega
      have hi9 : (i : Int) < (L : Int) := by omega
      go_wp2_with fail
      go_meet
      have hl2 : (l.set i y).length = L := by rw [List.length_set]; exact hL.out
      refine ⟨l.set i y, by omega, ?_, ⟨_, _, by rw [hl2]⟩, ?_, bb3.setCell (show w.heap.size ≤ g3 by omega) _⟩
      · intro z hz
        rcases List.mem_or_eq_of_mem_set hz with h | h
        · exact hbt.out z h
        · rw [h]; exact hy2
      · have h2 : (w3.setCell ⟨g3, i, none⟩ (.int .u8 (y : Int))).ownsRow W0.heap.size 5 1 (.slice (some ⟨g3, 0, none⟩) (l.set i y).length cp) (l.set i y).length (bv (l.set i y)) := by
          rw [List.length_set]; exact hst
        have h3 := rd_bv h2
        rw [hl2] at h3
        exact h3
    · have hiC : i ≤ cp := by omega
      have hi0 : (0 : Int) ≤ (i : Int) := by omega
      have hi9 : (i : Int) ≤ (cp : Int) := by omega
      go_wp2_with fail
      go_meet
      have hl2 : (l.take i).length = i := by rw [List.length_take]; have := hL.out; omega
      refine ⟨l.take i, by omega, fun z hz => hbt.out z (List.mem_of_mem_take hz), ⟨_, _, by rw [hl2]⟩, ?_, bb3⟩
      exact rd_take hown3' i (by have := hL.out; omega) (by have := hL.out; omega) hcp2
    · have hrow := hraw'.out.below bb3 (Nat.le_refl _)
      rcases hrow with ⟨rfl, rfl, rfl, rfl⟩ | ⟨x, rfl, hlc, hcm, hzl, hcell, hwf⟩
      · go_wp2_with (at_builtin; refine wpList_append_own_none rfl _ _ 27 rfl W0.heap.size 5 i0 1 Try.underlying27 hi (.slice (some ⟨g3, 0, none⟩) L cp) L (bv l) rfl hown3L rfl ?_)
        go_meet
        exact ⟨l, by have := hL.out; omega, hbt.out, ⟨_, _, by rw [hL.out]⟩, by have h := rd_bv hown3'; rw [hL.out] at h; exact h, bb3⟩
      · unfold maxLen at hcm
        obtain ⟨K, hK, hKz, hKe⟩ : ∃ K, K ≤ 10 ∧ K ≤ zs.length ∧ ((rl ≤ 10 ∧ K = rl) ∨ (10 < rl ∧ K = 10)) := by
          by_cases h20 : rl ≤ 10
          · exact ⟨rl, h20, by omega, .inl ⟨h20, rfl⟩⟩
          · exact ⟨10, by decide, by omega, .inr ⟨by omega, rfl⟩⟩
        obtain ⟨ns, hnl, hns, hsrc⟩ := src_bytes hKz hcell hwf
        clear hcell hwf
        rcases hKe with ⟨h20, rfl⟩ | ⟨h20, rfl⟩
        · have hmin : min ((K : Int)) 10 = (K : Int) := by omega
          go_wp2_with (at_builtin; refine wpList_append_own _ rfl _ _ 27 rfl W0.heap.size 5 i0 (.int .u8 0) 1 1 Try.underlying27 hi hz0 hz1 hz2 rfl (by decide) (.slice (some ⟨g3, 0, none⟩) L cp) L (bv l) rfl hown3L x K rc (bv ns) rfl (by rw [bv_len, Nat.mul_one]; exact hnl) hsrc (bv_one ns) (by unfold maxLen; have := hL.out; omega) (by have := hL.out; omega) (by omega) ?_)
          intro v' w4 hown4 hgrow4 _
          go_wp2_with fail
          go_meet
          have hll : (l ++ ns).length = l.length + K := by rw [List.length_append, hnl]
          have hown5 : w4.ownsRow W0.heap.size 5 1 v' (l ++ ns).length (bv (l ++ ns)) := by rw [bv_append, hll, hL.out]; exact hown4
          refine ⟨l ++ ns, by have := hL.out; omega, ?_, own_some1 hown5, rd_bv hown5, (bb3.mono (Nat.le_refl _)).trans (((Below.refl W0.heap.size w3).grown hgrow4 (by omega) (fun k hk => by simp [Value.ownBlock] at hk; omega)).mono hb0s)⟩
          intro z hz
          rcases List.mem_append.1 hz with h | h
          · exact hbt.out z h
          · exact hns z h
        · have hmin : min ((rl : Int)) 10 = 10 := by omega
          go_wp2_with (at_builtin; refine wpList_append_own _ rfl _ _ 27 rfl W0.heap.size 5 i0 (.int .u8 0) 1 1 Try.underlying27 hi hz0 hz1 hz2 rfl (by decide) (.slice (some ⟨g3, 0, none⟩) L cp) L (bv l) rfl hown3L x 10 rc (bv ns) rfl (by rw [bv_len, Nat.mul_one]; exact hnl) hsrc (bv_one ns) (by unfold maxLen; have := hL.out; omega) (by have := hL.out; omega) (by omega) ?_)
          intro v' w4 hown4 hgrow4 _
          go_wp2_with fail
          go_meet
          have hll : (l ++ ns).length = l.length + 10 := by rw [List.length_append, hnl]
          have hown5 : w4.ownsRow W0.heap.size 5 1 v' (l ++ ns).length (bv (l ++ ns)) := by rw [bv_append, hll, hL.out]; exact hown4
          refine ⟨l ++ ns, by have := hL.out; omega, ?_, own_some1 hown5, rd_bv hown5, (bb3.mono (Nat.le_refl _)).trans (((Below.refl W0.heap.size w3).grown hgrow4 (by omega) (fun k hk => by simp [Value.ownBlock] at hk; omega)).mono hb0s)⟩
          intro z hz
          rcases List.mem_append.1 hz with h | h
          · exact hbt.out z h
          · exact hns z h
    · have hrow := hraw'.out.below (bnew bb3 (.cells #[] 5)) (Nat.le_refl _)
      have hemp := own_emptyB w3
      rcases hrow with ⟨rfl, rfl, rfl, rfl⟩ | ⟨x, rfl, hlc, hcm, hzl, hcell, hwf⟩
      · go_wp2_with (at_builtin; refine wpList_append_own_none rfl _ _ 27 rfl w3.heap.size 5 i0 1 Try.underlying27 hi (.slice (some ⟨w3.heap.size, 0, none⟩) 0 0) 0 [] rfl hemp rfl ?_)
        go_meet
        exact ⟨[], by simp, (fun c hc => by cases hc), ⟨_, _, rfl⟩, rd_bv (l := []) hemp, bnew bb3 _⟩
      · unfold maxLen at hcm
        obtain ⟨K, hK, hKz, hKe⟩ : ∃ K, K ≤ 40 ∧ K ≤ zs.length ∧ ((rl ≤ 40 ∧ K = rl) ∨ (40 < rl ∧ K = 40)) := by
          by_cases h20 : rl ≤ 40
          · exact ⟨rl, h20, by omega, .inl ⟨h20, rfl⟩⟩
          · exact ⟨40, by decide, by omega, .inr ⟨by omega, rfl⟩⟩
        obtain ⟨ns, hnl, hns, hsrc⟩ := src_bytes hKz hcell hwf
        clear hcell hwf
        rcases hKe with ⟨h20, rfl⟩ | ⟨h20, rfl⟩
        · have hmin : min ((K : Int)) 40 = (K : Int) := by omega
          go_wp2_with (at_builtin; refine wpList_append_own _ rfl _ _ 27 rfl w3.heap.size 5 i0 (.int .u8 0) 1 1 Try.underlying27 hi hz0 hz1 hz2 rfl (by decide) (.slice (some ⟨w3.heap.size, 0, none⟩) 0 0) 0 [] rfl hemp x K rc (bv ns) rfl (by rw [bv_len, Nat.mul_one]; exact hnl) hsrc (bv_one ns) (by unfold maxLen; omega) (by omega) (by simp) ?_)
          intro v' w4 hown4 hgrow4 _
          go_wp2_with fail
          go_meet
          have hown5 : w4.ownsRow w3.heap.size 5 1 v' ns.length (bv ns) := by rw [hnl]; simpa using hown4
          refine ⟨ns, by omega, hns, own_some1 hown5, rd_bv hown5, (bnew bb3 _).trans (((Below.refl w3.heap.size _).grown hgrow4 (by simp) (fun k hk => by simp [Value.ownBlock] at hk; omega)).mono bb3.size)⟩
        · have hmin : min ((rl : Int)) 40 = 40 := by omega
          go_wp2_with (at_builtin; refine wpList_append_own _ rfl _ _ 27 rfl w3.heap.size 5 i0 (.int .u8 0) 1 1 Try.underlying27 hi hz0 hz1 hz2 rfl (by decide) (.slice (some ⟨w3.heap.size, 0, none⟩) 0 0) 0 [] rfl hemp x 40 rc (bv ns) rfl (by rw [bv_len, Nat.mul_one]; exact hnl) hsrc (bv_one ns) (by unfold maxLen; omega) (by omega) (by simp) ?_)
          intro v' w4 hown4 hgrow4 _
          go_wp2_with fail
          go_meet
          have hown5 : w4.ownsRow w3.heap.size 5 1 v' ns.length (bv ns) := by rw [hnl]; simpa using hown4
          refine ⟨ns, by omega, hns, own_some1 hown5, rd_bv hown5, (bnew bb3 _).trans (((Below.refl w3.heap.size _).grown hgrow4 (by simp) (fun k hk => by simp [Value.ownBlock] at hk; omega)).mono bb3.size)⟩
  case rest =>
    obtain ⟨bs, hbl, hbb, ⟨ab, cb, rfl⟩, rdb, bw⟩ := hcut
    clear hown3' hown3L bb3
    obtain ⟨M, hM⟩ : ∃ M, Hid (bs.length = M) := ⟨_, rfl⟩
    rw [hM.out] at hbl rdb ⊢
    go_wp2_with fail
    refine (roomy_any _ (toI bs) 7 _ rdb.out (by rw [toI_len, hM.out]; exact hbl)).mono ?_
    rintro e w5 ⟨uf, rfl, o5, b5⟩
    have hlen5 : (toI bs ++ List.replicate 80 (7 : Int)).length = M + 80 := by rw [List.length_append, toI_len, hM.out, List.length_replicate]
    have rdF0 := rd_own o5
    obtain ⟨gf, cf, rfl, hcf1, hcf2, _, hgf⟩ := own_form1 o5 (by rw [hlen5]; omega)
    rw [hlen5] at rdF0 hcf1 ⊢
    have rdF : Hid (Rd .u8 w5 (.slice (some ⟨gf, 0, none⟩) (M + 80) cf) (toI bs ++ List.replicate 80 7)) := rdF0
    have rdP : Hid (Rd .u8 w5 (.slice (some ⟨gf, 0, none⟩) M cf) (toI bs)) := by have h := rd_prefix rdF0; rw [toI_len, hM.out] at h; exact h
    have rdb5 : Hid (Rd .u8 w5 (.slice ab M cb) (toI bs)) := rdb.out.call b5
    have bw5 := bcall bw b5
    clear rdF0 o5 rdb bw b5
    have hM0 : (0 : Int) ≤ (M : Int) := by omega
    have hM1 : (M : Int) ≤ (cf : Int) := by omega
    have hM2 : M ≤ cf := by omega
    go_wp2_with fail
    refine (dec_any _ bs _ rdP.out hbb.out).mono ?_
    rintro e w6 (⟨q, x, h1, h2, h3, rfl, h5, _, b6⟩ | ⟨hno, rfl, b6⟩)
    · obtain ⟨xa, xc, rfl⟩ := own_some2 h5
      have rx : Hid (RdO w6 (.slice xa q.os.length xc) q.os) := rd_opl h5 rfl h2.1
      have hq1' : Hid (rightP q = true) := h1
      have hq2' : Hid (PFits q) := h2
      have hq3' : Hid (enc q = bs) := by have h := enc_of h1; rw [h3] at h; exact h
      have rdF6 : Hid (Rd .u8 w6 _ _) := rdF.out.call b6
      have rdb6 : Hid (Rd .u8 w6 _ _) := rdb5.out.call b6
      have bw6 := bcall bw5 b6
      obtain ⟨XL, hXL⟩ : ∃ L, Hid (q.os.length = L) := ⟨_, rfl⟩
      rw [hXL.out] at rx ⊢
      obtain ⟨qo, qn, qs, qa, qk, qf⟩ := q
      clear h1 h2 h3 h5 rdF rdP rdb5 bw5 b6 hM0 hM1 hM2
      simp only at rx hXL ⊢
      go_upto_region 15 with fail
      refine world_gen (fun W => Pik W w6.heap.size (.slice xa XL xc) qn qs qa qk qf ∧ Hid (RdO W (.slice xa XL xc) qo) ∧ Hid (Rd .u8 W (.slice (some ⟨gf, 0, none⟩) (M + 80) cf) (toI bs ++ List.replicate 80 7)) ∧ Hid (Rd .u8 W (.slice ab M cb) (toI bs)) ∧ Below w.heap.size w W)
        ⟨pik_new _ _ _ _ _ _ _, rx.out.call (below_alloc _ _), rdF6.out.call (below_alloc _ _), rdb6.out.call (below_alloc _ _), bnew bw6 _⟩ ?_
      clear rx rdF6 rdb6 bw6
      rintro W7 ⟨p7, rx, rdF, rdb, bw⟩
      generalize w6.heap.size = gx at p7 ⊢
      go_wp2_with fail
      refine (intact_any _ _ (toI bs) 7 _ rdF.out rdb.out (by rw [toI_len, hM.out]; exact hbl)).mono ?_
      rintro e w8 ⟨rfl, b8⟩
      have p8 := p7.call b8
      have rx8 : Hid (RdO w8 _ qo) := rx.out.call b8
      have rdb8 : Hid (Rd .u8 w8 _ _) := rdb.out.call b8
      have bw8 := bcall bw b8
      clear p7 rx rdF rdb bw b8
      have c0 := p8.c0
      have c1 := p8.c1
      have c2 := p8.c2
      have c3 := p8.c3
      have c4 := p8.c4
      have c5 := p8.c5
      go_wp2_with fail
      refine (pright_is _ qo qn qs qa qk qf true _ rx8.out hq1'.out).mono ?_
      rintro e w9 ⟨rfl, b9⟩
      have p9 := p8.call b9
      have rx9 : Hid (RdO w9 _ qo) := rx8.out.call b9
      have rdb9 : Hid (Rd .u8 w9 _ _) := rdb8.out.call b9
      have bw9 := bcall bw8 b9
      clear p8 rx8 rdb8 bw8 b9 c0 c1 c2 c3 c4 c5
      have c0 := p9.c0
      have c1 := p9.c1
      have c2 := p9.c2
      have c3 := p9.c3
      have c4 := p9.c4
      have c5 := p9.c5
      go_wp2_with fail
      refine (enc_any _ ⟨qo, qn, qs, qa, qk, qf⟩ _ rx9.out hq2'.out).mono ?_
      rintro e wa ⟨ue, rfl, oe, ba⟩
      rw [hq3'.out] at oe
      have rde := rd_bv oe
      have rdba := rdb9.out.call ba
      have bwa := bcall bw9 ba
      clear p9 rx9 rdb9 bw9 ba c0 c1 c2 c3 c4 c5 oe
      go_wp2_with fail
      refine (same_bytes _ _ bs bs _ true rde rdba (by simp)).mono ?_
      rintro e wb ⟨rfl, bb⟩
      have bwb := bcall bwa bb
      clear rde rdba bwa bb
      go_wp2_with fail
      refine (pipeRuns_walk wb).mono ?_
      rintro e wc ⟨rfl, bc⟩
      go_wp2
      go_ret
      exact ⟨rfl, bcall bwb bc⟩
    · have rdF6 : Hid (Rd .u8 w6 _ _) := rdF.out.call b6
      have rdb6 : Hid (Rd .u8 w6 _ _) := rdb5.out.call b6
      have bw6 := bcall bw5 b6
      clear rdF rdP rdb5 bw5 b6 hM0 hM1 hM2 hno
      go_upto_region 15 with fail
      refine world_gen (fun W => Pik W w6.heap.size (.slice none 0 0) 0 0 0 0 0 ∧ Hid (Rd .u8 W (.slice (some ⟨gf, 0, none⟩) (M + 80) cf) (toI bs ++ List.replicate 80 7)) ∧ Hid (Rd .u8 W (.slice ab M cb) (toI bs)) ∧ Below w.heap.size w W)
        ⟨pik_new _ _ _ _ _ _ _, rdF6.out.call (below_alloc _ _), rdb6.out.call (below_alloc _ _), bnew bw6 _⟩ ?_
      clear rdF6 rdb6 bw6
      rintro W7 ⟨p7, rdF, rdb, bw⟩
      generalize w6.heap.size = gx at p7 ⊢
      go_wp2_with fail
      refine (intact_any _ _ (toI bs) 7 _ rdF.out rdb.out (by rw [toI_len, hM.out]; exact hbl)).mono ?_
      rintro e w8 ⟨rfl, b8⟩
      have p8 := p7.call b8
      have bw8 := bcall bw b8
      clear p7 rdF rdb bw b8
      have c0 := p8.c0
      have c1 := p8.c1
      have c2 := p8.c2
      have c3 := p8.c3
      have c4 := p8.c4
      have c5 := p8.c5
      go_wp2_with fail
      refine (pipes_is _ _ ⟨[], 0, 0, 0, 0, 0⟩ ⟨[], 0, 0, 0, 0, 0⟩ true _ (rdo_none _) (rdo_none _) (by simp)).mono ?_
      rintro e w9 ⟨rfl, b9⟩
      have bw9 := bcall bw8 b9
      clear p8 bw8 b9 c0 c1 c2 c3 c4 c5
      go_wp2_with fail
      refine (pipeRuns_walk w9).mono ?_
      rintro e wc ⟨rfl, bc⟩
      go_wp2
      go_ret
      exact ⟨rfl, bcall bw9 bc⟩
theorem pipeOnly_walk (a0 : KeepIn) (a1 : Option Addr) (len1 cap1 : Nat) (z1 : List Int) (a2 a3 a4 : Int) (w : World) (w0 : IsKeep w a0) (w1 : IsBytes w a1 len1 cap1 z1) (_ : (Lit.int .i64 a2).wf = true) (_ : (Lit.int .u8 a3).wf = true) (_ : (Lit.int .i64 a4).wf = true) :
    Calls Try.prog 5 #[kin a0, .slice a1 len1 cap1, .int .i64 a2, .int .u8 a3, .int .i64 a4] w fun e w' => e = .returned (.bool true) ∧ Below w.heap.size w w' :=
  only_core a0.ao a0.lo a0.co a0.an a0.ln a0.cn a0.n a0.s a0.g a0.k a0.f a1 len1 cap1 z1 a2 a3 a4 w w0.1 w0.2 w1
end Go.Proofs.Ytimeglhoiibhdaa
