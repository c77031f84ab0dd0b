/- EventTells, walked: of any event and any list of events it returns true, and nothing that was there is written. -/
import Derived.Test.YtakemkfnaebmiaaOwn
import Derived.Test.YtakemkfnaebmiaaRuns
import Derived.Deep.DeepCutAuto
namespace Go.Proofs.Ytakemkfnaebmiaa
open Go.RowKit M

theorem isRow_below {w w' : World} {a : Option Addr} {len cap : Nat} {es : List Ev} (h : IsRowE w a len cap es) (hb : Below w.heap.size w w') : IsRowE w' a len cap es := by
  rcases h with h | ⟨x, rfl, h1, h2, h3, h4, h5⟩
  · exact .inl h
  · refine .inr ⟨x, rfl, h1, h2, h3, fun i hi => ?_, h5⟩
    obtain ⟨c0, c1, c2, c3⟩ := h4 i hi
    exact ⟨(hb.cell (World.block_lt_of_cell? w _ c0)).trans c0, (hb.cell (World.block_lt_of_cell? w _ c1)).trans c1, (hb.cell (World.block_lt_of_cell? w _ c2)).trans c2, (hb.cell (World.block_lt_of_cell? w _ c3)).trans c3⟩
theorem box_at (w : World) (a : Ev) : EvAt (w.alloc (.cells #[.int .i64 a.t, .int .i64 a.k, .int .i64 a.v, .int .u64 a.l] 24)) w.heap.size 0 a :=
  ⟨by simp, by simp, by simp, by simp⟩

theorem rdE_below {w w' : World} {v : Value} {es : List Ev} (h : RdE w v es) (hb : Below w.heap.size w w') : RdE w' v es := by
  obtain ⟨h1, h2, ao, cap, rfl, h3, h4, h5⟩ := h
  refine ⟨h1, h2, ao, cap, rfl, h3, h4, fun h0 => ?_⟩
  obtain ⟨b, off, rfl, hlt, hc⟩ := h5 h0
  exact ⟨b, off, rfl, Nat.lt_of_lt_of_le hlt hb.size, fun j hj => (hc j hj).below hb hlt⟩
set_option maxHeartbeats 1000000 in
set_option maxRecDepth 100000 in
theorem tells_core (a : Ev) (ao : Option Addr) (len cap : Nat) (es : List Ev) (w : World) (hal : a.l < 18446744073709551616) (hrow0 : IsRowE w ao len cap es) :
    Calls Try.prog 4 #[ev a, .slice ao len cap] w fun e w' => e = .returned (.bool true) ∧ Below w.heap.size w w' := by
  obtain ⟨i0, hi, hz0, hz1, hz2⟩ := info_parts Try.info24
  have hbox : Hid _ := box_at w a
  have hrow := isRow_below hrow0 (below_alloc w (.cells #[.int .i64 a.t, .int .i64 a.k, .int .i64 a.v, .int .u64 a.l] 24))
  have hbW := below_alloc w (.cells #[.int .i64 a.t, .int .i64 a.k, .int .i64 a.v, .int .u64 a.l] 24)
  have hsz : w.heap.size < (w.alloc (.cells #[.int .i64 a.t, .int .i64 a.k, .int .i64 a.v, .int .u64 a.l] 24)).heap.size := by simp
  have hR : Hid _ := right_any a
  clear hrow0
  obtain ⟨t, k, v, l⟩ := a
  simp only [ev] at hR ⊢
  simp only at hbox hrow hbW hsz hal
  go_enter Try.func4, Try.ntmps4
  go_upto_region 1 with fail
  obtain ⟨W, hW⟩ : ∃ W, W = w.alloc (.cells #[.int .i64 t, .int .i64 k, .int .i64 v, .int .u64 l] 24) := ⟨_, rfl⟩
  rw [← hW] at hbox hrow hbW hsz ⊢
  clear hW
  have hown0 : (W.alloc (.cells #[] 24)).ownsRow W.heap.size 24 4 (.slice (some ⟨W.heap.size, 0, none⟩) 0 0) 0 [] :=
    World.ownsRow_lit W #[] 0 (Nat.le_refl _) (by unfold maxLen; omega) (by simp)
  go_cut [5] (fun u wx => ∃ ns : List Ev, ns.length ≤ 20 ∧ (∀ x ∈ ns, x.l < 18446744073709551616) ∧ wx.ownsRow W.heap.size 24 4 u ns.length (evs ns) ∧ Below W.heap.size W wx)
  case first =>
    rcases hrow with ⟨rfl, rfl, rfl, rfl⟩ | ⟨x, rfl, hlc, hcm, hzl, hcell, hwf⟩
    · go_wp2_with (at_builtin; refine wpList_append_own_none rfl _ _ 29 rfl W.heap.size 24 i0 4 Try.underlying29 hi _ 0 [] rfl hown0 rfl ?_)
      go_meet
      exact ⟨[], by simp, by simp, hown0, below_alloc _ _⟩
    · unfold maxLen at hcm
      obtain ⟨K, hK, hKz, hKe⟩ : ∃ K, K ≤ 20 ∧ K ≤ es.length ∧ ((len ≤ 20 ∧ K = len) ∨ (20 < len ∧ K = 20)) := by
        by_cases h20 : len ≤ 20
        · exact ⟨len, h20, by omega, .inl ⟨h20, rfl⟩⟩
        · exact ⟨20, by decide, by omega, .inr ⟨by omega, rfl⟩⟩
      obtain ⟨ns, hnl, hns, hul, hsrc⟩ := src_evs W (.cells #[] 24) x es K hKz hcell hwf
      clear hcell hwf
      rcases hKe with ⟨h20, rfl⟩ | ⟨h20, rfl⟩
      · go_wp2_with (at_builtin; refine wpList_append_own _ rfl _ _ 29 rfl W.heap.size 24 i0 _ 4 32 Try.underlying29 hi hz0 hz1 hz2 rfl (by decide) _ 0 [] rfl hown0 x K cap (evs ns) rfl hul hsrc (evs_one ns) ?c3 ?c4 ?c5 ?_)
        case c3 => unfold maxLen; omega
        case c4 => omega
        case c5 => simp
        intro v' w1 hown' hgrow _
        go_wp2_with fail
        go_meet
        refine ⟨ns, by omega, hns, ?_, (below_alloc W _).grown hgrow (by simp) ?_⟩
        · rw [hnl]; simpa using hown'
        · intro k hk; simp [Value.ownBlock] at hk; omega
      · go_wp2_with (at_builtin; refine wpList_append_own _ rfl _ _ 29 rfl W.heap.size 24 i0 _ 4 32 Try.underlying29 hi hz0 hz1 hz2 rfl (by decide) _ 0 [] rfl hown0 x 20 cap (evs ns) rfl hul hsrc (evs_one ns) ?c3 ?c4 ?c5 ?_)
        case c3 => unfold maxLen; omega
        case c4 => omega
        case c5 => simp
        intro v' w1 hown' hgrow _
        go_wp2_with fail
        go_meet
        refine ⟨ns, by omega, hns, ?_, (below_alloc W _).grown hgrow (by simp) ?_⟩
        · rw [hnl]; simpa using hown'
        · intro k hk; simp [Value.ownBlock] at hk; omega
  case rest =>
    obtain ⟨ns, hn20, hns, hown, hbw⟩ := hcut
    clear hown0 hrow
    obtain ⟨hb0, hb1, hb2, hb3⟩ : EvAt wc w.heap.size 0 ⟨t, k, v, l⟩ := EvAt.below (e := ⟨t, k, v, l⟩) hbox.out hbw hsz
    simp only [Nat.zero_add] at hb0 hb1 hb2 hb3
    have tw : Below w.heap.size w wc := hbW.trans (hbw.mono (Nat.le_of_lt hsz))
    have hsz' : w.heap.size < wc.heap.size := Nat.lt_of_lt_of_le hsz hbw.size
    clear hbox hbw hbW hsz
    go_upto_region 2 with fail
    obtain ⟨p, hpr⟩ : ∃ p, Hid (rightB ⟨t, k, v, l⟩ = p) := ⟨_, rfl⟩
    go_cut [6] (fun u wx => u = .bool p ∧ wx = wc)
    case first =>
      clear hown hns tw
      have hq : Hid (decide ((0 ≤ t ∧ t ≤ 1099511627776) ∧ (0 ≤ k ∧ k ≤ 255) ∧ l ≠ 0) = p) := hpr.out
      by_cases h0 : 0 ≤ t
      · by_cases h1 : t ≤ 1099511627776
        · by_cases h2 : 0 ≤ k
          · by_cases h3 : k ≤ 255
            · by_cases h4 : l = 0
              · subst h4
                have hp : Hid (false = p) := (decide_eq_false (fun h => h.2.2 rfl)).symm.trans hq.out
                clear hq
                go_wp2_with fail
                go_meet
                exact ⟨congrArg Value.bool hp.out, rfl⟩
              · have hp : Hid (true = p) := (decide_eq_true ⟨⟨h0, h1⟩, ⟨h2, h3⟩, h4⟩).symm.trans hq.out
                clear hq
                have h5 : ((l : Int) != 0) = true := by simp; exact h4
                go_wp2_with fail
                go_meet
                exact ⟨congrArg Value.bool hp.out, rfl⟩
            · have hp : Hid (false = p) := (decide_eq_false (fun h => h3 h.2.1.2)).symm.trans hq.out
              clear hq
              go_wp2_with fail
              go_meet
              exact ⟨congrArg Value.bool hp.out, rfl⟩
          · have hp : Hid (false = p) := (decide_eq_false (fun h => h2 h.2.1.1)).symm.trans hq.out
            clear hq
            go_wp2_with fail
            go_meet
            exact ⟨congrArg Value.bool hp.out, rfl⟩
        · have hp : Hid (false = p) := (decide_eq_false (fun h => h1 h.1.2)).symm.trans hq.out
          clear hq
          go_wp2_with fail
          go_meet
          exact ⟨congrArg Value.bool hp.out, rfl⟩
      · have hp : Hid (false = p) := (decide_eq_false (fun h => h0 h.1.1)).symm.trans hq.out
        clear hq
        go_wp2_with fail
        go_meet
        exact ⟨congrArg Value.bool hp.out, rfl⟩
    case rest =>
      obtain ⟨rfl, hwc⟩ := hcut
      obtain rfl := hwc.symm
      clear hwc
      have hB : Hid (EvAt wc w.heap.size 0 ⟨t, k, v, l⟩) := ⟨hb0, hb1, hb2, hb3⟩
      clear hb0 hb1 hb2 hb3
      have hrd : Hid (RdE wc _ ns) := rd_own hown hns
      obtain ⟨_, _, ao', cap', hu, _, _, hcs⟩ := rd_own hown hns
      subst hu
      have hcs' : Hid (ns.length ≠ 0 → ∃ b off, ao' = some ⟨b, off, none⟩ ∧ b < wc.heap.size ∧ ∀ j, j < ns.length → EvAt wc b (off + j * 4) (evAt ns j)) := hcs
      have hns' : Hid (∀ e ∈ ns, e.l < 18446744073709551616) := hns
      clear hcs hown hns
      go_wp2_with fail
      go_loopw [7, 8, 43] (fun x y i wr => ∃ k : Nat, k ≤ ns.length ∧ i = .int .i64 k ∧ x = .int .i64 (latest (ns.take k)) ∧ y = .int .u64 (labels (ns.take k) : Nat) ∧ Below wc.heap.size wc wr) (fun _ _ i _ => ns.length - (intOf i).toNat)
      case atStart => exact ⟨0, Nat.zero_le _, rfl, rfl, rfl, Below.refl _ _⟩
      case round =>
        obtain ⟨j, hj, rfl, rfl, rfl, hbr⟩ := hrel
        by_cases hlt : j < ns.length
        · obtain ⟨b, off, rfl, hb, hcell⟩ := hcs'.out (by omega)
          have hx := (hcell j hlt).below hbr hb
          have hl := evAt_lt ns hns'.out j
          have hJl := labels_lt (ns.take j) fun e he => hns'.out e (List.mem_of_mem_take he)
          have hs1 : Hid (labels (ns.take (j + 1)) = labels (ns.take j) ||| (evAt ns j).l) := by
            have : labels (ns.take (j + 1)) = labels (ns.take j) ||| (evAt ns j).l := by rw [take_snoc ns j hlt, labels_snoc]
            exact this
          have hs2 : Hid (latest (ns.take (j + 1)) = if ns.take j = [] then (evAt ns j).t else max (latest (ns.take j)) (evAt ns j).t) := by
            have : latest (ns.take (j + 1)) = if ns.take j = [] then (evAt ns j).t else max (latest (ns.take j)) (evAt ns j).t := by rw [take_snoc ns j hlt, latest_snoc]
            exact this
          clear hcell hcs' hrd
          obtain ⟨⟨t', k', v', l'⟩, hee⟩ : ∃ x, evAt ns j = x := ⟨_, rfl⟩
          rw [hee] at hx hl hs1 hs2
          clear hee
          obtain ⟨c0, c1, c2, c3⟩ := hx
          simp only at c0 c1 c2 c3 hl hs1 hs2
          obtain ⟨L, hL⟩ : ∃ L, Hid (latest (ns.take j) = L) := ⟨_, rfl⟩
          rw [hL.out] at hs2 ⊢
          by_cases hj0 : j = 0
          · subst hj0
            simp only [Nat.zero_mul, Nat.add_zero] at c0 c1 c2 c3
            go_wp2_with fail
            go_roundw
            case rel =>
              refine ⟨0 + 1, by omega, by go_num, val_int ?_, val_int ?_, hbr.alloc hbr.size _⟩
              · rw [hs2.out]; simp
              · rw [hs1.out]; exact u64_or_nat _ _ hJl hl
            case measure => simp [intOf]; omega
          · have hne : Hid (ns.take j ≠ []) := by
              intro h
              have := congrArg List.length h
              rw [List.length_take, List.length_nil] at this; omega
            by_cases hc : L < t'
            · go_wp2_with fail
              go_roundw
              case rel =>
                refine ⟨j + 1, by omega, by go_num, val_int ?_, val_int ?_, hbr.alloc hbr.size _⟩
                · rw [hs2.out, if_neg hne.out]; omega
                · rw [hs1.out, u64_or_nat _ _ hJl hl]
              case measure => simp [intOf]; omega
            · go_wp2_with fail
              go_roundw
              case rel =>
                refine ⟨j + 1, by omega, by go_num, val_int ?_, val_int ?_, hbr.alloc hbr.size _⟩
                · rw [hs2.out, if_neg hne.out]; omega
                · rw [hs1.out, u64_or_nat _ _ hJl hl]
              case measure => simp [intOf]; omega
        · obtain rfl : j = ns.length := by omega
          rw [List.take_length]
          clear hcs'
          obtain ⟨hb0, hb1, hb2, hb3⟩ : EvAt wr w.heap.size 0 ⟨t, k, v, l⟩ := EvAt.below (e := ⟨t, k, v, l⟩) hB.out hbr hsz'
          simp only [Nat.zero_add] at hb0 hb1 hb2 hb3
          have t2 : Below w.heap.size w wr := tw.trans (hbr.mono (Nat.le_of_lt hsz'))
          have hrd2 : Hid (RdE wr (.slice ao' ns.length cap') ns) := rdE_below hrd.out hbr
          clear hrd hbr tw hB
          go_wp2_with fail
          refine (hR.out wr p hpr.out).mono ?_
          rintro e w1 ⟨rfl, b1⟩
          have t3 : Below w.heap.size w w1 := t2.trans (b1.mono t2.size)
          have hrd3 : Hid (RdE w1 (.slice ao' ns.length cap') ns) := rdE_below hrd2.out b1
          clear b1 hrd2 hb0 hb1 hb2 hb3 t2
          go_wp2_with fail
          refine (latest_any _ ns w1 _ hrd3.out rfl).mono ?_
          rintro e w2 ⟨rfl, b2⟩
          have t4 : Below w.heap.size w w2 := t3.trans (b2.mono t3.size)
          have hrd4 : Hid (RdE w2 (.slice ao' ns.length cap') ns) := rdE_below hrd3.out b2
          clear b2 hrd3 t3
          go_wp2_with fail
          refine (labels_any _ ns w2 _ hrd4.out rfl).mono ?_
          rintro e w3 ⟨rfl, b3⟩
          have t5 : Below w.heap.size w w3 := t4.trans (b3.mono t4.size)
          clear b3 hrd4 t4
          go_wp2_with fail
          refine (runs_any w3).mono ?_
          rintro e w4 ⟨rfl, b4⟩
          go_wp2
          go_ret
          exact ⟨rfl, t5.trans (b4.mono t5.size)⟩
theorem eventTells_walk (a : Ev) (ao : Option Addr) (len cap : Nat) (es : List Ev) (w : World) (hal : a.l < 18446744073709551616) (hrow : IsRowE w ao len cap es) :
    Calls Try.prog 4 #[ev a, .slice ao len cap] w fun e w' => e = .returned (.bool true) ∧ Below w.heap.size w w' := tells_core a ao len cap es w hal hrow
end Go.Proofs.Ytakemkfnaebmiaa
