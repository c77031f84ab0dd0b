/- EventMany, walked: of any list of events and any two numbers it returns true, and nothing that was there is written. -/
import Derived.Test.YtakemkfnaebmiaaTells
import Derived.Deep.RegionHeld3
import Derived.Deep.DrawnRows
import Derived.Deep.QuietTactic
import Derived.BigQuiet
namespace Go.Proofs.Ytakemkfnaebmiaa
open Go.RowKit M

theorem world_gen {P : Program} {c : Code} {Q : Exit → Act → World → Prop} {a : Act} {W : World} (R : World → Prop) (h : R W) (k : ∀ W2, R W2 → c.wp P Q a W2) : c.wp P Q a W := k W h

theorem own_form {w : World} {base : Nat} {e : TypeId} {v : Value} {n : Nat} {xs : List Value} (h : w.ownsRow base e 4 v n xs) (hne : ¬ v = .slice none 0 0) :
    ∃ g cp, v = .slice (some ⟨g, 0, none⟩) n cp ∧ n ≤ cp ∧ cp ≤ 9223372036854775807 ∧ base ≤ g := by
  obtain ⟨_, h | ⟨g, cap, cur, rfl, h2, hh, hn, hm, _⟩⟩ := h
  · exact absurd h.1 hne
  · exact ⟨g, cap, rfl, hn, by unfold maxLen at hm; omega, h2⟩
/-- A part of a list of the call's own, as it is copied or read. -/
theorem src_part {w : World} {base g cp : Nat} {ns : List Ev} {e : TypeId} (hown : w.ownsRow base e 4 (.slice (some ⟨g, 0, none⟩) ns.length cp) ns.length (evs ns)) (ps : List Ev) (i off : Nat) (hi : i + ps.length ≤ ns.length)
    (hps : ∀ j, j < ps.length → evAt ps j = evAt ns (i + j)) (hoff : ps.length ≠ 0 → off = i * 4) : ∀ j u, (evs ps)[j]? = some u → w.cell? ((⟨g, off, none⟩ : Addr).add j) = some u := by
  intro j u hj
  obtain ⟨h1, h2⟩ := evs_some hj
  rw [hoff (by omega), Addr.add_lit]
  rw [hps _ h1] at h2
  have hc := hown.cellAt (i * 4 + j) (by omega)
  have := evs_at ns (i + j / 4) (j % 4) (by omega) (by omega)
  rw [show (i + j / 4) * 4 + j % 4 = i * 4 + j by omega] at this
  rw [hc, this, h2]
theorem rd_part {w : World} {base g cp : Nat} {ns : List Ev} {e : TypeId} (hown : w.ownsRow base e 4 (.slice (some ⟨g, 0, none⟩) ns.length cp) ns.length (evs ns)) (hlt : ∀ x ∈ ns, x.l < 18446744073709551616) (ps : List Ev) (i off m cq : Nat) (hi : i + ps.length ≤ ns.length)
    (hps : ∀ j, j < ps.length → evAt ps j = evAt ns (i + j)) (hoff : ps.length ≠ 0 → off = i * 4) (hm : ps.length = m) (hm2 : m ≤ cq) (hq : cq ≤ 9223372036854775807) (hmem : ∀ x ∈ ps, x ∈ ns) : RdE w (.slice (some ⟨g, off, none⟩) m cq) ps := by
  subst hm
  refine ⟨by omega, fun x hx => hlt x (hmem x hx), _, cq, rfl, hm2, hq, fun h0 => ⟨g, off, rfl, ?_, fun j hj => ?_⟩⟩
  · have := own_cells hown i (by omega)
    exact World.block_lt_of_cell? w _ this.1
  · have := own_cells hown (i + j) (by omega)
    rw [hps j hj, hoff h0, show i * 4 + j * 4 = 0 + (i + j) * 4 by omega]
    exact this
theorem drop_at (ns : List Ev) (C : Nat) : ∀ j, j < (ns.drop C).length → evAt (ns.drop C) j = evAt ns (C + j) := by
  intro j _
  simp [evAt, List.getD_eq_getElem?_getD, List.getElem?_drop]
theorem take_at (ns : List Ev) (C : Nat) : ∀ j, j < (ns.take C).length → evAt (ns.take C) j = evAt ns (0 + j) := by
  intro j hj
  have : j < C := by rw [List.length_take] at hj; omega
  simp [evAt, List.getD_eq_getElem?_getD, List.getElem?_take_of_lt this]
/-- The five that are one beyond a bound. -/
def fives (what : Int) : List Ev := [⟨1099511627777, 255, what, 9223372036854775808⟩, ⟨1099511627776, 256, what, 9223372036854775808⟩, ⟨1099511627776, 255, what, 0⟩, ⟨-1, 0, 0, 1⟩, ⟨0, -1, 0, 1⟩]
theorem fives_no (what : Int) : ∀ k, k < 5 → rightB (evAt (fives what) k) = false := by
  intro k hk
  match k, hk with
  | 0, _ => simp [fives, evAt, rightB]
  | 1, _ => simp [fives, evAt, rightB]
  | 2, _ => simp [fives, evAt, rightB]
  | 3, _ => simp [fives, evAt, rightB]
  | 4, _ => simp [fives, evAt, rightB]
theorem fives_at (what : Int) (W : World) : ∀ k, k < 5 → EvAt (W.alloc (.cells #[.int .i64 1099511627777, .int .i64 255, .int .i64 what, .int .u64 9223372036854775808, .int .i64 1099511627776, .int .i64 256, .int .i64 what, .int .u64 9223372036854775808, .int .i64 1099511627776, .int .i64 255, .int .i64 what, .int .u64 0, .int .i64 (-1), .int .i64 0, .int .i64 0, .int .u64 1, .int .i64 0, .int .i64 (-1), .int .i64 0, .int .u64 1] 24)) W.heap.size (k * 4) (evAt (fives what) k) := by
  intro k hk
  match k, hk with
  | 0, _ => exact ⟨new_cell rfl rfl, new_cell rfl rfl, new_cell rfl rfl, new_cell rfl rfl⟩
  | 1, _ => exact ⟨new_cell rfl rfl, new_cell rfl rfl, new_cell rfl rfl, new_cell rfl rfl⟩
  | 2, _ => exact ⟨new_cell rfl rfl, new_cell rfl rfl, new_cell rfl rfl, new_cell rfl rfl⟩
  | 3, _ => exact ⟨new_cell rfl rfl, new_cell rfl rfl, new_cell rfl rfl, new_cell rfl rfl⟩
  | 4, _ => exact ⟨new_cell rfl rfl, new_cell rfl rfl, new_cell rfl rfl, new_cell rfl rfl⟩
theorem right_is (t k v : Int) (l : Nat) (w : World) (p : Bool) (hp : rightB ⟨t, k, v, l⟩ = p) :
    Calls Try.prog 10 #[.agg #[.int .i64 t, .int .i64 k, .int .i64 v, .int .u64 l]] w fun e w' => e = .returned (.bool p) ∧ Below w.heap.size w w' := right_any ⟨t, k, v, l⟩ w p hp
set_option maxHeartbeats 1000000 in
set_option maxRecDepth 100000 in
theorem many_core (ao : Option Addr) (len cap : Nat) (es : List Ev) (cut what : Int) (w : World) (hrow : IsRowE w ao len cap es) :
    Calls Try.prog 6 #[.slice ao len cap, .int .i64 cut, .int .i64 what] w fun e w' => e = .returned (.bool true) ∧ Below w.heap.size w w' := by
  obtain ⟨i0, hi, hz0, hz1, hz2⟩ := info_parts Try.info24
  have hown0 : (w.alloc (.cells #[] 24)).ownsRow w.heap.size 24 4 (.slice (some ⟨w.heap.size, 0, none⟩) 0 0) 0 [] :=
    World.ownsRow_lit w #[] 0 (Nat.le_refl _) (by unfold maxLen; omega) (by simp)
  go_enter Try.func6, Try.ntmps6
  go_upto_region 1 with fail
  go_cut [7] (fun u wx => ∃ ns : List Ev, ∃ g cp : Nat, ns.length ≤ 12 ∧ (∀ x ∈ ns, x.l < 18446744073709551616) ∧ u = .slice (some ⟨g, 0, none⟩) ns.length cp ∧ ns.length ≤ cp ∧ cp ≤ 9223372036854775807 ∧ wx.ownsRow w.heap.size 24 4 (.slice (some ⟨g, 0, none⟩) ns.length cp) ns.length (evs ns) ∧ Below w.heap.size w wx)
  case first =>
    rcases hrow with ⟨rfl, rfl, rfl, rfl⟩ | ⟨x, rfl, hlc, hcm, hzl, hcell, hwf⟩
    · go_wp2_with (at_builtin; refine wpList_append_own_none rfl _ _ 29 rfl w.heap.size 24 i0 4 Try.underlying29 hi _ 0 [] rfl hown0 rfl ?_)
      go_meet
      exact ⟨[], _, 0, by simp, by simp, rfl, by simp, by simp, hown0, below_alloc _ _⟩
    · unfold maxLen at hcm
      obtain ⟨K, hK, hKz, hKe⟩ : ∃ K, K ≤ 12 ∧ K ≤ es.length ∧ ((len ≤ 12 ∧ K = len) ∨ (12 < len ∧ K = 12)) := by
        by_cases h20 : len ≤ 12
        · exact ⟨len, h20, by omega, .inl ⟨h20, rfl⟩⟩
        · exact ⟨12, by decide, by omega, .inr ⟨by omega, rfl⟩⟩
      obtain ⟨ns, hnl, hns, hul, hsrc⟩ := src_evs w (.cells #[] 24) x es K hKz hcell hwf
      clear hcell hwf
      rcases hKe with ⟨h20, rfl⟩ | ⟨h20, rfl⟩
      · go_wp2_with (at_builtin; refine wpList_append_own _ rfl _ _ 29 rfl w.heap.size 24 i0 _ 4 32 Try.underlying29 hi hz0 hz1 hz2 rfl (by decide) _ 0 [] rfl hown0 x K cap (evs ns) rfl hul hsrc (evs_one ns) ?c3 ?c4 ?c5 ?_)
        case c3 => unfold maxLen; omega
        case c4 => omega
        case c5 => simp
        intro v' w1 hown' hgrow hnil
        go_wp2_with fail
        go_meet
        have hown1 : w1.ownsRow w.heap.size 24 4 v' ns.length (evs ns) := by rw [hnl]; simpa using hown'
        obtain ⟨g, cp, rfl, g1, g2, _⟩ := own_form hown1 hnil
        refine ⟨ns, g, cp, by omega, hns, rfl, g1, g2, hown1, (below_alloc w _).grown hgrow (by simp) ?_⟩
        intro k hk; simp [Value.ownBlock] at hk; omega
      · go_wp2_with (at_builtin; refine wpList_append_own _ rfl _ _ 29 rfl w.heap.size 24 i0 _ 4 32 Try.underlying29 hi hz0 hz1 hz2 rfl (by decide) _ 0 [] rfl hown0 x 12 cap (evs ns) rfl hul hsrc (evs_one ns) ?c3 ?c4 ?c5 ?_)
        case c3 => unfold maxLen; omega
        case c4 => omega
        case c5 => simp
        intro v' w1 hown' hgrow hnil
        go_wp2_with fail
        go_meet
        have hown1 : w1.ownsRow w.heap.size 24 4 v' ns.length (evs ns) := by rw [hnl]; simpa using hown'
        obtain ⟨g, cp, rfl, g1, g2, _⟩ := own_form hown1 hnil
        refine ⟨ns, g, cp, by omega, hns, rfl, g1, g2, hown1, (below_alloc w _).grown hgrow (by simp) ?_⟩
        intro k hk; simp [Value.ownBlock] at hk; omega
  case rest =>
    obtain ⟨ns, g, cp, hn12, hns, rfl, hncp, hcp, hown, hbw⟩ := hcut
    clear hown0 hrow
    go_upto_region 2 with fail
    go_cut [8] (fun u wx => wx = wc ∧ ∃ C : Nat, C ≤ ns.length ∧ u = .int .i64 C)
    case first =>
      clear hown hns hbw
      by_cases h0 : cut < 0
      · go_wp2_with fail
        go_meet
        exact ⟨rfl, 0, by omega, rfl⟩
      · obtain ⟨k, rfl⟩ := Int.eq_ofNat_of_zero_le (Int.not_lt.1 h0)
        by_cases h1 : k ≤ ns.length
        · go_wp2_with fail
          go_meet
          exact ⟨rfl, k, h1, rfl⟩
        · go_wp2_with fail
          go_meet
          exact ⟨rfl, ns.length, by omega, rfl⟩
    case rest =>
      obtain ⟨hwc, C, hC, rfl⟩ := hcut
      obtain rfl := hwc.symm
      clear hwc
      obtain ⟨n, hn⟩ : ∃ n, n = ns.length := ⟨_, rfl⟩
      have hn' : Hid (n = ns.length) := hn
      rw [← hn] at hn12 hncp hC ⊢
      have hown' : Hid (wc.ownsRow w.heap.size 24 4 (.slice (some ⟨g, 0, none⟩) ns.length cp) ns.length (evs ns)) := hown
      have hns' : Hid (∀ x ∈ ns, x.l < 18446744073709551616) := hns
      clear hn hown hns
      go_upto_region 3 with fail
      go_cut [9, 10] (fun x y wx => Below w.heap.size w wx ∧ wx.ownsRow w.heap.size 24 4 (.slice (some ⟨g, 0, none⟩) ns.length cp) ns.length (evs ns) ∧ x = .slice (some ⟨g, 0, none⟩) C cp ∧ ∃ off cq, y = .slice (some ⟨g, off, none⟩) (n - C) cq ∧ (n - C ≠ 0 → off = C * 4) ∧ n - C ≤ cq ∧ cq ≤ 9223372036854775807)
      case first =>
        by_cases hc : C = cp
        · subst hc
          obtain rfl : n = C := by omega
          go_quiet (fail)
          go_wp2_with fail
          go_meet
          exact ⟨below_drewN hbw nq, own_below hown'.out (below_drewN (Below.refl _ _) nq), rfl, 0, 0, by rw [Nat.sub_self], by omega, by omega, by omega⟩
        · go_quiet (fail)
          go_wp2_with fail
          go_meet
          exact ⟨below_drewN hbw nq, own_below hown'.out (below_drewN (Below.refl _ _) nq), rfl, C * 4, cp - C, rfl, fun _ => rfl, by omega, by omega⟩
      case rest =>
        clear hown' hbw
        obtain ⟨hbw, hown, rfl, off, cq, rfl, hoff, hq1, hq2⟩ := hcut
        rename_i wc0 _
        have hown00 : (wc.alloc (.cells #[] 24)).ownsRow wc.heap.size 24 4 (.slice (some ⟨wc.heap.size, 0, none⟩) 0 0) 0 [] :=
          World.ownsRow_lit wc #[] 0 (Nat.le_refl _) (by unfold maxLen; omega) (by simp)
        have hownA := own_below hown (below_alloc wc (.cells #[] 24))
        have hdl : (ns.drop C).length = n - C := by rw [List.length_drop, hn'.out]
        have htl : (ns.take C).length = C := by rw [List.length_take]; have := hn'.out; omega
        have hs1 := src_part hownA (ns.drop C) C off (by have := hn'.out; omega) (drop_at ns C) (by rw [hdl]; exact hoff)
        have hl1 : (evs (ns.drop C)).length = (n - C) * 4 := by rw [evs_len, hdl]
        have hl2 : (evs (ns.take C)).length = C * 4 := by rw [evs_len, htl]
        go_upto_region 4 with fail
        go_cut [11] (fun u wx => wx.ownsRow wc.heap.size 24 4 u (ns.drop C ++ ns.take C).length (evs (ns.drop C ++ ns.take C)) ∧ Below wc.heap.size wc wx)
        case first =>
          go_wp2_with (at_builtin; refine wpList_append_own _ rfl _ _ 29 rfl wc.heap.size 24 i0 _ 4 32 Try.underlying29 hi hz0 hz1 hz2 rfl (by decide) _ 0 [] rfl hown00 ⟨g, off, none⟩ (n - C) cq (evs (ns.drop C)) rfl hl1 hs1 (evs_one _) ?c3 ?c4 ?c5 ?_)
          case c3 => unfold maxLen; omega
          case c4 => omega
          case c5 => simp
          intro v1 w1 hown1 hgrow1 hnil1
          have hb1 : Below wc.heap.size wc w1 := (below_alloc wc _).grown hgrow1 (by simp) (fun k hk => by simp [Value.ownBlock] at hk; omega)
          have hown1' : w1.ownsRow wc.heap.size 24 4 v1 (n - C) (evs (ns.drop C)) := by simpa using hown1
          have hs2 := src_part (own_below hown hb1) (ns.take C) 0 0 (by have := hn'.out; omega) (take_at ns C) (by omega)
          obtain ⟨g1, cp1, rfl, _, _, hg1⟩ := own_form hown1' hnil1
          clear hs1 hown00 hownA hgrow1 hnil1 hown1
          go_wp2_with (at_builtin; refine wpList_append_own _ rfl _ _ 29 rfl wc.heap.size 24 i0 _ 4 32 Try.underlying29 hi hz0 hz1 hz2 rfl (by decide) _ (n - C) (evs (ns.drop C)) rfl hown1' ⟨g, 0, none⟩ C cp (evs (ns.take C)) rfl hl2 hs2 (evs_one _) ?c3 ?c4 ?c5 ?_)
          case c3 => unfold maxLen; omega
          case c4 => omega
          case c5 => exact hb1.size
          intro v2 w2 hown2 hgrow2 _
          go_wp2_with fail
          go_meet
          refine ⟨?_, hb1.grown hgrow2 hb1.size (fun k hk => by simp [Value.ownBlock] at hk; omega)⟩
          rw [List.length_append, hdl, htl, evs_append, Nat.sub_add_cancel hC]
          exact hown2
        case rest =>
          obtain ⟨hturn, hb4⟩ := hcut
          clear hs1 hown00 hownA hl1 hl2
          have hown4 := own_below hown hb4
          have t4 : Below w.heap.size w wc := hbw.trans (hb4.mono hbw.size)
          clear hown hbw hb4
          have hmt : ∀ x ∈ ns.drop C ++ ns.take C, x.l < 18446744073709551616 := by
            intro x hx
            rcases List.mem_append.1 hx with h | h
            · exact hns'.out x (List.mem_of_mem_drop h)
            · exact hns'.out x (List.mem_of_mem_take h)
          have hlT : (ns.drop C ++ ns.take C).length = n := by rw [List.length_append, hdl, htl]; omega
          have r1 : Hid (RdE wc _ (ns.drop C ++ ns.take C)) := rd_own hturn hmt
          have r2 : Hid (RdE wc (.slice (some ⟨g, 0, none⟩) C cp) (ns.take C)) := rd_part hown4 hns'.out (ns.take C) 0 0 C cp (by have := hn'.out; omega) (take_at ns C) (by omega) htl (by omega) hcp (fun x h => List.mem_of_mem_take h)
          have r3 : Hid (RdE wc (.slice (some ⟨g, off, none⟩) (n - C) cq) (ns.drop C)) := rd_part hown4 hns'.out (ns.drop C) C off (n - C) cq (by have := hn'.out; omega) (drop_at ns C) (by rw [hdl]; exact hoff) hdl hq1 hq2 (fun x h => List.mem_of_mem_drop h)
          have r4 : Hid (RdE wc (.slice (some ⟨g, 0, none⟩) n cp) ns) := rd_part hown4 hns'.out ns 0 0 n cp (by omega) (fun j _ => by rw [Nat.zero_add]) (by omega) hn'.out.symm hncp hcp (fun x h => h)
          have hLa := labels_lt (ns.take C) (fun x h => hns'.out x (List.mem_of_mem_take h))
          have hLb := labels_lt (ns.drop C) (fun x h => hns'.out x (List.mem_of_mem_drop h))
          have hor : Hid (bits BinOp.or IntKind.u64 (labels (ns.take C) : Nat) (labels (ns.drop C) : Nat) = ((labels (ns.drop C ++ ns.take C) : Nat) : Int)) := by
            have h : bits BinOp.or IntKind.u64 (labels (ns.take C) : Nat) (labels (ns.drop C) : Nat) = ((labels (ns.drop C ++ ns.take C) : Nat) : Int) := by rw [u64_or_nat _ _ hLa hLb, labels_turn]
            exact h
          have hlat : Hid (latest (ns.drop C ++ ns.take C) = latest ns) := by
            have h : latest (ns.drop C ++ ns.take C) = latest ns := by rw [latest_turn, List.take_append_drop]
            exact h
          clear hturn hown4 hmt hdl htl hlT hLa hLb
          obtain ⟨LT, hLT⟩ : ∃ x, Hid (((labels (ns.drop C ++ ns.take C) : Nat) : Int) = x) := ⟨_, rfl⟩
          obtain ⟨LA, hLA⟩ : ∃ x, Hid (((labels (ns.take C) : Nat) : Int) = x) := ⟨_, rfl⟩
          obtain ⟨LB, hLB⟩ : ∃ x, Hid (((labels (ns.drop C) : Nat) : Int) = x) := ⟨_, rfl⟩
          obtain ⟨M, hM⟩ : ∃ x, Hid (latest ns = x) := ⟨_, rfl⟩
          have hor2 : bits BinOp.or IntKind.u64 LA LB = LT := by
            have := hor.out
            rw [hLT.out, hLA.out, hLB.out] at this
            exact this
          clear hor
          go_wp2_with fail
          refine (labels_any _ _ wc LT r1.out hLT.out).mono ?_
          rintro e w1 ⟨rfl, b1⟩
          go_wp2_with fail
          refine (labels_any _ _ w1 LA (rdE_below r2.out b1) hLA.out).mono ?_
          rintro e w2 ⟨rfl, b2⟩
          have c2 : Below wc.heap.size wc w2 := b1.trans (b2.mono b1.size)
          clear b1 b2 r2
          go_wp2_with fail
          refine (labels_any _ _ w2 LB (rdE_below r3.out c2) hLB.out).mono ?_
          rintro e w3 ⟨rfl, b3⟩
          have c3 : Below wc.heap.size wc w3 := c2.trans (b3.mono c2.size)
          clear c2 b3 r3
          go_wp2_with fail
          refine (latest_any _ _ w3 M (rdE_below r1.out c3) (hlat.out.trans hM.out)).mono ?_
          rintro e w4 ⟨rfl, b4⟩
          have c4 : Below wc.heap.size wc w4 := c3.trans (b4.mono c3.size)
          clear c3 b4 r1
          go_wp2_with fail
          refine (latest_any _ _ w4 M (rdE_below r4.out c4) hM.out).mono ?_
          rintro e w5 ⟨rfl, b5⟩
          have t5 : Below w.heap.size w w5 := (t4.trans (c4.mono t4.size)).trans (b5.mono (Nat.le_trans t4.size c4.size))
          clear c4 b5 r4 t4
          clear hor2 hLT hLA hLB hM hlat
          go_upto_region 9 with fail
          refine world_gen (fun W2 => w5.heap.size + 1 < W2.heap.size ∧ EvAt W2 w5.heap.size 0 ⟨1099511627776, 255, what, 9223372036854775808⟩ ∧ EvAt W2 (w5.heap.size + 1) 0 ⟨0, 0, 0, 1⟩ ∧ Below w.heap.size w W2) ?_ ?_
          · refine ⟨by simp, ?_, ?_, ?_⟩
            · exact EvAt.below (box_at w5 ⟨1099511627776, 255, what, 9223372036854775808⟩) (below_alloc _ _) (by simp)
            · have := box_at (w5.alloc (.cells #[.int .i64 1099511627776, .int .i64 255, .int .i64 what, .int .u64 9223372036854775808] 24)) ⟨0, 0, 0, 1⟩
              rw [World.size_alloc] at this
              exact this
            · exact (t5.alloc t5.size _).alloc (Nat.le_trans t5.size (by simp)) _
          intro W2 ⟨hz, hE, hF, t6⟩
          obtain ⟨e0, e1, e2, e3⟩ := hE
          obtain ⟨f0, f1, f2, f3⟩ := hF
          simp only [Nat.zero_add] at e0 e1 e2 e3 f0 f1 f2 f3
          have hE0 : Hid (EvAt W2 w5.heap.size 0 ⟨1099511627776, 255, what, 9223372036854775808⟩) := ⟨e0, e1, e2, e3⟩
          have hF0 : Hid (EvAt W2 (w5.heap.size + 1) 0 ⟨0, 0, 0, 1⟩) := ⟨f0, f1, f2, f3⟩
          go_upto_region 15 with fail
          refine world_gen (fun W3 => W2.heap.size < W3.heap.size ∧ Hid (EvAt W3 w5.heap.size 0 ⟨1099511627776, 255, what, 9223372036854775808⟩) ∧ Hid (EvAt W3 (w5.heap.size + 1) 0 ⟨0, 0, 0, 1⟩) ∧ Below w.heap.size w W3 ∧ Hid (∀ k, k < 5 → EvAt W3 W2.heap.size (k * 4) (evAt (fives what) k))) ?_ ?_
          · exact ⟨by simp, EvAt.below hE0.out (below_alloc _ _) (by omega), EvAt.below hF0.out (below_alloc _ _) hz, t6.alloc t6.size _, fives_at what W2⟩
          clear hE0 hF0 e0 e1 e2 e3 f0 f1 f2 f3 t5
          intro W3 ⟨hz3, hE3, hF3, t7, hxs⟩
          clear t6
          go_wp2_with fail
          go_loopw [97] (fun i wr => ∃ k : Nat, k ≤ 5 ∧ i = .int .i64 k ∧ Below W3.heap.size W3 wr) (fun i _ => 5 - (intOf i).toNat)
          case atStart => exact ⟨0, by omega, rfl, Below.refl _ _⟩
          case round =>
            obtain ⟨k, hk, rfl, hbr⟩ := hrel
            by_cases hlt : k < 5
            · have hx := (hxs.out k hlt).below hbr hz3
              have hno : Hid (rightB (evAt (fives what) k) = false) := fives_no what k hlt
              obtain ⟨⟨t', k', v', l'⟩, hee⟩ : ∃ x, evAt (fives what) k = x := ⟨_, rfl⟩
              rw [hee] at hx hno
              clear hee hxs hE3 hF3
              obtain ⟨c0, c1, c2, c3⟩ := hx
              simp only at c0 c1 c2 c3
              go_wp2_with fail
              refine (right_is _ _ _ _ _ false hno.out).mono ?_
              rintro e w6 ⟨rfl, b6⟩
              go_wp2_with fail
              go_roundw
              case rel => exact ⟨k + 1, by omega, by go_num, (hbr.alloc hbr.size _).trans (b6.mono (Nat.le_trans hbr.size (by simp)))⟩
              case measure => simp [intOf]; omega
            · obtain rfl : k = 5 := by omega
              have hE4 := EvAt.below hE3.out hbr (by omega)
              have hF4 : Hid (EvAt wr (w5.heap.size + 1) 0 ⟨0, 0, 0, 1⟩) := EvAt.below hF3.out hbr (by omega)
              obtain ⟨e0, e1, e2, e3⟩ := hE4
              simp only [Nat.zero_add] at e0 e1 e2 e3
              have t8 : Below w.heap.size w wr := t7.trans (hbr.mono t7.size)
              have hz4 : w5.heap.size + 1 < wr.heap.size := by have := hbr.size; omega
              clear hE3 hF3 hxs hbr t7
              go_wp2_with fail
              refine (right_is _ _ _ 9223372036854775808 _ true (by simp [rightB])).mono ?_
              rintro e w6 ⟨rfl, b6⟩
              obtain ⟨f0, f1, f2, f3⟩ : EvAt w6 (w5.heap.size + 1) 0 ⟨0, 0, 0, 1⟩ := EvAt.below hF4.out b6 hz4
              simp only [Nat.zero_add] at f0 f1 f2 f3
              have t9 : Below w.heap.size w w6 := t8.trans (b6.mono t8.size)
              clear hF4 b6 e0 e1 e2 e3 t8
              go_wp2_with fail
              refine (right_is _ _ _ 1 _ true (by simp [rightB])).mono ?_
              rintro e w7 ⟨rfl, b7⟩
              have t10 : Below w.heap.size w w7 := t9.trans (b7.mono t9.size)
              clear b7 f0 f1 f2 f3 t9
              go_wp2_with fail
              refine (runs_any w7).mono ?_
              rintro e w8 ⟨rfl, b8⟩
              go_wp2
              go_ret
              exact ⟨rfl, t10.trans (b8.mono t10.size)⟩
theorem eventMany_walk (ao : Option Addr) (len cap : Nat) (es : List Ev) (cut what : Int) (w : World) (hrow : IsRowE w ao len cap es) (_ : (Lit.int .i64 cut).wf = true) (_ : (Lit.int .i64 what).wf = true) :
    Calls Try.prog 6 #[.slice ao len cap, .int .i64 cut, .int .i64 what] w fun e w' => e = .returned (.bool true) ∧ Below w.heap.size w w' := many_core ao len cap es cut what w hrow
end Go.Proofs.Ytakemkfnaebmiaa
