/- VintNext, walked: of any three numbers it returns true, and nothing that was there is written. -/
import Derived.Test.YtcllodiefmkpnaaSizes
import Derived.Test.YtcllodiefmkpnaaFrame
import Derived.Deep.DeepCutAuto
namespace Go.Proofs.Ytcllodiefmkpnaa
open Go.RowKit M

namespace M
theorem nx_leb (n : Int) (hn : Fits n) (r : List Nat) : nx (leb (zz n) ++ r) = (n, (leb (zz n)).length) := by
  rw [nx_some (next_leb (zz n) (zz_lt n hn) r), unzz_zz]
theorem nx_dec {b : List Nat} (h : dec b = none) : nx b = (0, 0) := by
  refine nx_none ?_
  unfold next
  rw [h]
theorem nx_cut (u k : Nat) (h : k < (leb u).length) : nx ((leb u).take k) = (0, 0) := nx_dec (dec_cut u k h)
/-- A number's bytes with the last one turned, and a byte more. -/
theorem nx_long (u c : Nat) (hc : (leb u).getD ((leb u).length - 1) 0 = c) : c < 128 ∧ nx ((leb u).set ((leb u).length - 1) (c + 128) ++ [0]) = (0, 0) := by
  obtain ⟨hs, d, e, hd, hx, _⟩ := leb_shape u
  have hl : (leb u).length - 1 = hs.length := by rw [e]; simp
  rw [hl] at hc ⊢
  have hcd : d = c := by
    rw [e, List.getD_eq_getElem?_getD, List.getElem?_append_right (Nat.le_refl _), Nat.sub_self] at hc
    exact hc
  subst hcd
  refine ⟨hd, nx_dec ?_⟩
  rw [e, List.set_append_right _ _ (Nat.le_refl _), Nat.sub_self]
  refine dec_long _ (by simp) ?_
  intro x hm
  rcases List.mem_append.1 hm with hm | hm
  · exact hx x hm
  · rw [List.mem_singleton.1 hm]; omega
end M
theorem own_some {w : World} {base : Nat} {v : Value} {l : List Value} {n : Nat} {e : TypeId} (h : w.ownsRow base e 1 v n l) (hn : n ≠ 0) : ∃ g cap, v = .slice (some ⟨g, 0, none⟩) n cap ∧ n ≤ cap ∧ cap ≤ maxLen ∧ base ≤ g ∧ g < w.heap.size := by
  obtain ⟨_, h0 | ⟨g, cap, cur, rfl, hb, hh, h1, hm, _⟩⟩ := h
  · exact absurd h0.2 hn
  · exact ⟨g, cap, rfl, h1, hm, hb, (Array.getElem?_eq_some_iff.1 hh).1⟩
theorem Rd.take {k : IntKind} {w : World} {a : Option Addr} {len cap : Nat} {zs : List Int} (h : Rd k w (.slice a len cap) zs) (u : Nat) (hu : u ≤ zs.length) : Rd k w (.slice a u cap) (zs.take u) := by
  obtain ⟨h1, ao, cap', he, h2, h3, hc⟩ := h
  injection he with e1 e2 e3
  subst e1 e3
  have hl : (zs.take u).length = u := by rw [List.length_take]; omega
  refine ⟨by omega, _, _, by rw [hl], by omega, h3, fun hn => ?_⟩
  obtain ⟨b, off, rfl, hcell⟩ := hc (by omega)
  refine ⟨b, off, rfl, fun j hj => ?_⟩
  rw [hl] at hj
  rw [hcell j (by omega), List.getD_eq_getElem?_getD, List.getD_eq_getElem?_getD, List.getElem?_take_of_lt hj]
theorem bv_set (l : List Nat) (i c : Nat) : (bv l).set i (.int .u8 (c : Int)) = bv (l.set i c) := by
  simp [bv, toI]
theorem bv_at (l : List Nat) (i : Nat) (h : i < l.length) : (bv l)[i]? = some (.int .u8 ((l.getD i 0 : Nat) : Int)) := by
  simp [bv, toI, List.getD_eq_getElem?_getD, h]
theorem bytes_set (l : List Nat) (i c : Nat) (h : ∀ x ∈ l, x < 256) (hc : c < 256) : ∀ x ∈ l.set i c, x < 256 := by
  intro x hx
  rcases List.mem_or_eq_of_mem_set hx with hx | rfl
  · exact h x hx
  · exact hc
theorem or128_last (c : Nat) (h : c < 128) : bits BinOp.or IntKind.u8 (c : Int) 128 = ((c + 128 : Nat) : Int) := by
  rw [Lib.u8_or128_any _ (by omega) (by omega)]
  omega

set_option maxHeartbeats 2000000 in
set_option maxRecDepth 100000 in
theorem next_core (n m cut : Int) (w : World) (hn : Fits n) (hm : Fits m) :
    Calls Try.prog 5 #[.int .i64 n, .int .i64 m, .int .i64 cut] w fun e w' => e = .returned (.bool true) ∧ Below w.heap.size w w' := by
  obtain ⟨i0, hi, hz0, hz1, hz2⟩ := info_parts Try.info5
  obtain ⟨sn, hsn⟩ : ∃ k : Nat, Hid (size n = k) := ⟨_, rfl⟩
  obtain ⟨sm, hsm⟩ : ∃ k : Nat, Hid (size m = k) := ⟨_, rfl⟩
  have bn : 1 ≤ sn ∧ sn ≤ 10 := by rw [← hsn.out]; exact size_ten _ hn
  have bm : 1 ≤ sm ∧ sm ≤ 10 := by rw [← hsm.out]; exact size_ten _ hm
  obtain ⟨ln, hln⟩ : ∃ l, Hid (leb (zz n) = l) := ⟨_, rfl⟩
  obtain ⟨lm, hlm⟩ : ∃ l, Hid (leb (zz m) = l) := ⟨_, rfl⟩
  have hlnl : Hid (ln.length = sn) := by
    have h := hsn.out
    unfold size at h
    rw [hln.out] at h; exact h
  have hlml : Hid (lm.length = sm) := by
    have h := hsm.out
    unfold size at h
    rw [hlm.out] at h; exact h
  have hput : Hid (put [n, m] = ln ++ lm) := by
    have h : put [n, m] = ln ++ lm := by
      rw [← hln.out, ← hlm.out, put_cons, put_one]
    exact h
  have hbn : Hid (∀ c ∈ ln, c < 256) := by
    have h := leb_bytes (zz n)
    rw [hln.out] at h; exact h
  have hbm : Hid (∀ c ∈ lm, c < 256) := by
    have h := leb_bytes (zz m)
    rw [hlm.out] at h; exact h
  have hnx1 : Hid (nx (ln ++ lm) = (n, sn)) := by
    have h := nx_leb n hn lm
    rw [hln.out, hlnl.out] at h; exact h
  have hnx2 : Hid (nx lm = (m, sm)) := by
    have h := nx_leb m hm []
    rw [List.append_nil, hlm.out, hlml.out] at h; exact h
  go_enter Try.func5, Try.ntmps5
  go_wp2_with fail
  refine (put_any _ [n, m] _ (rd_lit (e := 3) w [n, m] (by simp)) (by simp [hn, hm]) (by simp)).mono ?_
  rintro e w1 ⟨u, rfl, hu, b1⟩
  have t1 : Below w.heap.size w w1 := (below_alloc w _).trans (b1.mono (by simp))
  clear b1
  rw [hput.out] at hu
  have hlen : (ln ++ lm).length = sn + sm := by rw [List.length_append, hlnl.out, hlml.out]
  have hrd1 : Hid (Rd .u8 w1 u (toI (ln ++ lm))) := rd_bv hu
  rw [hlen] at hu
  obtain ⟨g, cap, rfl, hgc, hcm, _, _⟩ := own_some hu (by omega)
  unfold maxLen at hcm
  clear hu
  go_wp2_with fail
  refine (next_any _ (ln ++ lm) w1 n sn hrd1.out (by
    intro c hc
    rcases List.mem_append.1 hc with hc | hc
    · exact hbn.out c hc
    · exact hbm.out c hc) hnx1.out).mono ?_
  rintro e w' ⟨rfl, he⟩; obtain rfl := he.symm; clear he
  go_wp2_with fail
  refine (size_is _ w1 (sn : Int) hn (by rw [hsn.out])).mono ?_
  rintro e w' ⟨rfl, he⟩; obtain rfl := he.symm; clear he
  go_wp2_with fail
  have hrd2 : Hid (Rd .u8 w1 (.slice (some ⟨g, sn, none⟩) sm (cap - sn)) (toI lm)) := by
    have h := hrd1.out.drop sn (by rw [toI_len, hlen]; omega)
    rw [toI_len, hlen, ← toI_drop, List.drop_left' hlnl.out, Nat.zero_add, Nat.add_sub_cancel_left] at h
    exact h
  clear hrd1 hnx1 hput
  refine (next_any _ lm w1 m sm hrd2.out hbm.out hnx2.out).mono ?_
  rintro e w' ⟨rfl, he⟩; obtain rfl := he.symm; clear he
  clear hrd2 hnx2 hbm hlm hlml hlen
  go_wp2_with fail
  refine (put1 w1 n hn).mono ?_
  rintro e w2 ⟨u, rfl, hu, b2⟩
  have t2 : Below w.heap.size w w2 := t1.trans (b2.mono t1.size)
  clear b2 t1
  rw [hln.out, hlnl.out] at hu
  have hu' : Hid (w2.ownsRow w1.heap.size 5 1 u sn (bv ln)) := hu
  have hrd3 : Hid (Rd .u8 w2 u (toI ln)) := rd_bv (by rw [hlnl.out]; exact hu)
  obtain ⟨g1, cap1, rfl, hgc1, hcm1, _, hg1⟩ := own_some hu (by omega)
  unfold maxLen at hcm1
  clear hu
  go_wp2_with fail
  refine (within_any cut 0 ((sn : Int) - 1) w2 (by decide) (by omega) (by omega)).mono ?_
  rintro e w' ⟨⟨k0, hk0, hk1, rfl⟩, he⟩; obtain rfl := he.symm; clear he
  obtain ⟨k, rfl⟩ := Int.eq_ofNat_of_zero_le hk0
  have hk2 : k < sn := by omega
  have hrd4 : Hid (Rd .u8 w2 (.slice (some ⟨g1, 0, none⟩) k cap1) (toI (ln.take k))) := by
    have h := hrd3.out.take k (by rw [toI_len, hlnl.out]; omega)
    rw [← toI_take] at h
    exact h
  have hnx3 : Hid (nx (ln.take k) = (0, 0)) := by
    have h := nx_cut (zz n) k (by rw [hln.out, hlnl.out]; exact hk2)
    rw [hln.out] at h; exact h
  go_wp2_with fail
  refine (next_any _ (ln.take k) w2 0 0 hrd4.out (fun c hc => hbn.out c (List.mem_of_mem_take hc)) hnx3.out).mono ?_
  rintro e w' ⟨rfl, he⟩; obtain rfl := he.symm; clear he
  clear hrd4 hnx3 hrd3
  have hown0 : (w2.alloc (.cells #[] 5)).ownsRow w2.heap.size 5 1 (.slice (some ⟨w2.heap.size, 0, none⟩) 0 0) 0 [] :=
    World.ownsRow_lit w2 #[] 0 (Nat.le_refl _) (by unfold maxLen; omega) (by simp)
  have hsrc : Hid (∀ j u, (bv ln)[j]? = some u → (w2.alloc (.cells #[] 5)).cell? ((⟨g1, 0, none⟩ : Addr).add j) = some u) := by
    intro j u hj
    have hjl := (List.getElem?_eq_some_iff.1 hj).1
    rw [bv_len, hlnl.out] at hjl
    have hc := (own_below hu'.out (below_alloc w2 (.cells #[] 5))).cellAt j (by omega)
    rw [Addr.add_lit, Nat.zero_add, hc, hj]
  clear hu'
  go_wp2_with (at_builtin; refine wpList_append_own _ rfl _ _ 25 rfl w2.heap.size 5 i0 (.int .u8 0) 1 1 Try.underlying25 hi hz0 hz1 hz2 rfl (by decide) _ 0 [] rfl hown0 ⟨g1, 0, none⟩ sn cap1 (bv ln) rfl ?c0 hsrc.out (bv_one _) ?c3 ?c4 ?c5 ?_)
  case c0 => rw [bv_len, hlnl.out]; omega
  case c3 => unfold maxLen; omega
  case c4 => omega
  case c5 => simp
  intro v' w3 hown' hgrow _
  have t3 : Below w.heap.size w w3 := t2.trans (((below_alloc w2 (.cells #[] 5)).grown hgrow (by simp) (by intro k hk; simp [Value.ownBlock] at hk; omega)).mono t2.size)
  have o3 : w3.ownsRow w2.heap.size 5 1 v' sn (bv ln) := by simpa using hown'
  have hsz3 : w2.heap.size ≤ w3.heap.size := ((below_alloc w2 (.cells #[] 5)).grown hgrow (by simp) (by intro k hk; simp [Value.ownBlock] at hk; omega)).size
  clear hown' hgrow hown0 hsrc
  obtain ⟨g2, cap2, rfl, hgc2, hcm2, hg2, _⟩ := own_some o3 (by omega)
  unfold maxLen at hcm2
  obtain ⟨c, hc⟩ : ∃ c, Hid (ln.getD (sn - 1) 0 = c) := ⟨_, rfl⟩
  obtain ⟨hc128, hnx4⟩ : c < 128 ∧ Hid (nx (ln.set (sn - 1) (c + 128) ++ [0]) = (0, 0)) := by
    have h := nx_long (zz n) c (by rw [hln.out, hlnl.out]; exact hc.out)
    rw [hln.out, hlnl.out] at h; exact h
  have hcell : w3.cell? ⟨g2, sn - 1, none⟩ = some (.int .u8 (c : Int)) := by
    rw [o3.cellAt (sn - 1) (by omega), bv_at ln (sn - 1) (by rw [hlnl.out]; omega), hc.out]
  have hor := or128_last c hc128
  have hbs : Hid (∀ x ∈ ln.set (sn - 1) (c + 128) ++ [0], x < 256) := by
    intro x hx
    rcases List.mem_append.1 hx with hx | hx
    · exact bytes_set ln (sn - 1) (c + 128) hbn.out (by omega) x hx
    · rw [List.mem_singleton.1 hx]; decide
  have hf := o3.frozenAt (sn - 1)
  have hst := (o3.stored (sn - 1) (.int .u8 ((c + 128 : Nat) : Int))).1
  rw [bv_set] at hst
  have hsl : Hid ((ln.set (sn - 1) (c + 128)).length = sn) := by
    have h : (ln.set (sn - 1) (c + 128)).length = sn := by rw [List.length_set]; exact hlnl.out
    exact h
  obtain ⟨d, hd⟩ : ∃ d, Hid (c + 128 = d) := ⟨_, rfl⟩
  rw [hd.out] at hor hbs hst hnx4 hsl
  obtain ⟨ls, hls⟩ : ∃ ls, Hid (ln.set (sn - 1) d = ls) := ⟨_, rfl⟩
  rw [hls.out] at hst hnx4 hbs hsl
  obtain ⟨j, hj⟩ : ∃ j, sn = j + 1 := ⟨sn - 1, by omega⟩
  subst hj
  rw [Nat.add_sub_cancel] at hcell hf hst
  have tS : Below w.heap.size w (w3.setCell ⟨g2, j, none⟩ (.int .u8 (d : Int))) := t3.setCell (Nat.le_trans t2.size hg2) _
  have hszS : (w3.setCell ⟨g2, j, none⟩ (.int .u8 (d : Int))).heap.size = w3.heap.size := by simp
  go_upto_region 11 with fail
  obtain ⟨W, hW⟩ : ∃ W, w3.setCell ⟨g2, j, none⟩ (.int .u8 (d : Int)) = W := ⟨_, rfl⟩
  rw [hW] at tS hst hszS ⊢
  have hszW : w2.heap.size ≤ W.heap.size := by omega
  clear hW t3 o3 hcell hf hszS
  go_wp2_with (at_builtin; refine wpList_append_own _ rfl _ _ 25 rfl w2.heap.size 5 i0 (.int .u8 0) 1 1 Try.underlying25 hi hz0 hz1 hz2 rfl (by decide) _ _ _ rfl (hst.alloc _) ⟨W.heap.size, 0, none⟩ 1 1 [.int .u8 0] rfl rfl ?c1 ?c2 ?c3 ?c4 ?c5 ?_)
  case c1 =>
    intro j u hj
    match j, hj with
    | 0, hj => simp at hj; subst hj; simp [Addr.add]
  case c2 => intro u hu; simp at hu; subst hu; rfl
  case c3 => unfold maxLen; omega
  case c4 => omega
  case c5 => simp; omega
  intro v' w4 hown' hgrow _
  have t4 : Below w.heap.size w w4 := (tS.alloc tS.size _).grown hgrow (by have := tS.size; simp; omega) (fun k hk => Nat.le_trans t2.size (hst.lt k hk).1)
  have hrd5 : Hid (Rd .u8 w4 v' (toI (ls ++ [0]))) := by
    have h : w4.ownsRow w2.heap.size 5 1 v' (ls ++ [0]).length (bv (ls ++ [0])) := by
      rw [List.length_append, hsl.out, bv_append]; exact hown'
    exact rd_bv h
  clear hown' hgrow hst
  go_wp2_with fail
  refine (next_any _ (ls ++ [0]) w4 0 0 hrd5.out hbs.out hnx4.out).mono ?_
  rintro e w' ⟨rfl, he⟩; obtain rfl := he.symm; clear he
  clear hrd5 hbs hnx4
  go_wp2_with fail
  refine (size_is _ w4 (sm : Int) hm (by rw [hsm.out])).mono ?_
  rintro e w' ⟨rfl, he⟩; obtain rfl := he.symm; clear he
  go_wp2_with fail
  refine (runs_any w4).mono ?_
  rintro e w5 ⟨rfl, b5⟩
  go_wp2_with fail
  go_ret
  exact ⟨rfl, t4.trans (b5.mono t4.size)⟩
theorem vintNext_walk (a0 a1 a2 : Int) (w : World) (w0 : (Lit.int .i64 a0).wf = true) (w1 : (Lit.int .i64 a1).wf = true) (_w2 : (Lit.int .i64 a2).wf = true) :
    Calls Try.prog 5 #[.int .i64 a0, .int .i64 a1, .int .i64 a2] w fun e w' => e = .returned (.bool true) ∧ Below w.heap.size w w' := next_core a0 a1 a2 w (wf_fits w0) (wf_fits w1)
end Go.Proofs.Ytcllodiefmkpnaa
