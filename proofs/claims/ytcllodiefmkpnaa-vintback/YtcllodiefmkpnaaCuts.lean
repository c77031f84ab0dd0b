/- VintCuts, walked: of any list of ints and any number it returns true, and nothing that was there is written. -/
import Derived.Test.YtcllodiefmkpnaaOwn
namespace Go.Proofs.Ytcllodiefmkpnaa
open Go.RowKit M

namespace M
/-- Does an int end at the cut, as far as the first i bytes tell? -/
def wholeB (bs : List Nat) (k i : Nat) : Bool := decide (k = 0) || (decide (1 ≤ k ∧ k ≤ i) && decide (bs.getD (k - 1) 0 < 128))
theorem wholeB_zero (bs : List Nat) (k : Nat) : wholeB bs k 0 = decide (k = 0) := by
  unfold wholeB
  by_cases h : k = 0
  · simp [h]
  · have h2 : ¬ (1 ≤ k ∧ k ≤ 0) := by omega
    rw [decide_eq_false h, decide_eq_false h2]; rfl
theorem wholeB_low (bs : List Nat) (k i c : Nat) (hc : bs.getD i 0 = c) (h : c < 128) : wholeB bs k (i + 1) = (wholeB bs k i || decide (i + 1 = k)) := by
  unfold wholeB
  by_cases h1 : i + 1 = k
  · subst h1
    rw [Nat.add_sub_cancel, hc]
    simp [h]
  · by_cases h2 : 1 ≤ k ∧ k ≤ i
    · have : 1 ≤ k ∧ k ≤ i + 1 := by omega
      simp [h1, h2, this]
    · have : ¬ (1 ≤ k ∧ k ≤ i + 1) := by omega
      simp [h1, h2, this]
theorem wholeB_high (bs : List Nat) (k i c : Nat) (hc : bs.getD i 0 = c) (h : ¬ c < 128) : wholeB bs k (i + 1) = wholeB bs k i := by
  unfold wholeB
  by_cases h1 : i + 1 = k
  · subst h1
    have : ¬ (1 ≤ i + 1 ∧ i + 1 ≤ i) := by omega
    rw [Nat.add_sub_cancel, hc]
    simp [h]
  · by_cases h2 : 1 ≤ k ∧ k ≤ i
    · have : 1 ≤ k ∧ k ≤ i + 1 := by omega
      simp [h2, this]
    · have : ¬ (1 ≤ k ∧ k ≤ i + 1) := by omega
      simp [h2, this]
theorem wholeB_end (bs : List Nat) (k : Nat) (hk : k ≤ bs.length) : wholeB bs k bs.length = true ↔ (k = 0 ∨ ∃ c, bs[k - 1]? = some c ∧ c < 128) := by
  unfold wholeB
  by_cases h0 : k = 0
  · simp [h0]
  · have h1 : 1 ≤ k ∧ k ≤ bs.length := by omega
    have e : bs[k - 1]? = some (bs.getD (k - 1) 0) := by
      rw [List.getD_eq_getElem?_getD, List.getElem?_eq_getElem (by omega)]; rfl
    rw [e]
    simp [h0, h1]
def ends (bs : List Nat) (i : Nat) : Nat := (bs.take i).countP fun c => decide (c < 128)
theorem ends_le (bs : List Nat) (i : Nat) : ends bs i ≤ i := by
  unfold ends
  refine Nat.le_trans List.countP_le_length ?_
  rw [List.length_take]; omega
theorem ends_step (bs : List Nat) (i c : Nat) (h : i < bs.length) (hc : bs.getD i 0 = c) : ends bs (i + 1) = ends bs i + if c < 128 then 1 else 0 := by
  unfold ends
  have : bs.take (i + 1) = bs.take i ++ [c] := by
    rw [List.take_succ_eq_append_getElem h, ← hc]
    simp [List.getD_eq_getElem?_getD, h]
  rw [this, List.countP_append]
  by_cases h1 : c < 128 <;> simp [h1]
theorem ends_all (ns : List Int) : ends (put ns) (put ns).length = ns.length := by
  unfold ends
  rw [List.take_length, ends_count]
/-- What Get tells of the two parts. -/
theorem parts (ns : List Int) (k : Nat) (hf : ∀ n ∈ ns, Fits n) (hk : k ≤ (put ns).length) :
    (wholeB (put ns) k (put ns).length = true ∧ ∃ i, got ((put ns).take k) = some (ns.take i) ∧ got ((put ns).drop k) = some (ns.drop i)) ∨ (wholeB (put ns) k (put ns).length = false ∧ got ((put ns).take k) = none) := by
  cases hw : wholeB (put ns) k (put ns).length with
  | true =>
    left
    obtain ⟨i, _, h1, h2⟩ := cut_whole ns k hk ((wholeB_end _ k hk).1 hw)
    refine ⟨rfl, i, ?_, ?_⟩
    · rw [h1]; exact got_put _ fun n hn => hf n (List.mem_of_mem_take hn)
    · rw [h2]; exact got_put _ fun n hn => hf n (List.mem_of_mem_drop hn)
  | false =>
    right
    refine ⟨rfl, ?_⟩
    cases hg : got ((put ns).take k) with
    | none => rfl
    | some l =>
      exfalso
      have h1 := (got_some _ l (fun c hc => put_bytes ns c (List.mem_of_mem_take hc)) hg).1
      have h2 := (wholeB_end _ k hk).2 (cut_within ns l k h1.symm hk)
      rw [h2] at hw
      cases hw
end M
def sumS (ns : List Int) (i : Nat) : Nat := ((ns.take i).map size).sum
theorem sumS_step (ns : List Int) (i : Nat) (n : Int) (h : i < ns.length) (hn : ns.getD i 0 = n) : sumS ns (i + 1) = sumS ns i + size n := by
  unfold sumS
  rw [take_snoc' ns 0 i h, hn]
  simp
theorem sumS_all (ns : List Int) : sumS ns ns.length = (put ns).length := by
  unfold sumS
  rw [List.take_length, put_len]
  rfl
theorem sumS_le (ns : List Int) (hf : ∀ n ∈ ns, Fits n) : ∀ i, sumS ns i ≤ 10 * i
  | 0 => by simp [sumS]
  | i + 1 => by
    have ih := sumS_le ns hf i
    by_cases h : i < ns.length
    · rw [sumS_step ns i _ h rfl]
      have := (size_ten _ (fits_at hf i h)).2
      omega
    · have : sumS ns (i + 1) = sumS ns i := by
        unfold sumS
        rw [List.take_of_length_le (by omega), List.take_of_length_le (by omega)]
      omega

/-- What a call of Get leaves in its two slots. -/
def GetIs (w : World) (bs : List Nat) (v ok : Value) : Prop :=
  (∃ l base, got bs = some l ∧ ok = .bool true ∧ w.ownsRow base 3 1 v l.length (iv l)) ∨ (got bs = none ∧ ok = .bool false ∧ v = .slice none 0 0)
theorem GetIs.below {w w' : World} {bs : List Nat} {v ok : Value} (h : GetIs w bs v ok) (hb : Below w.heap.size w w') : GetIs w' bs v ok := by
  rcases h with ⟨l, base, h1, h2, h3⟩ | h
  · exact .inl ⟨l, base, h1, h2, own_below h3 hb⟩
  · exact .inr h
/-- vint.Get, its two answers as letters. -/
theorem get_is (v : Value) (bs : List Nat) (w : World) (hv : Rd .u8 w v (toI bs)) (hb : ∀ c ∈ bs, c < 256) (hl : bs.length ≤ 1000) :
    Calls Try.prog 9 #[v] w fun e w' => ∃ u ok, e = .returned (.tuple #[u, ok]) ∧ GetIs w' bs u ok ∧ Below w.heap.size w w' := by
  refine (get_any v bs w hv hb hl).mono ?_
  rintro e w' (⟨l, u, hg, rfl, ho, hb⟩ | ⟨hg, rfl, hb⟩)
  · exact ⟨u, _, rfl, .inl ⟨l, _, hg, rfl, ho⟩, hb⟩
  · exact ⟨_, _, rfl, .inr ⟨hg, rfl, rfl⟩, hb⟩
/-- A row of the call's own: nil, or not. -/
theorem own_shape {w : World} {base : Nat} {v : Value} {l : List Value} {n : Nat} {e : TypeId} (h : w.ownsRow base e 1 v n l) : (v = .slice none 0 0 ∧ n = 0) ∨ ∃ g cap, v = .slice (some ⟨g, 0, none⟩) n cap ∧ n ≤ cap ∧ cap ≤ maxLen := by
  obtain ⟨_, h0 | ⟨g, cap, cur, rfl, hb, hh, h1, hm, _⟩⟩ := h
  · exact .inl h0
  · exact .inr ⟨g, cap, rfl, h1, hm⟩

set_option maxHeartbeats 2000000 in
set_option maxRecDepth 100000 in
theorem cuts_core (ao : Option Addr) (len cap : Nat) (zs : List Int) (cut : Int) (w : World) (hrow : IsInts w ao len cap zs) :
    Calls Try.prog 7 #[.slice ao len cap, .int .i64 cut] w fun e w' => e = .returned (.bool true) ∧ Below w.heap.size w w' := by
  obtain ⟨i0, hi, hz0, hz1, hz2⟩ := info_parts Try.info3
  have hown0 : (w.alloc (.cells #[] 3)).ownsRow w.heap.size 3 1 (.slice (some ⟨w.heap.size, 0, none⟩) 0 0) 0 [] :=
    World.ownsRow_lit w #[] 0 (Nat.le_refl _) (by unfold maxLen; omega) (by simp)
  obtain ⟨K, hK15, hKl, hmin⟩ : ∃ K : Nat, K ≤ 15 ∧ K ≤ len ∧ min (len : Int) 15 = (K : Int) := by
    by_cases h : len ≤ 15
    · exact ⟨len, h, Nat.le_refl _, by omega⟩
    · exact ⟨15, Nat.le_refl _, by omega, by omega⟩
  have hsrc : Hid (Src (w.alloc (.cells #[] 3)) (.slice ao K cap) K (iv (zs.take K))) := (src_row hrow K hKl).below (below_alloc w _) (Nat.le_refl _)
  have hfz : Hid (∀ n ∈ zs.take K, Fits n) := by
    intro n hn
    rcases hrow with ⟨_, _, _, rfl⟩ | ⟨x, _, _, _, _, _, hwf⟩
    · simp at hn
    · exact wf_fits (hwf n (List.mem_of_mem_take hn))
  have hzl : Hid ((zs.take K).length = K) := by
    have h : (zs.take K).length = K := by
      rcases hrow with ⟨_, rfl, _, rfl⟩ | ⟨x, _, h1, _, h3, _⟩
      · simp; omega
      · rw [List.length_take]; omega
    exact h
  obtain ⟨ns0, hns0⟩ : ∃ ns, Hid (zs.take K = ns) := ⟨_, rfl⟩
  rw [hns0.out] at hsrc hfz hzl
  go_enter Try.func7, Try.ntmps7
  go_upto_region 1 with fail
  go_cut [5] (fun v wx => ∃ ns : List Int, ns.length ≤ 15 ∧ Hid (∀ n ∈ ns, Fits n) ∧ wx.ownsRow w.heap.size 3 1 v ns.length (iv ns) ∧ Below w.heap.size w wx)
  case first =>
    rcases hrow with ⟨rfl, rfl, rfl, rfl⟩ | ⟨x, rfl, hlc, hcm, hzl2, hcell, hwf⟩
    · have hK0 : K = 0 := by omega
      subst hK0
      go_wp2_with (at_builtin; refine wpList_append_src _ (by rfl) _ _ 22 rfl w.heap.size 3 i0 (.int .i64 0) 8 Try.underlying22 hi hz0 hz1 hz2 rfl _ 0 [] rfl hown0 _ 0 (iv ns0) rfl hsrc.out (iv_one _) ?c3 ?c4 ?c5 ?_)
      case c3 => unfold maxLen; omega
      case c4 => omega
      case c5 => simp
      intro v' w1 hown' hb1
      go_wp2_with fail
      go_meet
      refine ⟨ns0, by rw [hzl.out]; omega, hfz, ?_, (below_alloc w _).trans hb1⟩
      rw [hzl.out]; simpa using hown'
    · unfold maxLen at hcm
      clear hcell hwf
      have hKc : K ≤ cap := by omega
      go_wp2_with (at_builtin; refine wpList_append_src _ (by rfl) _ _ 22 rfl w.heap.size 3 i0 (.int .i64 0) 8 Try.underlying22 hi hz0 hz1 hz2 rfl _ 0 [] rfl hown0 _ K (iv ns0) rfl hsrc.out (iv_one _) ?c3 ?c4 ?c5 ?_)
      case c3 => unfold maxLen; omega
      case c4 => omega
      case c5 => simp
      intro v' w1 hown' hb1
      go_wp2_with fail
      go_meet
      refine ⟨ns0, by rw [hzl.out]; exact hK15, hfz, ?_, (below_alloc w _).trans hb1⟩
      rw [hzl.out]; simpa using hown'
  case rest =>
    obtain ⟨ns, hn15, hf, hown, t1⟩ := hcut
    clear hown0 hsrc hfz hzl hns0 hrow hmin
    have hnl : (put ns).length ≤ 150 := by
      have := put_len_le ns hf.out
      omega
    go_wp2_with fail
    refine (put_any _ ns _ (rd_iv hown) hf.out (by omega)).mono ?_
    rintro e w2 ⟨u, rfl, hu, b2⟩
    have o2 := own_below hown b2
    have t2 : Below w.heap.size w w2 := t1.trans (b2.mono t1.size)
    clear hown b2 t1
    have hpk : Hid (∀ k, k ≤ (put ns).length → (wholeB (put ns) k (put ns).length = true ∧ ∃ i, got ((put ns).take k) = some (ns.take i) ∧ got ((put ns).drop k) = some (ns.drop i)) ∨ (wholeB (put ns) k (put ns).length = false ∧ got ((put ns).take k) = none)) := fun k hk => parts ns k hf.out hk
    have hea : Hid (ends (put ns) (put ns).length = ns.length) := ends_all ns
    have hsa : Hid (sumS ns ns.length = (put ns).length) := sumS_all ns
    have hbb : Hid (∀ c ∈ put ns, c < 256) := put_bytes ns
    obtain ⟨bs, hbs⟩ : ∃ bs, Hid (put ns = bs) := ⟨_, rfl⟩
    rw [hbs.out] at hnl hu hpk hea hsa hbb
    clear hbs
    have hrb : Hid (Rd .u8 w2 u (toI bs)) := rd_bv hu
    have hro : Hid (Rd .i64 w2 u5 ns) := rd_iv o2
    obtain ⟨ao2, cap2, hue, hsh⟩ : ∃ ao2 cap2, u = .slice ao2 bs.length cap2 ∧ ((ao2 = none ∧ bs.length = 0 ∧ cap2 = 0) ∨ ∃ g, ao2 = some ⟨g, 0, none⟩ ∧ bs.length ≤ cap2 ∧ cap2 ≤ 9223372036854775807) := by
      rcases own_shape hu with ⟨rfl, h⟩ | ⟨g, cap, rfl, h1, h2⟩
      · exact ⟨none, 0, by rw [h], .inl ⟨rfl, h, rfl⟩⟩
      · exact ⟨_, cap, rfl, .inr ⟨g, rfl, h1, by unfold maxLen at h2; omega⟩⟩
    subst hue
    clear hu
    obtain ⟨L, hL⟩ : ∃ L, Hid (bs.length = L) := ⟨_, rfl⟩
    rw [hL.out] at hnl hpk hea hsa hrb hsh ⊢
    go_wp2_with fail
    refine (within_any cut 0 (L : Int) w2 (by decide) (by omega) (by omega)).mono ?_
    rintro e w' ⟨⟨k0, hk0, hk1, rfl⟩, he⟩; obtain rfl := he.symm; clear he
    obtain ⟨k, rfl⟩ := Int.eq_ofNat_of_zero_le hk0
    have hkl : k ≤ L := by omega
    clear hk0 hk1
    go_upto_region 4 with fail
    go_cut [8, 9] (fun v ok wx => GetIs wx (bs.take k) v ok ∧ Below w2.heap.size w2 wx)
    case first =>
      have hrt := hrb.out.take k (by rw [toI_len, hL.out]; exact hkl)
      rw [← toI_take] at hrt
      rcases hsh with ⟨rfl, h0, rfl⟩ | ⟨g, rfl, h1, h2⟩
      · have hk0 : k = 0 := by omega
        subst hk0
        subst h0
        go_wp2_with fail
        refine (get_is _ (bs.take 0) w2 hrt (by simp) (by simp)).mono ?_
        rintro e w3 ⟨v, ok, rfl, hg, b3⟩
        go_wp2_with fail
        go_meet
        exact ⟨hg, b3⟩
      · have hkc : k ≤ cap2 := by omega
        go_wp2_with fail
        refine (get_is _ (bs.take k) w2 hrt (fun c hc => hbb.out c (List.mem_of_mem_take hc)) (by rw [List.length_take, hL.out]; omega)).mono ?_
        rintro e w3 ⟨v, ok, rfl, hg, b3⟩
        go_wp2_with fail
        go_meet
        exact ⟨hg, b3⟩
    case rest =>
      obtain ⟨hg1, b3⟩ := hcut
      have hg1' : Hid (GetIs wc (bs.take k) u8 u9) := hg1
      have t3 : Below w.heap.size w wc := t2.trans (b3.mono t2.size)
      have hrb3 : Hid (Rd .u8 wc (.slice ao2 L cap2) (toI bs)) := hrb.out.below b3 (Nat.le_refl _)
      have o3 := own_below o2 b3
      clear hg1 hrb hro o2 b3 t2
      obtain ⟨w3, hw3⟩ : ∃ w3, w3 = wc := ⟨_, rfl⟩
      subst hw3
      go_upto_region 5 with fail
      go_cut [10, 11] (fun v ok wx => GetIs wx (bs.drop k) v ok ∧ Below w3.heap.size w3 wx)
      case first =>
        rcases hsh with ⟨rfl, h0, rfl⟩ | ⟨g, rfl, h1, h2⟩
        · have hk0 : k = 0 := by omega
          subst hk0
          have hnil : bs = [] := List.eq_nil_of_length_eq_zero (by rw [hL.out]; exact h0)
          subst h0
          go_wp2_with fail
          refine (get_is _ (bs.drop 0) w3 (by rw [hnil]; exact rd_nil _ _) (by rw [hnil]; simp) (by rw [hnil]; simp)).mono ?_
          rintro e w4 ⟨v, ok, rfl, hg, b4⟩
          go_wp2_with fail
          go_meet
          exact ⟨hg, b4⟩
        · have hkc : k ≤ cap2 := by omega
          by_cases hkcap : k = cap2
          · have hnil : bs.drop k = [] := List.drop_of_length_le (by have := hL.out; omega)
            have hbl : k = L := by omega
            subst hkcap
            subst hbl
            go_wp2_with fail
            refine (get_is _ (bs.drop k) w3 (by rw [hnil]; exact Rd.empty (by decide)) (by rw [hnil]; simp) (by rw [hnil]; simp)).mono ?_
            rintro e w4 ⟨v, ok, rfl, hg, b4⟩
            go_wp2_with fail
            go_meet
            exact ⟨hg, b4⟩
          · have hrd := hrb3.out.drop k (by rw [toI_len, hL.out]; exact hkl)
            rw [toI_len, hL.out, ← toI_drop, Nat.zero_add] at hrd
            go_wp2_with fail
            refine (get_is _ (bs.drop k) w3 hrd (fun c hc => hbb.out c (List.mem_of_mem_drop hc)) (by rw [List.length_drop, hL.out]; omega)).mono ?_
            rintro e w4 ⟨v, ok, rfl, hg, b4⟩
            go_wp2_with fail
            go_meet
            exact ⟨hg, b4⟩
      case rest =>
        obtain ⟨hg2, b4⟩ := hcut
        have hg1 := hg1'.out.below b4
        have t4 : Below w.heap.size w wc := t3.trans (b4.mono t3.size)
        have hrb4 : Hid (Rd .u8 wc (.slice ao2 L cap2) (toI bs)) := hrb3.out.below b4 (Nat.le_refl _)
        have o4 : Hid (wc.ownsRow w.heap.size 3 1 u5 ns.length (iv ns)) := own_below o3 b4
        have hro4 : Hid (Rd .i64 wc u5 ns) := rd_iv o4.out
        clear hg1' hrb3 o3 t3 b4
        obtain ⟨wb, ⟨hwb, hparts⟩⟩ : ∃ wb : Bool, Hid (wholeB bs k L = wb) ∧ Hid ((wb = true ∧ ∃ i, got (bs.take k) = some (ns.take i) ∧ got (bs.drop k) = some (ns.drop i)) ∨ (wb = false ∧ got (bs.take k) = none)) := ⟨_, rfl, hpk.out k hkl⟩
        clear hpk
        obtain ⟨ao5, cap5, h5⟩ : ∃ ao5 cap5, u5 = .slice ao5 ns.length cap5 := by
          rcases own_shape o4.out with ⟨rfl, h⟩ | ⟨g, cap, rfl, _⟩
          · exact ⟨none, 0, by rw [h]⟩
          · exact ⟨_, _, rfl⟩
        subst h5
        have hg1' : Hid (GetIs wc (bs.take k) u8 u9) := hg1
        have hg2' : Hid (GetIs wc (bs.drop k) u10 u11) := hg2
        clear hg1 hg2
        go_wp2_with fail
        go_loop [12, 14, 50] (fun e wh i => ∃ j : Nat, j ≤ L ∧ i = .int .i64 j ∧ e = .int .i64 (ends bs j : Nat) ∧ wh = .bool (wholeB bs k j)) (fun _ _ i => L - (intOf i).toNat)
        case atStart =>
          refine ⟨0, Nat.zero_le _, rfl, rfl, ?_⟩
          rw [wholeB_zero, ← nat_beq]
          rfl
        case round =>
          obtain ⟨j, hj, rfl, rfl, rfl⟩ := hrel
          have hel := ends_le bs j
          by_cases hlt : j < L
          · obtain ⟨_, ao3, cap3, he, _, _, hc0⟩ := hrb4.out
            rw [toI_len, hL.out] at he hc0
            obtain ⟨b', off', rfl, hcell⟩ := hc0 (by omega)
            injection he with he1 he2 he3
            subst he1 he3
            have hx := hcell j hlt
            rw [toI_getD] at hx
            obtain ⟨c, hc⟩ : ∃ c, Hid (bs.getD j 0 = c) := ⟨_, rfl⟩
            rw [hc.out] at hx
            clear hcell hc0
            have hes := ends_step bs j c (by rw [hL.out]; exact hlt) hc.out
            obtain ⟨ev, hev⟩ : ∃ ev, Hid (ends bs j = ev) := ⟨_, rfl⟩
            obtain ⟨wv, hwv⟩ : ∃ wv, Hid (wholeB bs k j = wv) := ⟨_, rfl⟩
            rw [hev.out] at hes hel ⊢
            rw [hwv.out]
            by_cases h128 : c < 128
            · have hw2 : Hid (wholeB bs k (j + 1) = (wv || decide (j + 1 = k))) := by
                have h := wholeB_low bs k j c hc.out h128
                rw [hwv.out] at h; exact h
              have hes' : Hid (ends bs (j + 1) = ev + 1) := by
                rw [if_pos h128] at hes; exact hes
              have hd : decide ((c : Int) < 128) = true := decide_eq_true (by omega)
              clear hes hc hev hwv
              cases wv with
              | true =>
                go_wp2_with fail
                go_round
                case rel => exact ⟨j + 1, by omega, by go_num, by rw [hes'.out]; go_num, by rw [hw2.out]; rfl⟩
                case measure => simp [intOf]; omega
              | false =>
                go_wp2_with fail
                go_round
                case rel =>
                  refine ⟨j + 1, by omega, by go_num, by rw [hes'.out]; go_num, ?_⟩
                  rw [hw2.out, Bool.false_or, ← nat_beq]
                  rfl
                case measure => simp [intOf]; omega
            · have hw2 : Hid (wholeB bs k (j + 1) = wv) := by
                have h := wholeB_high bs k j c hc.out h128
                rw [hwv.out] at h; exact h
              have hes' : Hid (ends bs (j + 1) = ev) := by
                rw [if_neg h128] at hes; exact hes
              have hd : decide ((c : Int) < 128) = false := decide_eq_false (by omega)
              clear hes hc hev hwv
              go_wp2_with fail
              go_round
              case rel => exact ⟨j + 1, by omega, by go_num, by rw [hes'.out], by rw [hw2.out]⟩
              case measure => simp [intOf]; omega
          · have hjL : j = L := by omega
            subst hjL
            rw [hea.out, hwb.out]
            clear hea hwb hel hrb4 hj hlt
            have hfl : Hid (∀ i, sumS ns i ≤ 10 * i) := sumS_le ns hf.out
            go_wp2_with fail
            go_loop [13, 69] (fun t i => ∃ q : Nat, q ≤ ns.length ∧ i = .int .i64 q ∧ t = .int .i64 (sumS ns q : Nat)) (fun _ i => ns.length - (intOf i).toNat)
            case atStart => exact ⟨0, Nat.zero_le _, rfl, rfl⟩
            case round =>
              obtain ⟨q, hq, rfl, rfl⟩ := hrel
              by_cases hlt : q < ns.length
              · obtain ⟨_, ao3, cap3, he, _, _, hc0⟩ := hro4.out
                obtain ⟨b', off', rfl, hcell⟩ := hc0 (by omega)
                injection he with he1 he2 he3
                subst he1 he3
                have hx := hcell q hlt
                clear hcell hc0
                have hfn := fits_at hf.out q hlt
                obtain ⟨n, hn⟩ : ∃ n, Hid (ns.getD q 0 = n) := ⟨_, rfl⟩
                rw [hn.out] at hx hfn
                have hst : Hid (sumS ns (q + 1) = sumS ns q + size n) := sumS_step ns q n hlt hn.out
                have hsb := hfl.out q
                obtain ⟨sz, hsz⟩ : ∃ sz, Hid (size n = sz) := ⟨_, rfl⟩
                have hsz10 : sz ≤ 10 := by rw [← hsz.out]; exact (size_ten n hfn).2
                obtain ⟨sv, hsv⟩ : ∃ sv, Hid (sumS ns q = sv) := ⟨_, rfl⟩
                rw [hsv.out] at hst hsb ⊢
                rw [hsz.out] at hst
                clear hn hsv
                go_wp2_with fail
                refine (size_is n wc (sz : Int) hfn (by rw [hsz.out])).mono ?_
                rintro e w' ⟨rfl, he⟩; obtain rfl := he.symm; clear he
                go_wp2_with fail
                go_round
                case rel => exact ⟨q + 1, by omega, by go_num, by rw [hst.out]; go_num⟩
                case measure => simp [intOf]; omega
              · have hqL : q = ns.length := by omega
                subst hqL
                rw [hsa.out]
                clear hsa hfl hq hlt hro4
                obtain ⟨i1, hi1, hy0, hy1, hy2⟩ := info_parts Try.info3
                rcases hparts.out with ⟨rfl, i, hga, hgb⟩ | ⟨rfl, hga⟩
                · rcases hg1'.out with ⟨l1, base1, e1, e2, e3⟩ | ⟨e1, _⟩
                  · rcases hg2'.out with ⟨l2, base2, f1, f2, f3⟩ | ⟨f1, _⟩
                    · rw [hga] at e1
                      rw [hgb] at f1
                      injection e1 with e1
                      injection f1 with f1
                      subst e1 f1 e2 f2
                      have hl1 : (ns.take i).length + (ns.drop i).length = ns.length := by
                        rw [List.length_take, List.length_drop]; omega
                      have hnn : Hid (ns.take i ++ ns.drop i = ns) := List.take_append_drop i ns
                      obtain ⟨x1, hx1⟩ : ∃ x1, Hid (ns.take i = x1) := ⟨_, rfl⟩
                      obtain ⟨x2, hx2⟩ : ∃ x2, Hid (ns.drop i = x2) := ⟨_, rfl⟩
                      rw [hx1.out] at hl1 hnn e3
                      rw [hx2.out] at hl1 hnn f3
                      have s1 : Hid (Src wc u8 x1.length (iv x1)) := src_own e3
                      have s2 : Hid (Src wc u10 x2.length (iv x2)) := src_own f3
                      clear hg1' hg2' hparts hga hgb hx1 hx2 e3 f3
                      have hownL : (wc.alloc (.cells #[] 3)).ownsRow wc.heap.size 3 1 (.slice (some ⟨wc.heap.size, 0, none⟩) 0 0) 0 [] :=
                        World.ownsRow_lit wc #[] 0 (Nat.le_refl _) (by unfold maxLen; omega) (by simp)
                      go_wp2_with (at_builtin; refine wpList_append_src _ (by rfl) _ _ 22 rfl wc.heap.size 3 i1 (.int .i64 0) 8 Try.underlying22 hi1 hy0 hy1 hy2 rfl _ 0 [] rfl hownL _ x1.length (iv x1) rfl (s1.out.below (below_alloc wc _) (Nat.le_refl _)) (iv_one _) (by unfold maxLen; omega) (by omega) (below_alloc wc _).size ?_)
                      intro v5 w5 o5 b5
                      have t5 : Below wc.heap.size wc w5 := (below_alloc wc _).trans b5
                      clear b5 hownL
                      go_wp2_with (at_builtin; refine wpList_append_src _ (by rfl) _ _ 22 rfl wc.heap.size 3 i1 (.int .i64 0) 8 Try.underlying22 hi1 hy0 hy1 hy2 rfl _ _ _ rfl o5 _ x2.length (iv x2) rfl (s2.out.below t5 (Nat.le_refl _)) (iv_one _) (by unfold maxLen; omega) (by omega) t5.size ?_)
                      intro v6 w6 o6 b6
                      have t6 : Below wc.heap.size wc w6 := t5.trans b6
                      have hr6 : Hid (Rd .i64 w6 v6 ns) := by
                        have h : w6.ownsRow wc.heap.size 3 1 v6 ns.length (iv ns) := by
                          have e : iv ns = iv x1 ++ iv x2 := by rw [← iv_append, hnn.out]
                          rw [e]
                          first
                            | exact o6
                            | simpa [hl1] using o6
                        exact rd_iv h
                      have hr7 : Hid (Rd .i64 w6 (.slice ao5 ns.length cap5) ns) := rd_iv (own_below o4.out t6)
                      clear o5 o6 b6 t5 o4 s1 s2
                      go_wp2_with fail
                      refine (same_i _ _ ns ns w6 true hr6.out hr7.out (by simp)).mono ?_
                      rintro e w7 ⟨rfl, b7⟩
                      have t7 : Below w.heap.size w w7 := (t4.trans (t6.mono t4.size)).trans (b7.mono (Nat.le_trans t4.size t6.size))
                      go_wp2_with fail
                      refine (runs_any w7).mono ?_
                      rintro e w8 ⟨rfl, b8⟩
                      go_wp2_with fail
                      go_ret
                      exact ⟨rfl, t7.trans (b8.mono t7.size)⟩
                    · rw [hgb] at f1; cases f1
                  · rw [hga] at e1; cases e1
                · rcases hg1'.out with ⟨l1, base1, e1, _⟩ | ⟨_, e2, e3⟩
                  · rw [hga] at e1; cases e1
                  · subst e2 e3
                    clear hg1' hg2' hparts hga
                    go_wp2_with fail
                    refine (runs_any wc).mono ?_
                    rintro e w8 ⟨rfl, b8⟩
                    go_wp2_with fail
                    go_ret
                    exact ⟨rfl, t4.trans (b8.mono t4.size)⟩
theorem vintCuts_walk (a0 : Option Addr) (len0 cap0 : Nat) (z0 : List Int) (a1 : Int) (w : World) (w0 : IsInts w a0 len0 cap0 z0) (_w1 : (Lit.int .i64 a1).wf = true) :
    Calls Try.prog 7 #[.slice a0 len0 cap0, .int .i64 a1] w fun e w' => e = .returned (.bool true) ∧ Below w.heap.size w w' := cuts_core a0 len0 cap0 z0 a1 w w0
end Go.Proofs.Ytcllodiefmkpnaa
