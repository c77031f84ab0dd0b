/- VintSmall, walked: of any number and any byte it returns true, and nothing that was there is written. -/
import Derived.Test.YtcllodiefmkpnaaOne
import Derived.Deep.RegionHeld3
import Derived.Deep.DrawnRows
namespace Go.Proofs.Ytcllodiefmkpnaa
open Go.RowKit M

namespace M
/-- The bytes of an int near nought. -/
theorem leb_near (k : Int) (h0 : -64 ≤ k) (h1 : k ≤ 63) : leb (zz k) = [zz k] ∧ zz k < 128 := by
  have h : zz k < 128 := by unfold zz; split <;> omega
  exact ⟨leb_small _ h, h⟩
/-- What a byte alone is. -/
theorem got_one (x : Nat) (h : x < 128) : got [x] = some [unzz x] := by
  have e : put [unzz x] = [x] := by rw [put_one, zz_unzz, leb_small x h]
  have hf : ∀ n ∈ [unzz x], Fits n := by
    intro n hn
    rw [List.mem_singleton.1 hn]
    exact unzz_fits x (by omega)
  have := got_put [unzz x] hf
  rw [e] at this; exact this
theorem got_none (x : Nat) (h : 128 ≤ x) (hx : x < 256) : got [x] = none := by
  refine got_stop [x] (by simp) 0 ?_ (by simpa using hx)
  exact nx_dec (dec_all_great [x] (by simpa using h))
theorem unzz_near (x : Nat) (h : x < 128) : -64 ≤ unzz x ∧ unzz x ≤ 63 := by
  unfold unzz
  split <;> omega
end M
theorem size64 : size 64 = 2 := by
  unfold size
  have e : zz 64 = 128 := rfl
  rw [e, leb_great 128 (by decide), leb_small (128 / 128) (by decide)]; rfl
theorem size65 : size (-65) = 2 := by
  unfold size
  have e : zz (-65) = 129 := rfl
  rw [e, leb_great 129 (by decide), leb_small (129 / 128) (by decide)]; rfl
theorem size_near (k : Int) (h0 : -64 ≤ k) (h1 : k ≤ 63) : size k = 1 := by
  unfold size
  rw [(leb_near k h0 h1).1]; rfl

/-- What a region whose order is drawn keeps: two cells. -/
def Two (w : World) (g1 : Nat) (v1 : Value) (g2 : Nat) (v2 : Value) (w' : World) : Prop := Below w.heap.size w w' ∧ w'.cell? ⟨g1, 0, none⟩ = some v1 ∧ w'.cell? ⟨g2, 0, none⟩ = some v2
theorem Two.call {w : World} {g1 g2 : Nat} {v1 v2 : Value} {a b : World} (h : Two w g1 v1 g2 v2 a) (hb : Below a.heap.size a b) : Two w g1 v1 g2 v2 b :=
  ⟨h.1.trans (hb.mono h.1.size), (hb.cell (p := ⟨g1, 0, none⟩) (World.block_lt_of_cell? a _ h.2.1)).trans h.2.1, (hb.cell (p := ⟨g2, 0, none⟩) (World.block_lt_of_cell? a _ h.2.2)).trans h.2.2⟩
theorem Two.drew {w : World} {g1 g2 : Nat} {v1 v2 : Value} {a : World} (h : Two w g1 v1 g2 v2 a) : Two w g1 v1 g2 v2 a.drew := ⟨h.1.drew, h.2.1, h.2.2⟩
theorem near_iff (k y : Int) (x z : Nat) (h1 : zz k = z) (h2 : zz y = x) : (y == k) = ((z : Int) == (x : Int)) := by
  rw [Bool.eq_iff_iff, beq_iff_eq, beq_iff_eq]
  constructor
  · intro h; subst h; rw [← h1, ← h2]
  · intro h
    have : zz y = zz k := by rw [h1, h2]; omega
    exact zz_inj y k this
/-- An operation that yields is taken first: the slot by its number. -/
theorem take_at {P : Program} {ops : Array Oper} {Q : Exit → Act → World → Prop} {md : Region.Mode} {S : World → Prop} {i k : Nat} {oi : Oper} {v : Value} {fuel : Nat} {listed : Array Bool} {a : Act} {w : World} (hi : ops[i]? = some oi) (hd : oi.dst = some k)
    (hs : Region.noSelect ops = true) (hf : Region.free md ops listed i = true) (hr : (Region.ready md ops listed).contains i = true)
    (hQ : ∀ c a w, Q (.panic c) (a.put (some k) v) w → Q (.panic c) a w) (hy : YieldsIf P ops S oi v a) (hS : S w)
    (h : wpAnyH P md ops Q S fuel (listed.setIfInBounds i true) (a.put (some k) v) w) : wpAnyH P md ops Q S (fuel + 1) listed a w := by
  rw [← hd] at h hQ
  exact wpAnyH_take hi hs hf hr hQ hy hS h
attribute [local go_sem ↓] Go.wp_at_zero Go.wp_at_succ
set_option maxHeartbeats 2000000 in
set_option maxRecDepth 100000 in
theorem small_core (n : Int) (x : Nat) (w : World) (hx : x < 256) :
    Calls Try.prog 8 #[.int .i64 n, .int .u8 x] w fun e w' => e = .returned (.bool true) ∧ Below w.heap.size w w' := by
  go_enter Try.func8, Try.ntmps8
  go_wp2_with fail
  refine (within_any n (-64) 63 w (by decide) (by decide) (by decide)).mono ?_
  rintro e w' ⟨⟨k, hk0, hk1, rfl⟩, he⟩; obtain rfl := he.symm; clear he
  have fk : Fits k := ⟨by omega, by omega⟩
  obtain ⟨hlk, hzk⟩ := leb_near k hk0 hk1
  have hzz : Hid (zz k = zz k) := rfl
  obtain ⟨z, hz⟩ : ∃ z, Hid (zz k = z) := ⟨_, rfl⟩
  have hlk' : Hid (leb (zz k) = [z]) := by
    have h := hlk
    rw [hz.out] at h ⊢; exact h
  rw [hz.out] at hzk
  clear hlk hzz
  have hsk : Hid (((size k : Nat) : Int) = 1) := by
    have h : ((size k : Nat) : Int) = 1 := by rw [size_near k hk0 hk1]; rfl
    exact h
  go_wp2_with fail
  refine (put1 w k fk).mono ?_
  rintro e w1 ⟨u, rfl, hu, t1⟩
  rw [hlk'.out] at hu
  obtain ⟨g, cap, rfl, hgc, hcm, _, _⟩ := own_some hu (by simp)
  unfold maxLen at hcm
  have hub : Hid (w1.ownsRow w.heap.size 5 1 (.slice (some ⟨g, 0, none⟩) 1 cap) 1 (bv [z])) := hu
  clear hu
  have e1 : ([z] : List Nat).length = 1 := rfl
  rw [e1] at hgc ⊢
  clear e1
  go_wp2_with fail
  refine (get_any _ [x] _ (rd_lit (e := 5) w1 [(x : Int)] (by simp)) (by simpa using hx) (by simp)).mono ?_
  have hub2 : Hid ((w1.alloc (.cells #[.int .u8 x] 5)).ownsRow w.heap.size 5 1 (.slice (some ⟨g, 0, none⟩) 1 cap) 1 (bv [z])) := own_below hub.out (below_alloc _ _)
  have tA : Below w.heap.size w (w1.alloc (.cells #[.int .u8 x] 5)) := t1.alloc t1.size _
  rintro e w2 (⟨l, u, hgot, rfl, hl, b2⟩ | ⟨hgot, rfl, b2⟩)
  · have hx2 : x < 128 := by
      by_cases h : x < 128
      · exact h
      · rw [got_none x (by omega) hx] at hgot; cases hgot
    rw [got_one x hx2] at hgot
    injection hgot with hgot
    subst hgot
    have t2 : Below w.heap.size w w2 := tA.trans (b2.mono tA.size)
    have hub3 : Hid (w2.ownsRow w.heap.size 5 1 (.slice (some ⟨g, 0, none⟩) 1 cap) 1 (bv [z])) := own_below hub2.out b2
    have hl' : Hid (w2.ownsRow (w1.alloc (.cells #[.int .u8 x] 5)).heap.size 3 1 u 1 (iv [unzz x])) := hl
    obtain ⟨g2, cap2, rfl, hgc2, hcm2, _, _⟩ := own_some hl (by simp)
    unfold maxLen at hcm2
    clear hl b2 hub2 hub tA t1
    have e1 : ([unzz x] : List Int).length = 1 := rfl
    rw [e1] at hgc2 ⊢
    clear e1
    obtain ⟨y0, y1⟩ := unzz_near x hx2
    have hdx : decide ((x : Int) < 128) = true := decide_eq_true (by omega)
    have hfy := unzz_fits x (by omega)
    have hzy : Hid (zz (unzz x) = x) := zz_unzz x
    obtain ⟨y, hy⟩ : ∃ y, Hid (unzz x = y) := ⟨_, rfl⟩
    rw [hy.out] at hl' y0 y1 hfy hzy
    have hcy : w2.cell? ⟨g2, 0, none⟩ = some (.int .i64 y) := by
      rw [hl'.out.cellAt 0 (by simp)]; rfl
    have hcz : w2.cell? ⟨g, 0, none⟩ = some (.int .u8 z) := by
      rw [hub3.out.cellAt 0 (by simp)]; rfl
    go_wp2_with fail
    refine (size_is _ w2 1 fk hsk.out).mono ?_
    rintro e w' ⟨rfl, he⟩; obtain rfl := he.symm; clear he
    go_wp2_with fail
    refine (size_is _ w2 2 ⟨by decide, by decide⟩ (by rw [size64]; rfl)).mono ?_
    rintro e w' ⟨rfl, he⟩; obtain rfl := he.symm; clear he
    go_wp2_with fail
    refine (size_is _ w2 2 ⟨by decide, by decide⟩ (by rw [size65]; rfl)).mono ?_
    rintro e w' ⟨rfl, he⟩; obtain rfl := he.symm; clear he
    go_wp2_with fail
    have hS0 : Hid (Two w g2 (.int .i64 y) g (.int .u8 z) w2) := ⟨t2, hcy, hcz⟩
    have hp1 : Hid (put [y] = [x]) := by
      have h : put [y] = [x] := by rw [put_one, hzy.out, leb_small x hx2]
      exact h
    refine (put_any _ [y] w2 (rd_iv hl'.out) (by simpa using hfy) (by simp)).mono ?_
    rintro e w3 ⟨u, rfl, hu, b3⟩
    rw [hp1.out] at hu
    have hS3 : Hid (Two w g2 (.int .i64 y) g (.int .u8 z) w3) := hS0.out.call b3
    have hu3 := rd_bv (own_below hu (below_alloc w3 (.cells #[.int .u8 x] 5)))
    clear hu b3 hS0 t2 hcy hcz hub3 hl'
    go_wp2_with fail
    refine (same_bytes _ _ [x] [x] _ true hu3 (rd_lit (e := 5) w3 [(x : Int)] (by simp)) (by simp)).mono ?_
    rintro e w4 ⟨rfl, b4⟩
    have hS4 : Two w g2 (.int .i64 y) g (.int .u8 z) w4 := (hS3.out.call (below_alloc w3 _)).call b4
    have hiff := near_iff k y x z hz.out hzy.out
    clear hu3 b4 hS3 hp1 hz hzy hy hlk' hsk
    go_wp2_with fail
    have hcy := hS4.2.1
    have hcz := hS4.2.2
    go_region_held3 (fun w' => Below w.heap.size w w' ∧ w'.cell? ⟨g2, 0, none⟩ = some (.int .i64 y) ∧ w'.cell? ⟨g, 0, none⟩ = some (.int .u8 z)) (first | assumption | exact hS4 | exact hS4.drew | (refine Two.call ?_ hb; assumption))
      (first | (go_at_call 3; refine (runs_any _).mono ?_; rintro e w' ⟨rfl, hb⟩))
    go_wp2_with fail
    go_ret
    exact ⟨rfl, (hS4.drew.call hb).1⟩
  · have hx2 : 128 ≤ x := by
      by_cases h : x < 128
      · rw [got_one x h] at hgot; cases hgot
      · omega
    have hdx : decide ((x : Int) < 128) = false := decide_eq_false (by omega)
    have t2 : Below w.heap.size w w2 := tA.trans (b2.mono tA.size)
    clear hub2 hub tA b2 hgot hz hlk'
    go_wp2_with fail
    refine (size_is _ w2 1 fk hsk.out).mono ?_
    rintro e w' ⟨rfl, he⟩; obtain rfl := he.symm; clear he
    go_wp2_with fail
    refine (size_is _ w2 2 ⟨by decide, by decide⟩ (by rw [size64]; rfl)).mono ?_
    rintro e w' ⟨rfl, he⟩; obtain rfl := he.symm; clear he
    go_wp2_with fail
    refine (size_is _ w2 2 ⟨by decide, by decide⟩ (by rw [size65]; rfl)).mono ?_
    rintro e w' ⟨rfl, he⟩; obtain rfl := he.symm; clear he
    go_wp2_with fail
    refine wp_region_held_drew (S := fun w' => Below w.heap.size w w') (by kernel_rfl) t2.drew (fun hHeld => ?_)
    refine take_at (i := 0) (v := .bool false) rfl rfl (by kernel_rfl) (by kernel_rfl) (by kernel_rfl) (fun _ _ _ h => h) (Or.inl ⟨by rfl, fun w _ => by go_simp⟩) hHeld ?_
    simp only [Act.put, List.setIfInBounds_toArray, List.set_cons_zero, List.set_cons_succ]
    refine take_at (i := 1) (v := .bool true) rfl rfl (by kernel_rfl) (by kernel_rfl) (by kernel_rfl) (fun _ _ _ h => h) (Or.inl ⟨by rfl, fun w _ => by go_simp⟩) hHeld ?_
    simp only [Act.put, List.setIfInBounds_toArray, List.set_cons_zero, List.set_cons_succ]
    refine take_at (i := 2) (v := .bool true) rfl rfl (by kernel_rfl) (by kernel_rfl) (by kernel_rfl) (fun _ _ _ h => h) (Or.inl ⟨by rfl, fun w _ => by go_simp⟩) hHeld ?_
    simp only [Act.put, List.setIfInBounds_toArray, List.set_cons_zero, List.set_cons_succ]
    refine take_at (i := 3) (v := undef) rfl rfl (by kernel_rfl) (by kernel_rfl) (by kernel_rfl) (fun _ _ _ h => h) (Or.inr ⟨by rfl, rfl⟩) hHeld ?_
    simp only [Act.put, List.setIfInBounds_toArray, List.set_cons_zero, List.set_cons_succ]
    refine take_at (i := 4) (v := undef) rfl rfl (by kernel_rfl) (by kernel_rfl) (by kernel_rfl) (fun _ _ _ h => h) (Or.inr ⟨by rfl, rfl⟩) hHeld ?_
    simp only [Act.put, List.setIfInBounds_toArray, List.set_cons_zero, List.set_cons_succ]
    refine take_at (i := 5) (v := undef) rfl rfl (by kernel_rfl) (by kernel_rfl) (by kernel_rfl) (fun _ _ _ h => h) (Or.inr ⟨by rfl, rfl⟩) hHeld ?_
    simp only [Act.put, List.setIfInBounds_toArray, List.set_cons_zero, List.set_cons_succ]
    refine take_at (i := 6) (v := undef) rfl rfl (by kernel_rfl) (by kernel_rfl) (by kernel_rfl) (fun _ _ _ h => h) (Or.inr ⟨by rfl, rfl⟩) hHeld ?_
    simp only [Act.put, List.setIfInBounds_toArray, List.set_cons_zero, List.set_cons_succ]
    refine take_at (i := 7) (v := undef) rfl rfl (by kernel_rfl) (by kernel_rfl) (by kernel_rfl) (fun _ _ _ h => h) (Or.inr ⟨by rfl, rfl⟩) hHeld ?_
    simp only [Act.put, List.setIfInBounds_toArray, List.set_cons_zero, List.set_cons_succ]
    refine take_at (i := 8) (v := undef) rfl rfl (by kernel_rfl) (by kernel_rfl) (by kernel_rfl) (fun _ _ _ h => h) (Or.inr ⟨by rfl, rfl⟩) hHeld ?_
    simp only [Act.put, List.setIfInBounds_toArray, List.set_cons_zero, List.set_cons_succ]
    refine take_at (i := 9) (v := undef) rfl rfl (by kernel_rfl) (by kernel_rfl) (by kernel_rfl) (fun _ _ _ h => h) (Or.inr ⟨by rfl, rfl⟩) hHeld ?_
    simp only [Act.put, List.setIfInBounds_toArray, List.set_cons_zero, List.set_cons_succ]
    refine take_at (i := 10) (v := undef) rfl rfl (by kernel_rfl) (by kernel_rfl) (by kernel_rfl) (fun _ _ _ h => h) (Or.inr ⟨by rfl, rfl⟩) hHeld ?_
    simp only [Act.put, List.setIfInBounds_toArray, List.set_cons_zero, List.set_cons_succ]
    refine take_at (i := 11) (v := undef) rfl rfl (by kernel_rfl) (by kernel_rfl) (by kernel_rfl) (fun _ _ _ h => h) (Or.inr ⟨by rfl, rfl⟩) hHeld ?_
    simp only [Act.put, List.setIfInBounds_toArray, List.set_cons_zero, List.set_cons_succ]
    refine take_at (i := 12) (v := undef) rfl rfl (by kernel_rfl) (by kernel_rfl) (by kernel_rfl) (fun _ _ _ h => h) (Or.inr ⟨by rfl, rfl⟩) hHeld ?_
    simp only [Act.put, List.setIfInBounds_toArray, List.set_cons_zero, List.set_cons_succ]
    refine take_at (i := 13) (v := undef) rfl rfl (by kernel_rfl) (by kernel_rfl) (by kernel_rfl) (fun _ _ _ h => h) (Or.inr ⟨by rfl, rfl⟩) hHeld ?_
    simp only [Act.put, List.setIfInBounds_toArray, List.set_cons_zero, List.set_cons_succ]
    refine take_at (i := 14) (v := .bool true) rfl rfl (by kernel_rfl) (by kernel_rfl) (by kernel_rfl) (fun _ _ _ h => h) (Or.inl ⟨by rfl, fun w _ => by go_simp⟩) hHeld ?_
    simp only [Act.put, List.setIfInBounds_toArray, List.set_cons_zero, List.set_cons_succ]
    refine take_at (i := 15) (v := .bool true) rfl rfl (by kernel_rfl) (by kernel_rfl) (by kernel_rfl) (fun _ _ _ h => h) (Or.inl ⟨by rfl, fun w _ => by go_simp⟩) hHeld ?_
    simp only [Act.put, List.setIfInBounds_toArray, List.set_cons_zero, List.set_cons_succ]
    refine wpAnyH_ready (rs := [16]) (by kernel_rfl) (by simp) ?_
    refine AllReadyH.cons rfl (fun K hK => ?_) AllReadyH.nil
    rw [if_pos (by rfl)]
    go_wp2_with fail
    refine (runs_any _).mono ?_
    rintro e w' ⟨rfl, hb⟩
    have t3 : Below w.heap.size w w' := hHeld.trans (hb.mono hHeld.size)
    go_wp2_with fail
    refine hK.out _ _ t3 (fun hHeld => ?_)
    try simp only [Act.put, List.setIfInBounds_toArray, List.set_cons_zero, List.set_cons_succ]
    refine take_at (i := 17) (v := .bool true) rfl rfl (by kernel_rfl) (by kernel_rfl) (by kernel_rfl) (fun _ _ _ h => h) (Or.inl ⟨by rfl, fun w _ => by go_simp⟩) hHeld ?_
    simp only [Act.put, List.setIfInBounds_toArray, List.set_cons_zero, List.set_cons_succ]
    refine take_at (i := 18) (v := .bool true) rfl rfl (by kernel_rfl) (by kernel_rfl) (by kernel_rfl) (fun _ _ _ h => h) (Or.inl ⟨by rfl, fun w _ => by go_simp⟩) hHeld ?_
    simp only [Act.put, List.setIfInBounds_toArray, List.set_cons_zero, List.set_cons_succ]
    refine wpAnyH_done (by kernel_rfl) ?_ _
    go_wp2_with fail
    go_ret
    exact ⟨rfl, t3⟩
theorem vintSmall_walk (a0 a1 : Int) (w : World) (_w0 : (Lit.int .i64 a0).wf = true) (w1 : (Lit.int .u8 a1).wf = true) :
    Calls Try.prog 8 #[.int .i64 a0, .int .u8 a1] w fun e w' => e = .returned (.bool true) ∧ Below w.heap.size w w' := by
  obtain ⟨x, rfl, hx⟩ := wf_byte w1
  exact small_core a0 x w hx
end Go.Proofs.Ytcllodiefmkpnaa
