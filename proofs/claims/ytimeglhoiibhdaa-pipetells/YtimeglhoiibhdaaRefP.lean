/- The document's own answer to whether a pipe may be: cordonref9.RightPipe. -/
import Derived.Test.YtimeglhoiibhdaaPipe
namespace Go.Proofs.Ytimeglhoiibhdaa
open Go.RowKit M
set_option maxHeartbeats 2000000 in
set_option maxRecDepth 100000 in
theorem rpright_is (v : Value) (os : List Oq) (n s a k f : Int) (r : Bool) (w : World) (hv : RdO w v os) (hr : rightP ⟨os, n, s, a, k, f⟩ = r) :
    Calls Try.prog 15 #[pv v n s a k f] w fun e w' => e = .returned (.bool r) ∧ Below w.heap.size w w' := by
  have hr' : Hid (rightL os = false → r = false) := by intro h; rw [← hr]; simp only [rightP, h, Bool.false_and]
  have hs' : Hid (rightB n s = false → r = false) := by intro h; rw [← hr]; simp only [rightP, h, Bool.false_and, Bool.and_false]
  have ha' : Hid (¬ (1 ≤ a ∧ a ≤ 4) → r = false) := by intro h; rw [← hr]; simp only [rightP, decide_eq_false h, Bool.false_and, Bool.and_false]
  have hall : Hid (rightL os = true → rightB n s = true → (1 ≤ a ∧ a ≤ 4) → (sinkB k && sinkB f) = r) := by
    intro h1 h2 h3
    rw [← hr]; simp only [rightP, h1, h2, decide_eq_true h3, Bool.true_and]
  clear hr
  obtain ⟨hlen, hlt, ao, cap, rfl, hcl, hcm, hc0⟩ := hv
  clear hlt
  have hc : Hid (os.length ≠ 0 → ∃ b off, ao = some ⟨b, off, none⟩ ∧ b < w.heap.size ∧ ∀ j, j < os.length → OpAt w b (off + j * 2) (opAt os j)) := hc0
  clear hc0
  obtain ⟨N, hN⟩ : ∃ N, Hid (os.length = N) := ⟨_, rfl⟩
  have hLl : Hid (rightL os = (decide (N ≤ 6) && os.all rightO)) := by
    have h : rightL os = (decide (N ≤ 6) && os.all rightO) := by rw [← hN.out]; rfl
    exact h
  rw [hN.out] at hlen hcl hc ⊢
  go_enter Try.func15, Try.ntmps15
  go_upto_region 1 with fail
  refine world_gen (fun W => Pik W w.heap.size (.slice ao N cap) n s a k f ∧ Below w.heap.size w W) ⟨pik_new _ _ _ _ _ _ _, below_alloc _ _⟩ ?_
  rintro W0 ⟨k0, b0⟩
  obtain ⟨g, hg⟩ : ∃ g, Hid (w.heap.size = g) := ⟨_, rfl⟩
  rw [hg.out] at k0 ⊢
  have c0 := k0.c0
  have c1 := k0.c1
  have c2 := k0.c2
  have c3 := k0.c3
  by_cases h6 : 6 < N
  · have hf : r = false := hr'.out (by rw [hLl.out, decide_eq_false (by omega), Bool.false_and])
    subst hf
    go_wp2_with fail
    go_ret
    exact ⟨rfl, b0⟩
  obtain ⟨rb, hrb⟩ : ∃ rb, Hid (rightB n s = rb) := ⟨_, rfl⟩
  go_wp2_with fail
  refine (wrright_is n s rb _ hrb.out).mono ?_
  rintro e w' ⟨rfl, he⟩; obtain rfl := he.symm; clear he
  cases rb
  · have hf : r = false := hs'.out hrb.out
    subst hf
    go_wp2_with fail
    go_ret
    exact ⟨rfl, b0⟩
  by_cases h1 : a < 1
  · have hf : r = false := ha'.out (by omega)
    subst hf
    go_wp2_with fail
    go_ret
    exact ⟨rfl, b0⟩
  by_cases h4 : 4 < a
  · have hf : r = false := ha'.out (by omega)
    subst hf
    go_wp2_with fail
    go_ret
    exact ⟨rfl, b0⟩
  have hfin : Hid (os.all rightO = true → (sinkB k && sinkB f) = r) := by
    intro h
    exact hall.out (by rw [hLl.out, decide_eq_true (by omega), h]; rfl) hrb.out ⟨by omega, by omega⟩
  have hbad : Hid (os.all rightO = false → r = false) := by
    intro h
    exact hr'.out (by rw [hLl.out, h, Bool.and_false])
  clear hall hr' hs' ha' hLl hrb
  go_wp2_with fail
  clear c0 c1 c2 c3
  go_loopw [30] (fun i wr => ∃ j : Nat, j ≤ N ∧ i = .int .i64 j ∧ Hid ((os.drop j).all rightO = os.all rightO) ∧ Pik wr g (.slice ao N cap) n s a k f ∧ Below w.heap.size w wr) (fun i _ => N - (intOf i).toNat)
  case atStart => exact ⟨0, Nat.zero_le _, rfl, rfl, k0, b0⟩
  case round =>
    clear k0 b0
    obtain ⟨j, hj, rfl, hal, k0, hbw⟩ := hrel
    by_cases hlt : j < N
    · obtain ⟨b, off, rfl, hb, hcell⟩ := hc.out (by omega)
      have hx := (hcell j hlt).below hbw hb
      have hs : Hid ((os.drop j).all rightO = (rightO (opAt os j) && (os.drop (j + 1)).all rightO)) := all_drop os j (by have := hN.out; omega)
      clear hcell hc
      obtain ⟨⟨c, m⟩, hee⟩ : ∃ x, opAt os j = x := ⟨_, rfl⟩
      rw [hee] at hx hs
      clear hee
      obtain ⟨p0, p1⟩ := hx
      simp only at p0 p1
      obtain ⟨p, hp⟩ : ∃ y, Hid (rightO ⟨c, m⟩ = y) := ⟨_, rfl⟩
      rw [hp.out] at hs
      have hbs := hbw.size
      go_wp2_with fail
      refine (rref_is c m p _ hp.out).mono ?_
      rintro e w1 ⟨rfl, b1⟩
      have hb1 := bstep (Below.refl wr.heap.size wr) b1
      have k1 := k0.call hb1
      have bb := bcall hbw hb1
      clear b1 hb1 hbw p0 p1 k0
      cases p with
      | true =>
        go_wp2_with fail
        go_roundw
        case rel => exact ⟨j + 1, by omega, by go_num, hs.out.symm.trans hal.out, k1, bb⟩
        case measure => simp [intOf]; omega
      | false =>
        have hf : r = false := hbad.out (hal.out.symm.trans hs.out)
        subst hf
        go_wp2_with fail
        go_ret
        exact ⟨rfl, bb⟩
    · have hx : (sinkB k && sinkB f) = r := by
        refine hfin.out ?_
        have h := hal.out
        rw [List.drop_of_length_le (by have := hN.out; omega)] at h
        exact h.symm
      have hx' : Hid ((sinkB k && sinkB f) = r) := hx
      clear hx hfin hbad hal hc
      have c4 := k0.c4
      have c5 := k0.c5
      by_cases q1 : -1 ≤ k
      · by_cases q2 : k < 4
        · by_cases q3 : -1 ≤ f
          · go_wp2_with fail
            go_ret
            refine ⟨ret_bool ?_, hbw⟩
            rw [← hx'.out]
            unfold sinkB
            rw [Bool.eq_iff_iff]
            simp
            omega
          · have hd : decide (-1 ≤ f) = false := decide_eq_false q3
            go_wp2_with fail
            go_ret
            refine ⟨ret_bool ?_, hbw⟩
            rw [← hx'.out]
            unfold sinkB
            rw [Bool.eq_iff_iff]
            simp
            omega
        · have hd : decide (k < 4) = false := decide_eq_false q2
          go_wp2_with fail
          go_ret
          refine ⟨ret_bool ?_, hbw⟩
          rw [← hx'.out]
          unfold sinkB
          rw [Bool.eq_iff_iff]
          simp
          omega
      · have hd : decide (-1 ≤ k) = false := decide_eq_false q1
        go_wp2_with fail
        go_ret
        refine ⟨ret_bool ?_, hbw⟩
        rw [← hx'.out]
        unfold sinkB
        rw [Bool.eq_iff_iff]
        simp
        omega
end Go.Proofs.Ytimeglhoiibhdaa
