/- slices.Equal of rows; whole.Prefix. -/
import Derived.Test.YtombgbdplafooaaSame
import Derived.Test.YtombgbdplafooaaSrc
import Derived.Deep.QuietTactic
import Derived.BigQuiet
namespace Go.Proofs.Ytombgbdplafooaa
open Go.RowKit M
set_option linter.unusedVariables false
set_option linter.unusedSimpArgs false
attribute [local go_sem ↓] Go.wp_at_zero Go.wp_at_succ

theorem take_snocP (L : List Pn) (k : Nat) (h : k < L.length) : L.take (k + 1) = L.take k ++ [pAt L k] := by
  rw [List.take_succ_eq_append_getElem h]
  simp [pAt, List.getD_eq_getElem?_getD, h]
theorem take_sameP (z1 z2 : List Pn) (k : Nat) (h1 : k < z1.length) (h2 : k < z2.length) (a : Pn) (e1 : pAt z1 k = a) (e2 : pAt z2 k = a) (h : z1.take k = z2.take k) : z1.take (k + 1) = z2.take (k + 1) := by
  rw [take_snocP z1 k h1, take_snocP z2 k h2, e1, e2, h]
/-- The first rows of a list. -/
theorem RdR.take {w : World} {ao : Option Addr} {n cap m : Nat} {L : List Pn} (h : RdR w (.slice ao n cap) L) (hm : m ≤ L.length) : RdR w (.slice ao m cap) (L.take m) := by
  obtain ⟨h1, ao', cap', e, h2, h3, hc⟩ := h
  injection e with e1 e2 e3
  subst e1 e2 e3
  have hl : (L.take m).length = m := by rw [List.length_take]; omega
  refine ⟨by omega, ao, cap, by rw [hl], by omega, h3, fun hn => ?_⟩
  obtain ⟨b, off, rfl, hb, hcell⟩ := hc (by omega)
  refine ⟨b, off, rfl, hb, fun j hj => ?_⟩
  have e : pAt (L.take m) j = pAt L j := by
    unfold pAt
    rw [List.getD_eq_getElem?_getD, List.getD_eq_getElem?_getD, List.getElem?_take, if_pos (by omega)]
  rw [e]
  exact hcell j (by omega)
theorem RdR.form {w : World} {v : Value} {L : List Pn} (h : RdR w v L) : ∃ ao cap, v = .slice ao L.length cap ∧ L.length ≤ cap ∧ cap ≤ 9223372036854775807 := by
  obtain ⟨_, ao, cap, h2, h3, h4, _⟩ := h
  exact ⟨ao, cap, h2, h3, h4⟩
theorem rdr_nil (w : World) : RdR w (.slice none 0 0) [] := ⟨by simp, none, 0, rfl, by simp, by simp, by simp⟩
set_option maxHeartbeats 2000000 in
set_option maxRecDepth 100000 in
/-- slices.Equal of rows. -/
theorem equal_r (v1 v2 : Value) (z1 z2 : List Pn) (w : World) (p : Bool) (h1 : RdR w v1 z1) (h2 : RdR w v2 z2) (hp : p = true ↔ z1 = z2) :
    Calls Try.prog 67 #[v1, v2] w fun e w' => e = .returned (.bool p) ∧ Below w.heap.size w w' := by
  have hp' : Hid (p = true ↔ z1 = z2) := hp
  clear hp
  obtain ⟨hl1, ao, cap, rfl, _, _, hc0⟩ := h1
  obtain ⟨hl2, ao2, cap2, rfl, _, _, hc2⟩ := h2
  by_cases hne : z1.length = z2.length
  · rw [← hne] at hc2 hl2 ⊢
    have hc' : Hid (z1.length ≠ 0 → ∃ b off, ao = some ⟨b, off, none⟩ ∧ b < w.heap.size ∧ ∀ j, j < z1.length → RwAt w b (off + j * 5) (pAt z1 j)) := hc0
    have hd' : Hid (z1.length ≠ 0 → ∃ b off, ao2 = some ⟨b, off, none⟩ ∧ b < w.heap.size ∧ ∀ j, j < z1.length → RwAt w b (off + j * 5) (pAt z2 j)) := hc2
    have hne' : Hid (z1.length = z2.length) := hne
    clear hc0 hc2 hne hl2
    obtain ⟨m, hm⟩ : ∃ m, Hid (z1.length = m) := ⟨_, rfl⟩
    rw [hm.out] at hc' hd' hl1 hne' ⊢
    go_enter Try.func67, Try.ntmps67
    go_wp2_with fail
    go_loopw [13] (fun i wr => ∃ k n : Nat, k ≤ m ∧ i = .int .i64 k ∧ wr = w.drewN n ∧ Hid (z1.take k = z2.take k)) (fun i _ => m - (intOf i).toNat)
    case atStart => exact ⟨0, 0, Nat.zero_le _, rfl, rfl, rfl⟩
    case round =>
      obtain ⟨k, n, hk, rfl, rfl, hs⟩ := hrel
      by_cases hlt : k < m
      · obtain ⟨b, off, rfl, _, hc⟩ := hc'.out (by omega)
        obtain ⟨b2, off2, rfl, _, hd⟩ := hd'.out (by omega)
        obtain ⟨p0, p1, p2, p3, p4⟩ := hc k hlt
        obtain ⟨q0, q1, q2, q3, q4⟩ := hd k hlt
        clear hc hd hc' hd'
        obtain ⟨⟨x1, x2, x3, x4, x5⟩, hx⟩ : ∃ x, Hid (pAt z1 k = x) := ⟨_, rfl⟩
        obtain ⟨⟨y1, y2, y3, y4, y5⟩, hy⟩ : ∃ x, Hid (pAt z2 k = x) := ⟨_, rfl⟩
        rw [hx.out] at p0 p1 p2 p3 p4
        rw [hy.out] at q0 q1 q2 q3 q4
        simp only at p0 p1 p2 p3 p4 q0 q1 q2 q3 q4
        by_cases hxx : (⟨x1, x2, x3, x4, x5⟩ : Pn) = ⟨y1, y2, y3, y4, y5⟩
        · have hs2 : Hid (z1.take (k + 1) = z2.take (k + 1)) := take_sameP z1 z2 k (by have := hm.out; omega) (by have := hne'.out; omega) ⟨x1, x2, x3, x4, x5⟩ hx.out (hy.out.trans hxx.symm) hs.out
          injection hxx with e1 e2 e3 e4 e5
          subst e1 e2 e3 e4 e5
          clear hx hy hs
          go_wp2_with fail
          go_quiet (fail)
          go_wp2_with fail
          go_roundw
          case rel => exact ⟨k + 1, n + nq, by omega, by go_num, rfl, hs2⟩
          case measure => simp [intOf]; omega
        · have hd : Hid (p = false) := by
            have h : p = false := by
              rw [Bool.eq_false_iff]
              intro h
              have e := hp'.out.1 h
              rw [e, hy.out] at hx
              exact hxx hx.out.symm
            exact h
          have hxx' : Hid (¬ (⟨x1, x2, x3, x4, x5⟩ : Pn) = ⟨y1, y2, y3, y4, y5⟩) := hxx
          clear hx hy hs hxx
          by_cases hx1 : x1 = y1
          · subst hx1
            by_cases hx2 : x2 = y2
            · subst hx2
              by_cases hx4 : x4 = y4
              · subst hx4
                by_cases hx3 : x3 = y3
                · subst hx3
                  by_cases hx5 : x5 = y5
                  · subst hx5
                    exact absurd rfl hxx'.out
                  · have hx0 : ((x5 : Int) == (y5 : Int)) = false := by simp only [beq_eq_false_iff_ne, ne_eq]; omega
                    clear hxx'
                    go_wp2_with fail
                    go_quiet (fail)
                    go_wp2_with fail
                    go_ret
                    exact ⟨ret_bool hd.out.symm, below_drewN (below_drewN (Below.refl _ _) _) _⟩
                · have hx0 : (x3 == y3) = false := by simpa using hx3
                  clear hxx'
                  go_wp2_with fail
                  go_quiet (fail)
                  go_wp2_with fail
                  go_ret
                  exact ⟨ret_bool hd.out.symm, below_drewN (below_drewN (Below.refl _ _) _) _⟩
              · have hx0 : (x4 == y4) = false := by simpa using hx4
                clear hxx'
                go_wp2_with fail
                go_quiet (fail)
                go_wp2_with fail
                go_ret
                exact ⟨ret_bool hd.out.symm, below_drewN (below_drewN (Below.refl _ _) _) _⟩
            · have hx0 : (x2 == y2) = false := by simpa using hx2
              clear hxx'
              go_wp2_with fail
              go_quiet (fail)
              go_wp2_with fail
              go_ret
              exact ⟨ret_bool hd.out.symm, below_drewN (below_drewN (Below.refl _ _) _) _⟩
          · have hx0 : (x1 == y1) = false := by simpa using hx1
            clear hxx'
            go_wp2_with fail
            go_quiet (fail)
            go_wp2_with fail
            go_ret
            exact ⟨ret_bool hd.out.symm, below_drewN (below_drewN (Below.refl _ _) _) _⟩
      · have hd : Hid (p = true) := by
          have h : p = true := by
            refine hp'.out.2 ?_
            have e := hs.out
            rw [List.take_of_length_le (by have := hm.out; omega), List.take_of_length_le (by have := hne'.out; omega)] at e
            exact e
          exact h
        clear hs
        go_wp2_with fail
        go_ret
        exact ⟨ret_bool hd.out.symm, below_drewN (Below.refl _ _) _⟩
  · have hd : Hid (p = false) := by
      have h : p = false := by
        rw [Bool.eq_false_iff]
        intro h
        exact hne (by rw [hp'.out.1 h])
      exact h
    have hne2 : ((z1.length : Int) != (z2.length : Int)) = true := by simp; omega
    clear hc0 hc2 hp'
    go_enter Try.func67, Try.ntmps67
    go_wp2_with fail
    go_ret
    exact ⟨ret_bool hd.out.symm, Below.refl _ _⟩
theorem prefix_iff {a b : List Pn} (h : a.length ≤ b.length) : a <+: b ↔ a = b.take a.length := List.prefix_iff_eq_take
set_option maxHeartbeats 2000000 in
set_option maxRecDepth 100000 in
/-- whole.Prefix. -/
theorem prefix_is (v1 v2 : Value) (z1 z2 : List Pn) (w : World) (p : Bool) (h1 : RdR w v1 z1) (h2 : RdR w v2 z2) (hp : p = true ↔ z1 <+: z2) :
    Calls Try.prog 46 #[v1, v2] w fun e w' => e = .returned (.bool p) ∧ Below w.heap.size w w' := by
  obtain ⟨ao, cap, rfl, hl1, hm1⟩ := h1.form
  obtain ⟨ao2, cap2, rfl, hl2, hm2⟩ := h2.form
  have h1' : Hid (RdR w (.slice ao z1.length cap) z1) := h1
  have h2' : Hid (RdR w (.slice ao2 z2.length cap2) z2) := h2
  by_cases hle : z1.length ≤ z2.length
  · have hp2 : Hid (p = true ↔ z1 = z2.take z1.length) := hp.trans (prefix_iff hle)
    have h3' : Hid (RdR w (.slice ao2 z1.length cap2) (z2.take z1.length)) := h2.take hle
    clear hp h1 h2 h2'
    obtain ⟨m, hm⟩ : ∃ m, Hid (z1.length = m) := ⟨_, rfl⟩
    obtain ⟨n, hn⟩ : ∃ n, Hid (z2.length = n) := ⟨_, rfl⟩
    rw [hm.out] at h1' h3' hle hl1 hp2 ⊢
    rw [hn.out] at hle hl2 ⊢
    have hle2 : ((m : Int) ≤ (n : Int)) := by omega
    go_enter Try.func46, Try.ntmps46
    go_wp2_with fail
    refine (equal_r _ _ z1 (z2.take m) _ p h1'.out h3'.out hp2.out).mono ?_
    rintro e W1 ⟨rfl, b1⟩
    go_wp2_with fail
    go_ret
    exact ⟨rfl, b1⟩
  · have hd : Hid (p = false) := by
      have h : p = false := by
        rw [Bool.eq_false_iff]
        intro h
        exact hle (hp.1 h).length_le
      exact h
    have hle2 : ¬ ((z1.length : Int) ≤ (z2.length : Int)) := by omega
    clear hp h1 h2 h1' h2'
    go_enter Try.func46, Try.ntmps46
    go_wp2_with fail
    go_ret
    exact ⟨ret_bool hd.out.symm, Below.refl _ _⟩
end Go.Proofs.Ytombgbdplafooaa
