/- ClockPlays, walked: of any list of asks it returns true, and nothing that was there is written. -/
import Derived.Test.YtgpjjkfgobjfcaaRuns
import Derived.Test.YtgpjjkfgobjfcaaFrame
import Derived.Deep.Cut
import Derived.Deep.QuietTactic
import Derived.BigQuiet
namespace Go.Proofs.Ytgpjjkfgobjfcaa
open Go.RowKit

theorem world_gen {P : Program} {c : Code} {Q : Exit → Act → World → Prop} {a : Act} {W : World} (R : World → Prop) (h : R W) (k : ∀ W2, R W2 → c.wp P Q a W2) : c.wp P Q a W := k W h
/-- The block of an ask that was copied. -/
def Qk (w : World) (b : Nat) (t : Int) (a c : Bool) : Prop := w.heap[b]? = some (.cells #[.int .i64 t, .bool a, .bool c] 29 (0, 0))
theorem Qk.c0 {w : World} {b : Nat} {t : Int} {a c : Bool} (h : Qk w b t a c) : w.cell? ⟨b, 0, none⟩ = some (.int .i64 t) := by
  unfold Qk at h; simp [World.cell?, h]
theorem Qk.c1 {w : World} {b : Nat} {t : Int} {a c : Bool} (h : Qk w b t a c) : w.cell? ⟨b, 1, none⟩ = some (.bool a) := by
  unfold Qk at h; simp [World.cell?, h]
theorem Qk.c2 {w : World} {b : Nat} {t : Int} {a c : Bool} (h : Qk w b t a c) : w.cell? ⟨b, 2, none⟩ = some (.bool c) := by
  unfold Qk at h; simp [World.cell?, h]
theorem Qk.but {w w' : World} {b g : Nat} {t : Int} {a c : Bool} (h : Qk w b t a c) (hb : But g w w') (hg : b ≠ g) : Qk w' b t a c := (hb.other b hg).trans h
theorem Qk.lt {w : World} {b : Nat} {t : Int} {a c : Bool} (h : Qk w b t a c) : b < w.heap.size := (Array.getElem?_eq_some_iff.1 h).1
theorem Qk.below {w w' : World} {b : Nat} {t : Int} {a c : Bool} (h : Qk w b t a c) (hb : Below w.heap.size w w') : Qk w' b t a c := (hb.block b h.lt).trans h

theorem clk_make (w : World) (m l s : Int) : Clk (w.alloc (.cells #[.int .i64 m, .int .i64 l, .int .i64 s] 23)) w.heap.size m l s := by
  show (w.heap.push _)[w.heap.size]? = _
  simp [ck]
theorem qk_make (w : World) (t : Int) (a c : Bool) : Qk (w.alloc (.cells #[.int .i64 t, .bool a, .bool c] 29)) w.heap.size t a c := by
  show (w.heap.push _)[w.heap.size]? = _
  simp
theorem adv_ex (m t : Int) : ∃ p m', Adv m t p m' := by
  by_cases h : m < t ∧ t ≤ 1099512676352
  · exact ⟨_, _, .inl ⟨h, rfl, rfl⟩⟩
  · exact ⟨_, _, .inr ⟨h, rfl, rfl⟩⟩
theorem ons_ex (m l s t : Int) : ∃ p l' s', Ons m l s t p l' s' := by
  by_cases h : 0 ≤ t ∧ t ≤ 1099511627776
  · by_cases h1 : t < m
    · exact ⟨_, _, _, .inl ⟨h, .inl ⟨h1, rfl, rfl, rfl⟩⟩⟩
    · exact ⟨_, _, _, .inl ⟨h, .inr ⟨by omega, rfl, rfl, rfl⟩⟩⟩
  · exact ⟨_, _, _, .inr ⟨h, rfl, rfl, rfl⟩⟩

set_option maxHeartbeats 1000000 in
set_option maxRecDepth 100000 in
theorem plays_core (ao : Option Addr) (len cap : Nat) (es : List Ask) (w : World) (hrow : IsAsks w ao len cap es) :
    Calls Try.prog 4 #[.slice ao len cap] w fun e w' => e = .returned (.bool true) ∧ Below w.heap.size w w' := by
  have hn := clk_new w
  have hb := (Below.refl w.heap.size w).alloc (Nat.le_refl _) (.cells #[.int .i64 0, .int .i64 0, .int .i64 0] 23)
  obtain ⟨hlen, hcap, hlc, hr⟩ := asks_at hrow
  have hrow' : Hid (∀ k, k < len → ∃ b off t p q, ao = some ⟨b, off, none⟩ ∧ b < w.heap.size ∧ w.cell? ⟨b, off + k * 3, none⟩ = some (.int .i64 t) ∧ w.cell? ⟨b, off + k * 3 + 1, none⟩ = some (.bool p) ∧ w.cell? ⟨b, off + k * 3 + 2, none⟩ = some (.bool q) ∧ (Lit.int .i64 t).wf = true) := hr
  clear hrow hr
  go_enter Try.func4, Try.ntmps4
  go_wp2_with fail
  go_loopw [4, 5, 6, 7] (fun mv lv sv iv wr => ∃ (k : Nat) (m l s : Int), k ≤ len ∧ k ≤ 40 ∧ mv = .int .i64 m ∧ lv = .int .i64 l ∧ sv = .int .i64 s ∧ iv = .int .i64 k ∧ (0 ≤ l ∧ l ≤ k) ∧ (0 ≤ s ∧ s ≤ k) ∧ Clk wr w.heap.size m l s ∧ Below w.heap.size w wr) (fun _ _ _ i _ => len - (intOf i).toNat)
  case atStart => exact ⟨0, 0, 0, 0, Nat.zero_le _, Nat.zero_le _, rfl, rfl, rfl, rfl, by decide, by decide, hn, hb⟩
  case round =>
    obtain ⟨k, m, l, s, hk, hk40, rfl, rfl, rfl, rfl, hl, hs, hclk, hbw⟩ := hrel
    clear hn hb
    by_cases hlt : k < len
    · by_cases hlt2 : k < 40
      · obtain ⟨b, off, t, a, c, rfl, hb, c0, c1, c2, hwf⟩ := hrow'.out k hlt
        rw [← hbw.cell (p := ⟨b, off + k * 3, none⟩) hb] at c0
        rw [← hbw.cell (p := ⟨b, off + k * 3 + 1, none⟩) hb] at c1
        rw [← hbw.cell (p := ⟨b, off + k * 3 + 2, none⟩) hb] at c2
        clear hrow'
        go_upto_region 7 with fail
        have hcg : w.heap.size < wr.heap.size := hclk.lt
        refine world_gen (fun W => Clk W w.heap.size m l s ∧ Below w.heap.size w W ∧ Qk W wr.heap.size t a c)
          ⟨hclk.below (Below.refl _ _ |>.alloc (Nat.le_refl _) _) hcg, hbw.alloc (Nat.le_of_lt hcg) _, qk_make _ _ _ _⟩ ?_
        clear hclk hbw c0 c1 c2 hb
        rintro W ⟨hclk, hbw, hq⟩
        generalize wr.heap.size = g at hq hcg ⊢
        have q0 := hq.c0
        have q1 := hq.c1
        have q2 := hq.c2
        have d0 := hclk.c0
        have d1 := hclk.c1
        have d2 := hclk.c2
        cases c with
        | true =>
          have hd := clk_make W m l s
          have hbd := (Below.refl W.heap.size W).alloc (Nat.le_refl _) (.cells #[.int .i64 m, .int .i64 l, .int .i64 s] 23)
          have hcd := hclk.lt
          obtain ⟨p1, l1, s1, ho⟩ := ons_ex m l s 3
          obtain ⟨p2, m2, ha⟩ := adv_ex m 1073741824
          go_wp2_with fail
          refine (on_any _ _ _ _ _ _ hd p1 l1 s1 ho (by omega) (by omega)).mono ?_
          rintro e W1 ⟨rfl, k1, b1⟩
          go_wp2_with fail
          refine (advance_any _ _ _ _ _ _ k1 p2 m2 ha).mono ?_
          rintro e W2 ⟨rfl, k2, b2⟩
          have hc1 : Clk (W.alloc (.cells #[.int .i64 m, .int .i64 l, .int .i64 s] 23)) w.heap.size m l s := hclk.below hbd hcd
          have hc2 := b2.clk (b1.clk hc1 (Nat.ne_of_lt hcd)) (Nat.ne_of_lt hcd)
          have hb2 := ((hbw.trans (hbd.mono (Nat.le_of_lt hcd))).trans (b1.below.mono (Nat.le_of_lt hcd))).trans (b2.below.mono (Nat.le_of_lt hcd))
          clear d0 d1 d2 q0 q1 q2 hq hclk hbw hd hbd hcd k1 b1 k2 b2 hc1 ho ha
          go_wp2_with fail
          go_roundw
          case rel => exact ⟨k + 1, m, l, s, by omega, by omega, rfl, rfl, rfl, by go_num, ⟨by omega, by omega⟩, ⟨by omega, by omega⟩, hc2, hb2⟩
          case measure => simp [intOf]; omega
        | false =>
          have hgc : g ≠ w.heap.size := by omega
          have hw64 : -9223372036854775808 ≤ t ∧ t ≤ 9223372036854775807 := by
            obtain ⟨h0, h1⟩ := bounds_i64 hwf
            exact ⟨by omega, by omega⟩
          clear hwf
          cases a with
          | true =>
            by_cases h1 : m < t
            · by_cases h2 : t ≤ 1099512676352
              · go_wp2_with fail
                refine (advance_any _ _ _ _ _ _ hclk true t (.inl ⟨⟨h1, h2⟩, rfl, rfl⟩)).mono ?_
                rintro e W1 ⟨rfl, k1, b1⟩
                have hq1 := hq.but b1 hgc
                have r0 := hq1.c0
                have e0 := k1.c0
                have e1 := k1.c1
                have e2 := k1.c2
                have hb1 := hbw.trans b1.below
                clear d0 d1 d2 q0 q1 q2 hq hclk hbw b1
                go_wp2_with fail
                refine (mark_any _ _ _ _).mono ?_
                rintro e W2 ⟨rfl, b2⟩
                have k2 := k1.below b2 k1.lt
                have hb2 := keep_call hb1 b2 (Nat.le_of_lt k1.lt)
                clear e0 e1 e2 k1 hb1 b2
                have e0 := k2.c0
                have e1 := k2.c1
                have e2 := k2.c2
                go_wp2_with fail
                refine (late_any _ _ _ _).mono ?_
                rintro e W3 ⟨rfl, b3⟩
                have k3 := k2.below b3 k2.lt
                have hb3 := keep_call hb2 b3 (Nat.le_of_lt k2.lt)
                clear e0 e1 e2 k2 hb2 b3
                have e0 := k3.c0
                have e1 := k3.c1
                have e2 := k3.c2
                go_wp2_with fail
                refine (seen_any _ _ _ _).mono ?_
                rintro e W4 ⟨rfl, b4⟩
                have k4 := k3.below b4 k3.lt
                have hb4 := keep_call hb3 b4 (Nat.le_of_lt k3.lt)
                clear e0 e1 e2 k3 hb3 b4
                go_wp2_with fail
                go_roundw
                case rel => exact ⟨k + 1, _, _, _, by omega, by omega, rfl, rfl, rfl, by go_num, ⟨by omega, by omega⟩, ⟨by omega, by omega⟩, k4, hb4⟩
                case measure => simp [intOf]; omega
              · go_wp2_with fail
                refine (advance_any _ _ _ _ _ _ hclk false m (.inr ⟨by omega, rfl, rfl⟩)).mono ?_
                rintro e W1 ⟨rfl, k1, b1⟩
                have e0 := k1.c0
                have e1 := k1.c1
                have e2 := k1.c2
                have hb1 := hbw.trans b1.below
                clear d0 d1 d2 q0 q1 q2 hq hclk hbw b1
                go_wp2_with fail
                refine (mark_any _ _ _ _).mono ?_
                rintro e W2 ⟨rfl, b2⟩
                have k2 := k1.below b2 k1.lt
                have hb2 := keep_call hb1 b2 (Nat.le_of_lt k1.lt)
                clear e0 e1 e2 k1 hb1 b2
                have e0 := k2.c0
                have e1 := k2.c1
                have e2 := k2.c2
                go_wp2_with fail
                refine (late_any _ _ _ _).mono ?_
                rintro e W3 ⟨rfl, b3⟩
                have k3 := k2.below b3 k2.lt
                have hb3 := keep_call hb2 b3 (Nat.le_of_lt k2.lt)
                clear e0 e1 e2 k2 hb2 b3
                have e0 := k3.c0
                have e1 := k3.c1
                have e2 := k3.c2
                go_wp2_with fail
                refine (seen_any _ _ _ _).mono ?_
                rintro e W4 ⟨rfl, b4⟩
                have k4 := k3.below b4 k3.lt
                have hb4 := keep_call hb3 b4 (Nat.le_of_lt k3.lt)
                clear e0 e1 e2 k3 hb3 b4
                go_wp2_with fail
                go_roundw
                case rel => exact ⟨k + 1, _, _, _, by omega, by omega, rfl, rfl, rfl, by go_num, ⟨by omega, by omega⟩, ⟨by omega, by omega⟩, k4, hb4⟩
                case measure => simp [intOf]; omega
            · go_wp2_with fail
              refine (advance_any _ _ _ _ _ _ hclk false m (.inr ⟨by omega, rfl, rfl⟩)).mono ?_
              rintro e W1 ⟨rfl, k1, b1⟩
              have e0 := k1.c0
              have e1 := k1.c1
              have e2 := k1.c2
              have hb1 := hbw.trans b1.below
              clear d0 d1 d2 q0 q1 q2 hq hclk hbw b1
              go_wp2_with fail
              refine (mark_any _ _ _ _).mono ?_
              rintro e W2 ⟨rfl, b2⟩
              have k2 := k1.below b2 k1.lt
              have hb2 := keep_call hb1 b2 (Nat.le_of_lt k1.lt)
              clear e0 e1 e2 k1 hb1 b2
              have e0 := k2.c0
              have e1 := k2.c1
              have e2 := k2.c2
              go_wp2_with fail
              refine (late_any _ _ _ _).mono ?_
              rintro e W3 ⟨rfl, b3⟩
              have k3 := k2.below b3 k2.lt
              have hb3 := keep_call hb2 b3 (Nat.le_of_lt k2.lt)
              clear e0 e1 e2 k2 hb2 b3
              have e0 := k3.c0
              have e1 := k3.c1
              have e2 := k3.c2
              go_wp2_with fail
              refine (seen_any _ _ _ _).mono ?_
              rintro e W4 ⟨rfl, b4⟩
              have k4 := k3.below b4 k3.lt
              have hb4 := keep_call hb3 b4 (Nat.le_of_lt k3.lt)
              clear e0 e1 e2 k3 hb3 b4
              go_wp2_with fail
              go_roundw
              case rel => exact ⟨k + 1, _, _, _, by omega, by omega, rfl, rfl, rfl, by go_num, ⟨by omega, by omega⟩, ⟨by omega, by omega⟩, k4, hb4⟩
              case measure => simp [intOf]; omega
          | false =>
            by_cases h1 : 0 ≤ t
            · by_cases h2 : t ≤ 1099511627776
              · by_cases h3 : t < m
                · go_wp2_with fail
                  refine (on_any _ _ _ _ _ _ hclk false (l + 1) (s + 1) (.inl ⟨⟨h1, h2⟩, .inl ⟨h3, rfl, rfl, rfl⟩⟩) (by omega) (by omega)).mono ?_
                  rintro e W1 ⟨rfl, k1, b1⟩
                  have hq1 := hq.but b1 hgc
                  have r0 := hq1.c0
                  have e0 := k1.c0
                  have e1 := k1.c1
                  have e2 := k1.c2
                  have hb1 := hbw.trans b1.below
                  clear d0 d1 d2 q0 q1 q2 hq hclk hbw b1
                  go_wp2_with fail
                  refine (mark_any _ _ _ _).mono ?_
                  rintro e W2 ⟨rfl, b2⟩
                  have k2 := k1.below b2 k1.lt
                  have hb2 := keep_call hb1 b2 (Nat.le_of_lt k1.lt)
                  clear e0 e1 e2 k1 hb1 b2
                  have e0 := k2.c0
                  have e1 := k2.c1
                  have e2 := k2.c2
                  go_wp2_with fail
                  refine (late_any _ _ _ _).mono ?_
                  rintro e W3 ⟨rfl, b3⟩
                  have k3 := k2.below b3 k2.lt
                  have hb3 := keep_call hb2 b3 (Nat.le_of_lt k2.lt)
                  clear e0 e1 e2 k2 hb2 b3
                  have e0 := k3.c0
                  have e1 := k3.c1
                  have e2 := k3.c2
                  go_wp2_with fail
                  refine (seen_any _ _ _ _).mono ?_
                  rintro e W4 ⟨rfl, b4⟩
                  have k4 := k3.below b4 k3.lt
                  have hb4 := keep_call hb3 b4 (Nat.le_of_lt k3.lt)
                  clear e0 e1 e2 k3 hb3 b4
                  go_wp2_with fail
                  go_roundw
                  case rel => exact ⟨k + 1, _, _, _, by omega, by omega, rfl, rfl, rfl, by go_num, ⟨by omega, by omega⟩, ⟨by omega, by omega⟩, k4, hb4⟩
                  case measure => simp [intOf]; omega
                · have h3' : m ≤ t := by omega
                  go_wp2_with fail
                  refine (on_any _ _ _ _ _ _ hclk true l (s + 1) (.inl ⟨⟨h1, h2⟩, .inr ⟨h3', rfl, rfl, rfl⟩⟩) (by omega) (by omega)).mono ?_
                  rintro e W1 ⟨rfl, k1, b1⟩
                  have hq1 := hq.but b1 hgc
                  have r0 := hq1.c0
                  have e0 := k1.c0
                  have e1 := k1.c1
                  have e2 := k1.c2
                  have hb1 := hbw.trans b1.below
                  clear d0 d1 d2 q0 q1 q2 hq hclk hbw b1
                  go_wp2_with fail
                  refine (mark_any _ _ _ _).mono ?_
                  rintro e W2 ⟨rfl, b2⟩
                  have k2 := k1.below b2 k1.lt
                  have hb2 := keep_call hb1 b2 (Nat.le_of_lt k1.lt)
                  clear e0 e1 e2 k1 hb1 b2
                  have e0 := k2.c0
                  have e1 := k2.c1
                  have e2 := k2.c2
                  go_wp2_with fail
                  refine (late_any _ _ _ _).mono ?_
                  rintro e W3 ⟨rfl, b3⟩
                  have k3 := k2.below b3 k2.lt
                  have hb3 := keep_call hb2 b3 (Nat.le_of_lt k2.lt)
                  clear e0 e1 e2 k2 hb2 b3
                  have e0 := k3.c0
                  have e1 := k3.c1
                  have e2 := k3.c2
                  go_wp2_with fail
                  refine (seen_any _ _ _ _).mono ?_
                  rintro e W4 ⟨rfl, b4⟩
                  have k4 := k3.below b4 k3.lt
                  have hb4 := keep_call hb3 b4 (Nat.le_of_lt k3.lt)
                  clear e0 e1 e2 k3 hb3 b4
                  go_wp2_with fail
                  go_roundw
                  case rel => exact ⟨k + 1, _, _, _, by omega, by omega, rfl, rfl, rfl, by go_num, ⟨by omega, by omega⟩, ⟨by omega, by omega⟩, k4, hb4⟩
                  case measure => simp [intOf]; omega
              · go_wp2_with fail
                refine (on_any _ _ _ _ _ _ hclk false l s (.inr ⟨by omega, rfl, rfl, rfl⟩) (by omega) (by omega)).mono ?_
                rintro e W1 ⟨rfl, k1, b1⟩
                have e0 := k1.c0
                have e1 := k1.c1
                have e2 := k1.c2
                have hb1 := hbw.trans b1.below
                clear d0 d1 d2 q0 q1 q2 hq hclk hbw b1
                go_wp2_with fail
                refine (mark_any _ _ _ _).mono ?_
                rintro e W2 ⟨rfl, b2⟩
                have k2 := k1.below b2 k1.lt
                have hb2 := keep_call hb1 b2 (Nat.le_of_lt k1.lt)
                clear e0 e1 e2 k1 hb1 b2
                have e0 := k2.c0
                have e1 := k2.c1
                have e2 := k2.c2
                go_wp2_with fail
                refine (late_any _ _ _ _).mono ?_
                rintro e W3 ⟨rfl, b3⟩
                have k3 := k2.below b3 k2.lt
                have hb3 := keep_call hb2 b3 (Nat.le_of_lt k2.lt)
                clear e0 e1 e2 k2 hb2 b3
                have e0 := k3.c0
                have e1 := k3.c1
                have e2 := k3.c2
                go_wp2_with fail
                refine (seen_any _ _ _ _).mono ?_
                rintro e W4 ⟨rfl, b4⟩
                have k4 := k3.below b4 k3.lt
                have hb4 := keep_call hb3 b4 (Nat.le_of_lt k3.lt)
                clear e0 e1 e2 k3 hb3 b4
                go_wp2_with fail
                go_roundw
                case rel => exact ⟨k + 1, _, _, _, by omega, by omega, rfl, rfl, rfl, by go_num, ⟨by omega, by omega⟩, ⟨by omega, by omega⟩, k4, hb4⟩
                case measure => simp [intOf]; omega
            · go_wp2_with fail
              refine (on_any _ _ _ _ _ _ hclk false l s (.inr ⟨by omega, rfl, rfl, rfl⟩) (by omega) (by omega)).mono ?_
              rintro e W1 ⟨rfl, k1, b1⟩
              have e0 := k1.c0
              have e1 := k1.c1
              have e2 := k1.c2
              have hb1 := hbw.trans b1.below
              clear d0 d1 d2 q0 q1 q2 hq hclk hbw b1
              go_wp2_with fail
              refine (mark_any _ _ _ _).mono ?_
              rintro e W2 ⟨rfl, b2⟩
              have k2 := k1.below b2 k1.lt
              have hb2 := keep_call hb1 b2 (Nat.le_of_lt k1.lt)
              clear e0 e1 e2 k1 hb1 b2
              have e0 := k2.c0
              have e1 := k2.c1
              have e2 := k2.c2
              go_wp2_with fail
              refine (late_any _ _ _ _).mono ?_
              rintro e W3 ⟨rfl, b3⟩
              have k3 := k2.below b3 k2.lt
              have hb3 := keep_call hb2 b3 (Nat.le_of_lt k2.lt)
              clear e0 e1 e2 k2 hb2 b3
              have e0 := k3.c0
              have e1 := k3.c1
              have e2 := k3.c2
              go_wp2_with fail
              refine (seen_any _ _ _ _).mono ?_
              rintro e W4 ⟨rfl, b4⟩
              have k4 := k3.below b4 k3.lt
              have hb4 := keep_call hb3 b4 (Nat.le_of_lt k3.lt)
              clear e0 e1 e2 k3 hb3 b4
              go_wp2_with fail
              go_roundw
              case rel => exact ⟨k + 1, _, _, _, by omega, by omega, rfl, rfl, rfl, by go_num, ⟨by omega, by omega⟩, ⟨by omega, by omega⟩, k4, hb4⟩
              case measure => simp [intOf]; omega
      · go_wp2_with fail
        refine (clockRuns_walk wr).mono ?_
        rintro e W1 ⟨rfl, b1⟩
        go_wp2
        go_ret
        exact ⟨rfl, keep_call hbw b1 hbw.size⟩
    · go_wp2_with fail
      refine (clockRuns_walk wr).mono ?_
      rintro e W1 ⟨rfl, b1⟩
      go_wp2
      go_ret
      exact ⟨rfl, keep_call hbw b1 hbw.size⟩
theorem clockPlays_walk (a0 : Option Addr) (len0 cap0 : Nat) (z0 : List Ask) (w : World) (w0 : IsAsks w a0 len0 cap0 z0) :
    Calls Try.prog 4 #[.slice a0 len0 cap0] w fun e w' => e = .returned (.bool true) ∧ Below w.heap.size w w' := plays_core a0 len0 cap0 z0 w w0
end Go.Proofs.Ytgpjjkfgobjfcaa
