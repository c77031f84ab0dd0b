/- What Panes.Copy makes. -/
import Derived.Test.YtnamjnopicghhaaDelete
namespace Go.Proofs.Ytnamjnopicghhaa
open Go.RowKit M
set_option linter.unusedVariables false
set_option linter.unusedSimpArgs false
attribute [local go_sem ↓] Go.wp_at_zero Go.wp_at_succ

set_option maxHeartbeats 1000000 in
set_option maxRecDepth 100000 in
/-- slices.Clone of panes: in new memory. -/
theorem clone_is (v : Value) (o : Nat) (K : Int) (L : List Pn) (w : World) (hS : Sl w v o K L) (hl : L.length ≤ 1000000) :
    Calls Try.prog 75 #[v] w fun e w' => ∃ v' o', e = .returned v' ∧ Sl w' v' o' K L ∧ (∃ a l c, v' = .slice a l c) ∧ w.heap.size ≤ o' ∧ (v' = .slice none 0 0 ∨ o' < w'.heap.size) ∧ Below w.heap.size w w' := by
  rcases hS with ⟨rfl, rfl⟩ | ⟨cap, rfl, hP⟩
  · have hnil := fun w a n c => Lib.run_eql_slice_nil (P := Try.prog) w 106 132 a n c 0 0 Try.underlying106
    go_enter Try.func75, Try.ntmps75
    go_wp2_with fail
    go_ret
    exact ⟨_, w.heap.size, rfl, .inl ⟨rfl, rfl⟩, ⟨_, _, _, rfl⟩, Nat.le_refl _, .inl rfl, Below.refl _ _⟩
  · obtain ⟨i0, hi, hz0, hz1, hz2⟩ := info_parts Try.info132
    have hn1 : L.length ≤ cap := by obtain ⟨_, _, h, _⟩ := hP; exact h
    have hsrc : Hid (∀ j u, (pcs K L)[j]? = some u → (w.alloc (.cells #[] 132)).cell? ((⟨o, 0, none⟩ : Addr).add j) = some u) := fun j u hj => by
      have h := hP.src 0 (Nat.zero_le _) j u (by simpa using hj)
      rw [(below_alloc w (.cells #[] 132)).cell (by rw [Addr.add_lit]; exact hP.lt)]
      simpa using h
    have hown0 : (w.alloc (.cells #[] 132)).ownsRow w.heap.size 132 6 (.slice (some ⟨w.heap.size, 0, none⟩) 0 0) 0 [] :=
      World.ownsRow_lit w #[] 0 (Nat.le_refl _) (by unfold maxLen; omega) (by simp)
    have hlen : Hid ((pcs K L).length = L.length * 6) := pcs_len K L
    clear hP
    obtain ⟨m, hm⟩ : ∃ m, Hid (L.length = m) := ⟨_, rfl⟩
    rw [hm.out] at hn1 hl hlen ⊢
    have hnil := fun w a n c => Lib.run_eql_slice_nil (P := Try.prog) w 106 132 a n c 0 0 Try.underlying106
    go_enter Try.func75, Try.ntmps75
    go_wp2_with (at_builtin; refine wpList_append_own _ rfl _ _ 106 rfl w.heap.size 132 i0 pzero 6 48 Try.underlying106 hi hz0 hz1 hz2 rfl (by decide) _ 0 [] rfl hown0 ⟨o, 0, none⟩ m cap (pcs K L) rfl hlen.out hsrc.out (pcs_one K L) (by unfold maxLen; omega) (by omega) (by simp) ?_)
    intro v' w' hown hg hiff
    have hb : Hid (Below w.heap.size w w') := (below_alloc w _).grown hg (by simp) (fun k hk => by simp [Value.ownBlock] at hk; omega)
    have hne : ¬ v' = .slice none 0 0 := hiff
    clear hg hiff
    obtain ⟨_, h | ⟨g, cp, cur, rfl, h2, hh, h3, h4, h5, h6⟩⟩ := hown
    · exact absurd h.1 hne
    · go_wp2_with fail
      go_ret
      refine ⟨_, g, rfl, .inr ⟨cp, by rw [hm.out]; rfl, cur, hh, by rw [hm.out]; exact h3, h4, h5, by rw [hm.out]; exact h6⟩, ⟨_, _, _, rfl⟩, h2, .inr (Array.getElem?_eq_some_iff.1 hh).1, hb.out⟩
set_option maxHeartbeats 1000000 in
set_option maxRecDepth 100000 in
/-- Panes.Copy. -/
theorem copy_is (b o : Nat) (n sl K : Int) (L : List Pn) (w : World) (hP : Pan w b o n sl K L) (hl : L.length ≤ 1000000) :
    Calls Try.prog 61 #[.pointer (some ⟨b, 0, none⟩)] w fun e w' => ∃ o', e = .returned (.pointer (some ⟨w.heap.size, 0, none⟩)) ∧ Pan w' w.heap.size o' n sl K L ∧ w.heap.size ≤ o' ∧ Below w.heap.size w w' := by
  have hok : Hid (Okl n sl L) := hP.okl
  obtain ⟨v, hb, hs, _, _⟩ := hP
  have hb' : Hid (Pb w b n sl K v) := hb
  have hs' : Hid (Sl w v o K L) := hs
  have hl' : Hid (L.length ≤ 1000000) := hl
  have hform : ∃ a l c, v = .slice a l c := by
    rcases hs with ⟨rfl, _⟩ | ⟨cap, rfl, _⟩
    · exact ⟨_, _, _, rfl⟩
    · exact ⟨_, _, _, rfl⟩
  obtain ⟨a, l, c, rfl⟩ := hform
  obtain ⟨c0, c1, c2, c3, _⟩ := Pan.cells hb
  clear hb hs hl
  go_enter Try.func61, Try.ntmps61
  go_upto_region 2 with fail
  clear c0 c1 c2 c3
  refine world_gen (fun W => Hid (Pb W b n sl K (.slice a l c)) ∧ Hid (Sl W (.slice a l c) o K L) ∧ Hid (Pb W w.heap.size n sl K (.slice a l c)) ∧ Hid (Below w.heap.size w W)) ⟨hb'.out.below (below_alloc _ _), hs'.out.below (below_alloc _ _), ?_, below_alloc _ _⟩ ?_
  · show (w.heap.push _)[w.heap.size]? = _
    simp [Panc]
  clear hb' hs'
  rintro W ⟨hb, hs, hc, hbW⟩
  obtain ⟨q, hq⟩ : ∃ q, Hid (w.heap.size = q) := ⟨_, rfl⟩
  rw [hq.out] at hc ⊢
  obtain ⟨c0, c1, c2, c3, _⟩ := hb.out.c
  go_wp2_with fail
  refine (clone_is (.slice a l c) o K L _ hs.out hl'.out).mono ?_
  rintro e W2 ⟨v', o', rfl, h1, ⟨a', l', c', rfl⟩, h2, h3, h4⟩
  clear c0 c1 c2 c3
  have hc2 : Hid (Pb W2 q n sl K (.slice a l c)) := hc.out.below h4
  have hb2 : Hid (Below q w W2) := by
    have h : Below q w W2 := by rw [← hq.out]; exact below_call hbW.out h4
    exact h
  have hqW : q < W.heap.size := hc.out.lt
  have hs2 : Hid (Sl W2 (.slice a' l' c') o' K L) := h1
  obtain ⟨c0, c1, c2, c3, f3⟩ := hc2.out.c
  have hl2 := h4.size
  clear h1 h4
  go_wp2_with fail
  go_ret
  rw [hq.out]
  have hne : o' ≠ q := by omega
  have hsz : (W2.setCell ⟨q, 3, none⟩ (.slice a' l' c')).heap.size = W2.heap.size := by simp [World.setCell]
  by_cases hn : o' < W2.heap.size
  · refine ⟨o', rfl, ⟨.slice a' l' c', Pan.set3 hc2.out _, ?_, hok.out, by rw [hsz]; exact hn⟩, by omega, hb2.out.setCell (p := ⟨q, 3, none⟩) (Nat.le_refl _) _⟩
    rcases hs2.out with h | ⟨cap, h1, h2⟩
    · exact .inl h
    · exact .inr ⟨cap, h1, h2.keep (Below.heap_setCell _ _ _ _ hne)⟩
  · have hnil : Value.slice a' l' c' = .slice none 0 0 := by rcases h3 with h | h; exact h; exact absurd h hn
    refine ⟨q, rfl, ⟨.slice a' l' c', Pan.set3 hc2.out _, ?_, hok.out, by rw [hsz]; omega⟩, Nat.le_refl _, hb2.out.setCell (p := ⟨q, 3, none⟩) (Nat.le_refl _) _⟩
    rcases hs2.out with h | ⟨cap, h1, h2⟩
    · exact .inl h
    · rw [hnil] at h1; cases h1
end Go.Proofs.Ytnamjnopicghhaa
