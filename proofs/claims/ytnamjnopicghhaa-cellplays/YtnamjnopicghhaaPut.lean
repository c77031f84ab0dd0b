/- What Panes.Put does. -/
import Derived.Test.YtnamjnopicghhaaAt
namespace Go.Proofs.Ytnamjnopicghhaa
open Go.RowKit M
set_option linter.unusedVariables false
set_option linter.unusedSimpArgs false
attribute [local go_sem ↓] Go.wp_at_zero Go.wp_at_succ

/-- A slice of events, in block qb. -/
def EvAt (w : World) (b o : Nat) (e : Ev) : Prop :=
  w.cell? ⟨b, o, none⟩ = some (.int .i64 e.t) ∧ w.cell? ⟨b, o + 1, none⟩ = some (.int .i64 e.k) ∧ w.cell? ⟨b, o + 2, none⟩ = some (.int .i64 e.v) ∧ w.cell? ⟨b, o + 3, none⟩ = some (.int .u64 e.l)
theorem EvAt.keep {w w' : World} {b o : Nat} {e : Ev} (h : EvAt w b o e) (hb : w'.heap[b]? = w.heap[b]?) : EvAt w' b o e := by
  have hc : ∀ p : Addr, p.block = b → w'.cell? p = w.cell? p := fun p hp => World.cell?_of_block (w := w) (by rw [hp]; exact hb)
  obtain ⟨h0, h1, h2, h3⟩ := h
  exact ⟨(hc _ rfl).trans h0, (hc _ rfl).trans h1, (hc _ rfl).trans h2, (hc _ rfl).trans h3⟩
def RdE (w : World) (v : Value) (qb : Nat) (es : List Ev) : Prop :=
  es.length ≤ 9223372036854775807 ∧ (∀ e ∈ es, e.l < 18446744073709551616) ∧ ∃ ao cap, v = .slice ao es.length cap ∧ es.length ≤ cap ∧ cap ≤ 9223372036854775807 ∧ (es.length ≠ 0 → ∃ off, ao = some ⟨qb, off, none⟩ ∧ qb < w.heap.size ∧ ∀ j, j < es.length → EvAt w qb (off + j * 4) (eAt es j))
theorem RdE.keep {w w' : World} {v : Value} {qb : Nat} {es : List Ev} (h : RdE w v qb es) (hz : w.heap.size ≤ w'.heap.size) (hb : qb < w.heap.size → w'.heap[qb]? = w.heap[qb]?) : RdE w' v qb es := by
  obtain ⟨h1, h2, ao, cap, rfl, h3, h4, hc⟩ := h
  refine ⟨h1, h2, ao, cap, rfl, h3, h4, fun hn => ?_⟩
  obtain ⟨off, rfl, hl, hcell⟩ := hc hn
  exact ⟨off, rfl, Nat.lt_of_lt_of_le hl hz, fun j hj => (hcell j hj).keep (hb hl)⟩
theorem RdE.below {w w' : World} {v : Value} {qb : Nat} {es : List Ev} (h : RdE w v qb es) (hb : Below w.heap.size w w') : RdE w' v qb es := h.keep hb.size (fun hl => hb.block qb hl)
theorem RdE.ch {w w' : World} {v : Value} {qb b o : Nat} {es : List Ev} (h : RdE w v qb es) (hc : Ch b o w w') (h1 : qb ≠ b) (h2 : qb ≠ o) : RdE w' v qb es := h.keep hc.size (fun hl => hc.other qb hl h1 h2)
theorem rde_nil (w : World) (qb : Nat) : RdE w (.slice none 0 0) qb [] := ⟨by simp, by simp, none, 0, rfl, by simp, by simp, by simp⟩
theorem eAt_mem (es : List Ev) (j : Nat) (h : j < es.length) : eAt es j ∈ es := by
  simp [eAt, List.getD_eq_getElem?_getD, h]
theorem take_ev (es : List Ev) (k : Nat) (h : k < es.length) : es.take (k + 1) = es.take k ++ [eAt es k] := by
  rw [List.take_succ_eq_append_getElem h]
  simp [eAt, List.getD_eq_getElem?_getD, h]
theorem putL_snoc (n sl K : Int) (L : List Pn) (es : List Ev) (e : Ev) : putL n sl K L (es ++ [e]) = putE n sl K (putL n sl K L es) e := by simp [putL]
theorem putS_snoc (K k x : Int) (l : Nat) (L : List Pn) (ss : List Int) (s : Int) : putS K k x l L (ss ++ [s]) = upd K s k x l (putS K k x l L ss) := by simp [putS]
/-- window.Starts, in new memory. -/
theorem starts_new (t n s : Int) (w : World) :
    Calls Try.prog 81 #[.int .i64 t, .int .i64 n, .int .i64 s] w fun e w' => ∃ ao cap, e = .returned (.slice ao (starts t n s).length cap) ∧ (starts t n s).length ≤ cap ∧ cap ≤ 9223372036854775807 ∧ ((starts t n s).length ≠ 0 → ∃ g, ao = some ⟨g, 0, none⟩ ∧ w.heap.size ≤ g ∧ g < w'.heap.size ∧ ∀ j, j < (starts t n s).length → w'.cell? ⟨g, j, none⟩ = some (.int .i64 ((starts t n s).getD j 0))) ∧ Below w.heap.size w w' := by
  by_cases h : rightB n s = true
  · by_cases h0 : 0 ≤ t ∧ t ≤ 1099511627776
    · refine (starts_some t n s w h h0.1 h0.2).mono ?_
      rintro e w' ⟨u, rfl, hown, hb⟩
      rw [starts_of h h0.1 h0.2]
      have el : (sts t n s).length = cnt t n s := seg_len _ _ _
      rw [← el] at hown
      generalize sts t n s = zs at hown ⊢
      have hown' := hown
      obtain ⟨_, h | ⟨g, cap, cur, rfl, hg, hh, hn, hm, hs, ht⟩⟩ := hown
      · obtain ⟨rfl, h0⟩ := h
        exact ⟨none, 0, by rw [h0], by omega, by omega, fun hne => absurd h0 hne, hb⟩
      · refine ⟨_, cap, rfl, hn, by unfold maxLen at hm; omega, fun _ => ⟨g, rfl, hg, (Array.getElem?_eq_some_iff.1 hh).1, fun j hj => ?_⟩, hb⟩
        have := hown'.cellAt j (by omega)
        rw [this]
        simp [iv, List.getD_eq_getElem?_getD, hj]
    · refine (starts_out t n s w h (by omega)).mono ?_
      rintro e w' ⟨rfl, rfl⟩
      rw [starts_no' (by unfold okT; exact decide_eq_false h0)]
      exact ⟨none, 0, rfl, by simp, by simp, fun hne => absurd rfl hne, Below.refl _ _⟩
  · refine (starts_none t n s w (by simpa using h)).mono ?_
    rintro e w' ⟨rfl, rfl⟩
    rw [starts_no (by simpa using h)]
    exact ⟨none, 0, rfl, by simp, by simp, fun hne => absurd rfl hne, Below.refl _ _⟩
/-- A Panes that has a window has its row. -/
theorem Pan.row {w : World} {b o : Nat} {n sl K : Int} {L : List Pn} (h : Pan w b o n sl K L) (hne : L ≠ []) : ∃ cap, Pb w b n sl K (.slice (some ⟨o, 0, none⟩) L.length cap) ∧ PRow w o cap K L ∧ o ≠ b := by
  obtain ⟨v, hb, hs, hk, _⟩ := h
  rcases hs with ⟨_, h⟩ | ⟨cap, rfl, hp⟩
  · exact absurd h hne
  · exact ⟨cap, hb, hp, by obtain ⟨cur, hh, _⟩ := hp; exact row_ne hb hh⟩
/-- pane.take of the pane that Panes.at has found. -/
theorem take_pan (b o : Nat) (n sl K : Int) (L : List Pn) (s : Int) (e : Ev) (w : World) (hP : Pan w b o n sl K (ens s e.k L)) (hle : e.l < 18446744073709551616) (hU : Okl n sl (upd K s e.k e.v e.l L)) :
    Calls Try.prog 83 #[.pointer (some ⟨o, pos s e.k L * 6, none⟩), evv e] w fun r w' => r = .returned (.tuple #[]) ∧ Pan w' b o n sl K (upd K s e.k e.v e.l L) ∧ Ch o o w w' := by
  have hlt := (ens_len s e.k L).2
  have hne : ens s e.k L ≠ [] := by intro h; rw [h] at hlt; simp at hlt
  obtain ⟨cap, hb, hp, hob⟩ := hP.row hne
  refine (take_is o cap _ K _ e w hp hlt hle (hP.okl.2 _ (pAt_mem _ _ hlt)).1.2.2).mono ?_
  rintro r w' ⟨rfl, hrow, hch⟩
  refine ⟨rfl, ?_, hch⟩
  rw [← upd_eq] at hrow
  have hl : (upd K s e.k e.v e.l L).length = (ens s e.k L).length := by rw [upd_eq, List.length_set]
  exact ⟨_, hb.ch hch hob.symm hob.symm, .inr ⟨cap, by rw [hl], hrow⟩, hU, hrow.lt⟩
set_option maxHeartbeats 1000000 in
set_option maxRecDepth 100000 in
/-- Panes.Put. -/
theorem put_is (b o : Nat) (n sl K : Int) (L : List Pn) (v : Value) (qb : Nat) (es : List Ev) (w : World) (hP : Pan w b o n sl K L) (hE : RdE w v qb es) (hqb : qb ≠ b) (hqo : qb ≠ o) (hl : L.length + 8 * es.length ≤ 1000000) :
    Calls Try.prog 71 #[.pointer (some ⟨b, 0, none⟩), v] w fun e w' => ∃ o', e = .returned (.tuple #[]) ∧ Pan w' b o' n sl K (putL n sl K L es) ∧ (o' = o ∨ w.heap.size ≤ o') ∧ Ch b o w w' := by
  obtain ⟨h1, hlab, ao, cap, rfl, h2, h3, hc⟩ := hE
  have hcell : Hid (∀ j, j < es.length → ∃ off, ao = some ⟨qb, off, none⟩ ∧ qb < w.heap.size ∧ EvAt w qb (off + j * 4) (eAt es j)) := fun j hj => by
    obtain ⟨off, e1, e2, e3⟩ := hc (by omega)
    exact ⟨off, e1, e2, e3 j hj⟩
  have hlab' : Hid (∀ e ∈ es, e.l < 18446744073709551616) := hlab
  have h0 : Hid (Pan w b o n sl K (putL n sl K L (es.take 0))) := by
    have h : Pan w b o n sl K (putL n sl K L (es.take 0)) := by simpa [putL] using hP
    exact h
  have hl' : Hid (L.length + 8 * es.length ≤ 1000000) := hl
  clear hc hlab hP hl
  obtain ⟨m, hm⟩ : ∃ m, Hid (es.length = m) := ⟨_, rfl⟩
  rw [hm.out] at h1 h2 hcell hl' ⊢
  go_enter Try.func71, Try.ntmps71
  go_wp2_with fail
  go_loopw [10] (fun i wr => ∃ j o1 : Nat, j ≤ m ∧ i = .int .i64 j ∧ Hid (Pan wr b o1 n sl K (putL n sl K L (es.take j))) ∧ (o1 = o ∨ w.heap.size ≤ o1) ∧ Hid (Ch b o w wr)) (fun i _ => m - (intOf i).toNat)
  case atStart => exact ⟨0, o, Nat.zero_le _, rfl, h0, .inl rfl, Ch.refl _ _ _⟩
  case round =>
    obtain ⟨j, o1, hj, rfl, hP, ho1, hch⟩ := hrel
    clear h0
    by_cases hlt : j < m
    · obtain ⟨off, rfl, hq, hev⟩ := hcell.out j hlt
      have hev2 := hev.keep (hch.out.other qb hq hqb hqo)
      have hel := hlab'.out _ (eAt_mem es j (by rw [hm.out]; exact hlt))
      have hLn : Hid ((putL n sl K L (es.take j)).length + 8 ≤ 1000000) := by
        have h : (putL n sl K L (es.take j)).length + 8 ≤ 1000000 := by
          have h1 := putL_len n sl K (es.take j) L
          rw [List.length_take, hm.out] at h1
          have := hl'.out
          omega
        exact h
      have hsn : Hid (putL n sl K L (es.take (j + 1)) = putE n sl K (putL n sl K L (es.take j)) (eAt es j)) := by
        have h : putL n sl K L (es.take (j + 1)) = putE n sl K (putL n sl K L (es.take j)) (eAt es j) := by
          rw [take_ev es j (by rw [hm.out]; exact hlt), putL_snoc]
        exact h
      obtain ⟨e, hee⟩ : ∃ e, Hid (eAt es j = e) := ⟨_, rfl⟩
      obtain ⟨L1, hL1⟩ : ∃ L1, Hid (putL n sl K L (es.take j) = L1) := ⟨_, rfl⟩
      rw [hee.out] at hev2 hel hsn
      rw [hL1.out] at hP hsn hLn
      clear hev hee hL1 hcell
      obtain ⟨c0, c1, c2, c3⟩ := hev2
      go_upto_region 3 with fail
      clear c0 c1 c2 c3
      have ho1l : o1 < wr.heap.size := hP.out.olt
      have hbl : b < wr.heap.size := hP.out.lt
      have hwz : w.heap.size ≤ wr.heap.size := hch.out.size
      refine world_gen (fun W => Hid (Pan W b o1 n sl K L1) ∧ Hid (Evk W wr.heap.size e) ∧ Hid (Ch b o w W)) ⟨hP.out.below (below_alloc _ _), evk_new _ _, hch.out.alloc _⟩ ?_
      clear hP hch
      rintro W ⟨hP, hE, hch⟩
      generalize wr.heap.size = q at hE ho1l hbl hwz ⊢
      obtain ⟨va, hPb, hSl, _, _⟩ := id hP.out
      have hPb' : Hid (Pb W b n sl K va) := hPb
      clear hPb hSl
      refine wp_region_held_drew (S := fun X => Below W.heap.size W X) (by kernel_rfl) (Below.refl _ _).drew (fun hHeld => ?_)
      generalize W.drew = V at hHeld ⊢
      refine take_at (i := 0) (v := .pointer (some ⟨q, 0, none⟩)) rfl rfl (by kernel_rfl) (by kernel_rfl) (by kernel_rfl) (fun _ _ _ h => h) (Or.inl ⟨by rfl, fun X _ => by go_simp⟩) hHeld ?_
      try simp only [Act.put, List.setIfInBounds_toArray, List.set_cons_zero, List.set_cons_succ]
      refine take_at (i := 1) (v := .int .i64 e.t) rfl rfl (by kernel_rfl) (by kernel_rfl) (by kernel_rfl) (fun _ _ _ h => h) (Or.inl ⟨by rfl, fun X hX => by obtain ⟨c0, c1, c2, c3⟩ := (hE.out.below hX).c; go_simp⟩) hHeld ?_
      try simp only [Act.put, List.setIfInBounds_toArray, List.set_cons_zero, List.set_cons_succ]
      refine take_at (i := 2) (v := .pointer (some ⟨b, 0, none⟩)) rfl rfl (by kernel_rfl) (by kernel_rfl) (by kernel_rfl) (fun _ _ _ h => h) (Or.inl ⟨by rfl, fun X _ => by go_simp⟩) hHeld ?_
      try simp only [Act.put, List.setIfInBounds_toArray, List.set_cons_zero, List.set_cons_succ]
      refine take_at (i := 3) (v := .pointer (some ⟨b, 0, none⟩)) rfl rfl (by kernel_rfl) (by kernel_rfl) (by kernel_rfl) (fun _ _ _ h => h) (Or.inl ⟨by rfl, fun X _ => by go_simp⟩) hHeld ?_
      try simp only [Act.put, List.setIfInBounds_toArray, List.set_cons_zero, List.set_cons_succ]
      refine take_at (i := 4) (v := .pointer (some ⟨b, 0, none⟩)) rfl rfl (by kernel_rfl) (by kernel_rfl) (by kernel_rfl) (fun _ _ _ h => h) (Or.inl ⟨by rfl, fun X _ => by go_simp⟩) hHeld ?_
      try simp only [Act.put, List.setIfInBounds_toArray, List.set_cons_zero, List.set_cons_succ]
      refine take_at (i := 5) (v := .int .i64 n) rfl rfl (by kernel_rfl) (by kernel_rfl) (by kernel_rfl) (fun _ _ _ h => h) (Or.inl ⟨by rfl, fun X hX => by obtain ⟨c0, c1, c2, c3, _⟩ := (hPb'.out.below hX).c; go_simp⟩) hHeld ?_
      try simp only [Act.put, List.setIfInBounds_toArray, List.set_cons_zero, List.set_cons_succ]
      refine take_at (i := 6) (v := .pointer (some ⟨b, 0, none⟩)) rfl rfl (by kernel_rfl) (by kernel_rfl) (by kernel_rfl) (fun _ _ _ h => h) (Or.inl ⟨by rfl, fun X _ => by go_simp⟩) hHeld ?_
      try simp only [Act.put, List.setIfInBounds_toArray, List.set_cons_zero, List.set_cons_succ]
      refine take_at (i := 7) (v := .pointer (some ⟨b, 0, none⟩)) rfl rfl (by kernel_rfl) (by kernel_rfl) (by kernel_rfl) (fun _ _ _ h => h) (Or.inl ⟨by rfl, fun X _ => by go_simp⟩) hHeld ?_
      try simp only [Act.put, List.setIfInBounds_toArray, List.set_cons_zero, List.set_cons_succ]
      refine take_at (i := 8) (v := .pointer (some ⟨b, 1, none⟩)) rfl rfl (by kernel_rfl) (by kernel_rfl) (by kernel_rfl) (fun _ _ _ h => h) (Or.inl ⟨by rfl, fun X _ => by go_simp⟩) hHeld ?_
      try simp only [Act.put, List.setIfInBounds_toArray, List.set_cons_zero, List.set_cons_succ]
      refine take_at (i := 9) (v := .int .i64 sl) rfl rfl (by kernel_rfl) (by kernel_rfl) (by kernel_rfl) (fun _ _ _ h => h) (Or.inl ⟨by rfl, fun X hX => by obtain ⟨c0, c1, c2, c3, _⟩ := (hPb'.out.below hX).c; go_simp⟩) hHeld ?_
      try simp only [Act.put, List.setIfInBounds_toArray, List.set_cons_zero, List.set_cons_succ]
      refine take_at (i := 12) (v := .int .i64 0) rfl rfl (by kernel_rfl) (by kernel_rfl) (by kernel_rfl) (fun _ _ _ h => h) (Or.inl ⟨by rfl, fun X _ => by go_simp⟩) hHeld ?_
      try simp only [Act.put, List.setIfInBounds_toArray, List.set_cons_zero, List.set_cons_succ]
      have hWV : W.heap.size ≤ V.heap.size := hHeld.size
      refine wpAnyH_ready (rs := [10]) (by kernel_rfl) (by simp) ?_
      refine AllReadyH.cons rfl (fun KK hK => ?_) AllReadyH.nil
      rw [if_pos (by rfl)]
      go_wp2_with fail
      refine (starts_new e.t n sl _).mono ?_
      rintro r V2 ⟨sa, cs, rfl, hs1, hs2, hs3, hb2⟩
      have hs3' : Hid ((starts e.t n sl).length ≠ 0 → ∃ g, sa = some ⟨g, 0, none⟩ ∧ V.heap.size ≤ g ∧ g < V2.heap.size ∧ ∀ j, j < (starts e.t n sl).length → V2.cell? ⟨g, j, none⟩ = some (.int .i64 ((starts e.t n sl).getD j 0))) := hs3
      obtain ⟨c, hcl⟩ : ∃ c, Hid ((starts e.t n sl).length = c) := ⟨_, rfl⟩
      rw [hcl.out] at hs1 hs3' ⊢
      clear hs3
      go_wp2_with fail
      refine hK.out _ _ (below_call hHeld hb2) (fun hHeld => ?_)
      clear hK KK
      try simp only [Act.put, List.setIfInBounds_toArray, List.set_cons_zero, List.set_cons_succ]
      refine take_at (i := 11) (v := .int .i64 (c : Int)) rfl rfl (by kernel_rfl) (by kernel_rfl) (by kernel_rfl) (fun _ _ _ h => h) (Or.inl ⟨by rfl, fun X _ => by go_simp⟩) hHeld ?_
      try simp only [Act.put, List.setIfInBounds_toArray, List.set_cons_zero, List.set_cons_succ]
      refine wpAnyH_done (by kernel_rfl) ?_ _
      have hP2 : Hid (Pan V2 b o1 n sl K (putS K e.k e.v e.l L1 ((starts e.t n sl).take 0))) := by
        have h : Pan V2 b o1 n sl K (putS K e.k e.v e.l L1 ((starts e.t n sl).take 0)) := by simpa [putS] using hP.out.below hHeld
        exact h
      have hE2 : Hid (Evk V2 q e) := hE.out.below hHeld
      have hch2 : Hid (Ch b o w V2) := hch.out.trans (Ch.ofBelow hHeld) (.inl rfl)
      have hqV : q < V2.heap.size := hE2.out.lt
      have hVz : q < V.heap.size := Nat.lt_of_lt_of_le hE.out.lt hWV
      have hst : Hid (∀ t, t < c → ∃ g, sa = some ⟨g, 0, none⟩ ∧ q < g ∧ g < V2.heap.size ∧ V2.cell? ⟨g, t, none⟩ = some (.int .i64 ((starts e.t n sl).getD t 0))) := fun t ht => by
        obtain ⟨g, e1, e2, e3, e4⟩ := hs3'.out (by omega)
        exact ⟨g, e1, by omega, e3, e4 t ht⟩
      clear hHeld hb2 hP hE hch hPb' hs3' hWV
      have hss : Hid (∀ t, t < c → rightB n sl = true ∧ 0 ≤ (starts e.t n sl).getD t 0 ∧ (starts e.t n sl).getD t 0 ≤ 1099511627776 ∧ (starts e.t n sl).take (t + 1) = (starts e.t n sl).take t ++ [(starts e.t n sl).getD t 0]) := fun t ht => by
        have htl : t < (starts e.t n sl).length := by rw [hcl.out]; exact ht
        have hmem : (starts e.t n sl).getD t 0 ∈ starts e.t n sl := by simp [List.getD_eq_getElem?_getD, htl]
        have h := mem_starts hmem
        exact ⟨h.1, h.2.1, by omega, take_snoc' _ _ _ htl⟩
      have hc8 : c ≤ 8 := by rw [← hcl.out]; exact starts_len _ _ _
      obtain ⟨ss, hsse⟩ : ∃ ss, Hid (starts e.t n sl = ss) := ⟨_, rfl⟩
      have hpE : Hid (putE n sl K L1 e = putS K e.k e.v e.l L1 ss) := by
        have h : putE n sl K L1 e = putS K e.k e.v e.l L1 ss := by unfold putE; rw [hsse.out]
        exact h
      rw [hsse.out] at hcl hP2 hst hss
      clear hsse
      go_wp2_with fail
      go_loopw [26] (fun i wx => ∃ t o2 : Nat, t ≤ c ∧ i = .int .i64 t ∧ Hid (Pan wx b o2 n sl K (putS K e.k e.v e.l L1 (ss.take t))) ∧ (o2 = o1 ∨ V2.heap.size ≤ o2) ∧ Hid (Ch b o1 V2 wx)) (fun i _ => c - (intOf i).toNat)
      case atStart => exact ⟨0, o1, Nat.zero_le _, rfl, hP2, .inl rfl, Ch.refl _ _ _⟩
      case round =>
        obtain ⟨t, o2, ht, rfl, hP3, ho2, hch3⟩ := hrel
        clear hP2
        by_cases htc : t < c
        · obtain ⟨g, rfl, hqg, hg2, hgc⟩ := hst.out t htc
          have hgc2 : wr.cell? ⟨g, t, none⟩ = some (.int .i64 (ss.getD t 0)) := by
            rw [hch3.out.cell (p := ⟨g, t, none⟩) hg2 (by show g ≠ b; omega) (by show g ≠ o1; omega)]
            exact hgc
          obtain ⟨hr, hs0, hs1', hsnt⟩ := hss.out t htc
          have hE3 : Hid (Evk wr q e) := hE2.out.ch hch3.out (by omega) (by omega)
          have hsnt' : Hid (putS K e.k e.v e.l L1 (ss.take (t + 1)) = upd K (ss.getD t 0) e.k e.v e.l (putS K e.k e.v e.l L1 (ss.take t))) := by
            have h : putS K e.k e.v e.l L1 (ss.take (t + 1)) = upd K (ss.getD t 0) e.k e.v e.l (putS K e.k e.v e.l L1 (ss.take t)) := by rw [hsnt, putS_snoc]
            exact h
          have hlen : Hid ((putS K e.k e.v e.l L1 (ss.take t)).length ≤ 1000000) := by
            have h : (putS K e.k e.v e.l L1 (ss.take t)).length ≤ 1000000 := by
              have h1 := putS_len K e.k e.v e.l (ss.take t) L1
              have h2 : (ss.take t).length ≤ 8 := by rw [List.length_take]; omega
              have := hLn.out
              omega
            exact h
          obtain ⟨x, hx⟩ : ∃ x, Hid (ss.getD t 0 = x) := ⟨_, rfl⟩
          obtain ⟨L2, hL2⟩ : ∃ L2, Hid (putS K e.k e.v e.l L1 (ss.take t) = L2) := ⟨_, rfl⟩
          rw [hx.out] at hgc2 hs0 hs1' hsnt'
          rw [hL2.out] at hP3 hsnt' hlen
          have hokU : Hid (Okl n sl (upd K x e.k e.v e.l L2)) := okl_upd hP3.out.okl hs0 hs1' hr hel
          have hr' : Hid (rightB n sl = true) := hr
          clear hsnt hgc hx hL2 hr
          go_upto_region 6 with fail
          refine wp_region_held_drew (S := fun X => Hid (Evk X q e)) (by kernel_rfl) (show Evk wr.drew q e from hE3.out) (fun hHeld => ?_)
          have hP4 : Hid (Pan wr.drew b o2 n sl K L2) := hP3.out
          have hch4 : Hid (Ch b o1 V2 wr.drew) := hch3.out.drew
          clear hE3 hP3 hch3 hgc2
          generalize wr.drew = V at hHeld hP4 hch4 ⊢
          refine take_at (i := 0) (v := .pointer (some ⟨b, 0, none⟩)) rfl rfl (by kernel_rfl) (by kernel_rfl) (by kernel_rfl) (fun _ _ _ h => h) (Or.inl ⟨by rfl, fun X _ => by go_simp⟩) hHeld ?_
          try simp only [Act.put, List.setIfInBounds_toArray, List.set_cons_zero, List.set_cons_succ]
          refine take_at (i := 1) (v := .int .i64 x) rfl rfl (by kernel_rfl) (by kernel_rfl) (by kernel_rfl) (fun _ _ _ h => h) (Or.inl ⟨by rfl, fun X _ => by go_simp⟩) hHeld ?_
          try simp only [Act.put, List.setIfInBounds_toArray, List.set_cons_zero, List.set_cons_succ]
          refine take_at (i := 2) (v := .pointer (some ⟨q, 1, none⟩)) rfl rfl (by kernel_rfl) (by kernel_rfl) (by kernel_rfl) (fun _ _ _ h => h) (Or.inl ⟨by rfl, fun X _ => by go_simp⟩) hHeld ?_
          try simp only [Act.put, List.setIfInBounds_toArray, List.set_cons_zero, List.set_cons_succ]
          refine take_at (i := 3) (v := .int .i64 e.k) rfl rfl (by kernel_rfl) (by kernel_rfl) (by kernel_rfl) (fun _ _ _ h => h) (Or.inl ⟨by rfl, fun X hX => by obtain ⟨c0, c1, c2, c3⟩ := hX.out.c; go_simp⟩) hHeld ?_
          try simp only [Act.put, List.setIfInBounds_toArray, List.set_cons_zero, List.set_cons_succ]
          refine take_at (i := 4) (v := .agg #[.int .i64 x, .int .i64 e.k]) rfl rfl (by kernel_rfl) (by kernel_rfl) (by kernel_rfl) (fun _ _ _ h => h) (Or.inl ⟨by rfl, fun X _ => by go_simp⟩) hHeld ?_
          try simp only [Act.put, List.setIfInBounds_toArray, List.set_cons_zero, List.set_cons_succ]
          refine take_at (i := 6) (v := evv e) rfl rfl (by kernel_rfl) (by kernel_rfl) (by kernel_rfl) (fun _ _ _ h => h) (Or.inl ⟨by rfl, fun X hX => by obtain ⟨c0, c1, c2, c3⟩ := hX.out.c; go_simp; rfl⟩) hHeld ?_
          try simp only [Act.put, List.setIfInBounds_toArray, List.set_cons_zero, List.set_cons_succ]
          refine wpAnyH_ready (rs := [5]) (by kernel_rfl) (by simp) ?_
          refine AllReadyH.cons rfl (fun KK hK => ?_) AllReadyH.nil
          rw [if_pos (by rfl)]
          go_wp2_with fail
          refine (at_is b o2 n sl K L2 x e.k _ hP4.out hs0 hs1' hr'.out hlen.out).mono ?_
          rintro r U ⟨o3, rfl, hPU, _, ho3, hcU⟩
          go_wp2_with fail
          have hVz2 : V2.heap.size ≤ V.heap.size := hch4.out.size
          have hEU : Hid (Evk U q e) := hHeld.out.ch hcU (by omega) (by omega)
          have hPU' : Hid (Pan U b o3 n sl K (ens x e.k L2)) := hPU
          have hchU : Hid (Ch b o1 V2 U) := hch4.out.trans hcU ho2
          have ho3' : o3 = o1 ∨ V2.heap.size ≤ o3 := by omega
          clear hPU hcU hP4 hch4 ho3
          refine hK.out _ _ (hEU) (fun hHeld => ?_)
          clear hK KK
          try simp only [Act.put, List.setIfInBounds_toArray, List.set_cons_zero, List.set_cons_succ]
          refine wpAnyH_ready (rs := [7]) (by kernel_rfl) (by simp) ?_
          refine AllReadyH.cons rfl (fun KK hK => ?_) AllReadyH.nil
          rw [if_pos (by rfl)]
          go_wp2_with fail
          refine (take_pan b o3 n sl K L2 x e _ hPU'.out hel hokU.out).mono ?_
          rintro r U2 ⟨rfl, hPT, hcT⟩
          have hPT' : Hid (Pan U2 b o3 n sl K (putS K e.k e.v e.l L1 (ss.take (t + 1)))) := by
            have h : Pan U2 b o3 n sl K (putS K e.k e.v e.l L1 (ss.take (t + 1))) := by rw [hsnt'.out]; exact hPT
            exact h
          have hET : Hid (Evk U2 q e) := hEU.out.ch hcT (by omega) (by omega)
          have hchT : Hid (Ch b o1 V2 U2) := hchU.out.trans hcT.mono ho3'
          clear hPT hcT hPU' hchU
          go_wp2_with fail
          refine hK.out _ _ (hET) (fun hHeld => ?_)
          clear hK KK
          try simp only [Act.put, List.setIfInBounds_toArray, List.set_cons_zero, List.set_cons_succ]
          refine wpAnyH_done (by kernel_rfl) ?_ _
          go_wp2_with fail
          go_roundw
          case rel => exact ⟨t + 1, o3, by omega, by go_num, hPT', ho3', hchT⟩
          case measure => simp [intOf]; omega
        · obtain rfl : t = c := by omega
          have hend : Hid (Pan wr b o2 n sl K (putL n sl K L (es.take (j + 1)))) := by
            have h : Pan wr b o2 n sl K (putL n sl K L (es.take (j + 1))) := by
              have h := hP3.out
              rw [List.take_of_length_le (by rw [hcl.out]; exact Nat.le_refl _)] at h
              rw [hsn.out, hpE.out]; exact h
            exact h
          have hchE : Hid (Ch b o w wr) := hch2.out.trans hch3.out ho1
          have hVw : w.heap.size ≤ V2.heap.size := hch2.out.size
          have ho2' : o2 = o ∨ w.heap.size ≤ o2 := by omega
          clear hP3 hch3
          go_wp2_with fail
          go_roundw
          case rel => exact ⟨j + 1, o2, by omega, by go_num, hend, ho2', hchE⟩
          case measure => simp [intOf]; omega
    · obtain rfl : j = m := by omega
      have hend : Hid (Pan wr b o1 n sl K (putL n sl K L es)) := by
        have h := hP.out
        rw [List.take_of_length_le (by rw [hm.out]; exact Nat.le_refl _)] at h
        exact h
      go_wp2_with fail
      go_end0
      exact ⟨o1, rfl, hend.out, ho1, hch.out⟩
end Go.Proofs.Ytnamjnopicghhaa
