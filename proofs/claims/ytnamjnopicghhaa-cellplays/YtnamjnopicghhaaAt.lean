/- What Panes.at finds or opens. -/
import Derived.Test.YtnamjnopicghhaaAgg
namespace Go.Proofs.Ytnamjnopicghhaa
open Go.RowKit M
set_option linter.unusedVariables false
set_option linter.unusedSimpArgs false
attribute [local go_sem ↓] Go.wp_at_zero Go.wp_at_succ

/-- agg.New. -/
theorem new_any (k : Int) (w : World) : Calls Try.prog 92 #[.int .i64 k] w fun e w' => e = .returned (.agg #[.int .i64 0, .int .i64 k, .int .i64 0]) ∧ Below w.heap.size w w' := by
  go_enter Try.func92, Try.ntmps92
  go_wp2
  exact bodyPost_ret (v := .agg #[.int .i64 0, .int .i64 k, .int .i64 0]) (by simp [results, Try.results92, go_sem]) rfl ⟨rfl, (Below.refl _ _).alloc (Nat.le_refl _) _⟩
theorem Sl.below {w w' : World} {v : Value} {o : Nat} {K : Int} {L : List Pn} (h : Sl w v o K L) (hb : Below w.heap.size w w') : Sl w' v o K L := by
  rcases h with h | ⟨cap, rfl, hp⟩
  · exact .inl h
  · exact .inr ⟨cap, rfl, hp.below hb⟩
theorem Sl.ch {w w' : World} {v : Value} {o b' o' : Nat} {K : Int} {L : List Pn} (h : Sl w v o K L) (hc : Ch b' o' w w') (h1 : o ≠ b') (h2 : o ≠ o') : Sl w' v o K L := by
  rcases h with h | ⟨cap, rfl, hp⟩
  · exact .inl h
  · exact .inr ⟨cap, rfl, hp.keep (hc.other o hp.lt h1 h2)⟩
/-- The block of a Panes. -/
def Pb (w : World) (b : Nat) (n sl K : Int) (v : Value) : Prop := w.heap[b]? = some (.cells (Panc n sl K v) 108 (0, 0))
theorem Pb.lt {w : World} {b : Nat} {n sl K : Int} {v : Value} (h : Pb w b n sl K v) : b < w.heap.size := (Array.getElem?_eq_some_iff.1 h).1
theorem Pb.keep {w w' : World} {b : Nat} {n sl K : Int} {v : Value} (h : Pb w b n sl K v) (hb : w'.heap[b]? = w.heap[b]?) : Pb w' b n sl K v := hb.trans h
theorem Pb.below {w w' : World} {b : Nat} {n sl K : Int} {v : Value} (h : Pb w b n sl K v) (hb : Below w.heap.size w w') : Pb w' b n sl K v := h.keep (hb.block b h.lt)
theorem Pb.ch {w w' : World} {b o b' : Nat} {n sl K : Int} {v : Value} (h : Pb w b n sl K v) (hc : Ch b' o w w') (h1 : b ≠ b') (h2 : b ≠ o) : Pb w' b n sl K v := h.keep (hc.other b h.lt h1 h2)
theorem Pb.c {w : World} {b : Nat} {n sl K : Int} {v : Value} (h : Pb w b n sl K v) :
    w.cell? ⟨b, 0, none⟩ = some (.int .i64 n) ∧ w.cell? ⟨b, 1, none⟩ = some (.int .i64 sl) ∧ w.cell? ⟨b, 2, none⟩ = some (.int .i64 K) ∧ w.cell? ⟨b, 3, none⟩ = some v ∧ w.frozen? ⟨b, 3, none⟩ = false := Pan.cells h
theorem fresh_new (w : World) (K s k : Int) : (w.alloc (.cells #[.int .i64 s, .int .i64 k, .int .i64 0, .int .i64 K, .int .i64 0, .int .u64 0] 132)).heap[w.heap.size]? = some (.cells (pcell K (fresh s k)).toArray 132 (0, 0)) := by
  show (w.heap.push _)[w.heap.size]? = _
  simp [pcell, fresh]
/-- slices.Insert of one pane, as Panes.at calls it. -/
theorem insert_any (v : Value) (b o i B : Nat) (n sl K s k : Int) (L : List Pn) (p : Pn) (q : Nat) (w : World) (hS : Sl w v o K L) (hb : Pb w b n sl K v) (hB : Plc w B s k) (hq : w.heap[q]? = some (.cells (pcell K p).toArray 132 (0, 0))) (hne : v = .slice none 0 0 ∨ q ≠ o) (hl : L.length ≤ 1000000) (hi : i ≤ L.length) :
    Calls Try.prog 91 #[v, .int .i64 i, .slice (some ⟨q, 0, none⟩) 1 1] w fun e w' => ∃ v' o', e = .returned v' ∧ Slp w' v' o' K (L.take i ++ p :: L.drop i) ∧ (o' = o ∨ w.heap.size ≤ o') ∧ Pb w' b n sl K v ∧ Plc w' B s k ∧ Ch b o w w' ∧ o' ≠ b := by
  have hq' : q < w.heap.size := (Array.getElem?_eq_some_iff.1 hq).1
  have hbl := hb.lt
  have hBl := hB.lt
  by_cases hv : v = .slice none 0 0
  · have hL : L = [] := by
      rcases hS with ⟨_, h⟩ | ⟨cap, h, _⟩
      · exact h
      · rw [hv] at h; cases h
    refine (insert_is v w.heap.size i K L p q w (.inl ⟨hv, hL⟩) hq (by omega) hl hi).mono ?_
    rintro e w' ⟨v', o', rfl, h1, h2, h3⟩
    have hbel : Below w.heap.size w w' := ⟨h3.os, h3.tape, h3.output, h3.size, fun g hg => h3.other g hg (by omega) (by omega)⟩
    exact ⟨v', o', rfl, h1, .inr (by omega), hb.below hbel, hB.below hbel, Ch.ofBelow hbel, by omega⟩
  · have hqo : q ≠ o := by rcases hne with h | h; exact absurd h hv; exact h
    obtain ⟨cap, hv2, cur, hh, _⟩ : ∃ cap, v = .slice (some ⟨o, 0, none⟩) L.length cap ∧ PRow w o cap K L := by
      rcases hS with ⟨h, _⟩ | h
      · exact absurd h hv
      · exact h
    have hob : o ≠ b := row_ne hb hh
    have hoB : o ≠ B := by
      intro e; subst e
      unfold Plc at hB; rw [hB] at hh; simp at hh
    have hol : o < w.heap.size := (Array.getElem?_eq_some_iff.1 hh).1
    refine (insert_is v o i K L p q w hS hq hqo hl hi).mono ?_
    rintro e w' ⟨v', o', rfl, h1, h2, h3⟩
    exact ⟨v', o', rfl, h1, h2, hb.ch h3 hob.symm hob.symm, (h3.other B hBl hoB.symm hoB.symm).trans hB, h3.mono, by omega⟩
set_option maxHeartbeats 1000000 in
set_option maxRecDepth 100000 in
theorem at_is (b o : Nat) (n sl K : Int) (L : List Pn) (s k : Int) (w : World) (hP : Pan w b o n sl K L) (h0 : 0 ≤ s) (h1 : s ≤ 1099511627776) (hr : rightB n sl = true) (hl : L.length ≤ 1000000) :
    Calls Try.prog 82 #[.pointer (some ⟨b, 0, none⟩), .agg #[.int .i64 s, .int .i64 k]] w fun e w' => ∃ o', e = .returned (.pointer (some ⟨o', pos s k L * 6, none⟩)) ∧ Pan w' b o' n sl K (ens s k L) ∧ (∃ cap, PRow w' o' cap K (ens s k L)) ∧ (o' = o ∨ w.heap.size ≤ o') ∧ Ch b o w w' := by
  obtain ⟨P, hpos⟩ : ∃ P, Hid (pos s k L = P) := ⟨_, rfl⟩
  obtain ⟨F, hfnd⟩ : ∃ F, Hid (fnd s k L = F) := ⟨_, rfl⟩
  have hple : P ≤ L.length := by rw [← hpos.out]; exact pos_le s k L
  have hokE : Hid (Okl n sl (ens s k L)) := okl_ens hP.okl h0 h1 hr
  rw [hpos.out]
  obtain ⟨v, hb, hs, hok, hol⟩ := hP
  have hb' : Hid (Pb w b n sl K v) := hb
  have hs' : Hid (Sl w v o K L) := hs
  have hS : Hid (Srt L) := hok.1
  have hl' : Hid (L.length ≤ 1000000) := hl
  clear hb hs hok hr hl
  go_enter Try.func82, Try.ntmps82
  go_upto_region 1 with fail
  refine world_gen (fun W => Hid (Pb W b n sl K v) ∧ Hid (Sl W v o K L) ∧ Hid (Plc W w.heap.size s k) ∧ Hid (Below w.heap.size w W)) ⟨hb'.out.below (below_alloc _ _), hs'.out.below (below_alloc _ _), plc_new _ _ _, below_alloc _ _⟩ ?_
  have hbw : b < w.heap.size := hb'.out.lt
  clear hb' hs'
  rintro W ⟨hb, hs, hpl, hbW⟩
  obtain ⟨B, hB⟩ : ∃ B, Hid (w.heap.size = B) := ⟨_, rfl⟩
  have hBW : B < W.heap.size := by rw [← hB.out]; exact hpl.out.lt
  rw [hB.out] at hpl hbW hbw ⊢
  refine wp_region_held_drew (S := fun X => Below W.heap.size W X) (by kernel_rfl) (Below.refl _ _).drew (fun hHeld => ?_)
  generalize W.drew = V at hHeld ⊢
  refine take_at (i := 0) (v := .pointer (some ⟨b, 0, none⟩)) rfl rfl (by kernel_rfl) (by kernel_rfl) (by kernel_rfl) (fun _ _ _ h => h) (Or.inl ⟨by rfl, fun X _ => by go_simp⟩) hHeld ?_
  try simp only [Act.put, List.setIfInBounds_toArray, List.set_cons_zero, List.set_cons_succ]
  refine take_at (i := 1) (v := .pointer (some ⟨b, 0, none⟩)) rfl rfl (by kernel_rfl) (by kernel_rfl) (by kernel_rfl) (fun _ _ _ h => h) (Or.inl ⟨by rfl, fun X _ => by go_simp⟩) hHeld ?_
  try simp only [Act.put, List.setIfInBounds_toArray, List.set_cons_zero, List.set_cons_succ]
  refine take_at (i := 2) (v := .pointer (some ⟨b, 3, none⟩)) rfl rfl (by kernel_rfl) (by kernel_rfl) (by kernel_rfl) (fun _ _ _ h => h) (Or.inl ⟨by rfl, fun X _ => by go_simp⟩) hHeld ?_
  try simp only [Act.put, List.setIfInBounds_toArray, List.set_cons_zero, List.set_cons_succ]
  refine take_at (i := 3) (v := v) rfl rfl (by kernel_rfl) (by kernel_rfl) (by kernel_rfl) (fun _ _ _ h => h) (Or.inl ⟨by rfl, fun X hX => by obtain ⟨c0, c1, c2, c3, _⟩ := (hb.out.below hX).c; go_simp⟩) hHeld ?_
  try simp only [Act.put, List.setIfInBounds_toArray, List.set_cons_zero, List.set_cons_succ]
  refine take_at (i := 4) (v := .agg #[.int .i64 s, .int .i64 k]) rfl rfl (by kernel_rfl) (by kernel_rfl) (by kernel_rfl) (fun _ _ _ h => h) (Or.inl ⟨by rfl, fun X hX => by obtain ⟨c0, c1⟩ := (hpl.out.below hX).c; go_simp⟩) hHeld ?_
  try simp only [Act.put, List.setIfInBounds_toArray, List.set_cons_zero, List.set_cons_succ]
  refine wpAnyH_ready (rs := [5]) (by kernel_rfl) (by simp) ?_
  refine AllReadyH.cons rfl (fun KK hK => ?_) AllReadyH.nil
  rw [if_pos (by rfl)]
  go_wp2_with fail
  refine (search_is v o K L s k _ P F (hs.out.below hHeld) hS.out hl'.out hpos.out hfnd.out).mono ?_
  rintro e V2 ⟨rfl, hb2⟩
  go_wp2_with fail
  refine hK.out _ _ (below_call hHeld hb2) (fun hHeld => ?_)
  clear hK KK
  try simp only [Act.put, List.setIfInBounds_toArray, List.set_cons_zero, List.set_cons_succ]
  clear hb2
  refine take_at (i := 6) (v := .tuple #[.int .i64 (P : Int), .bool F]) rfl rfl (by kernel_rfl) (by kernel_rfl) (by kernel_rfl) (fun _ _ _ h => h) (Or.inl ⟨by rfl, fun X _ => by go_simp⟩) hHeld ?_
  try simp only [Act.put, List.setIfInBounds_toArray, List.set_cons_zero, List.set_cons_succ]
  refine take_at (i := 7) (v := .int .i64 (P : Int)) rfl rfl (by kernel_rfl) (by kernel_rfl) (by kernel_rfl) (fun _ _ _ h => h) (Or.inl ⟨by rfl, fun X _ => by go_simp⟩) hHeld ?_
  try simp only [Act.put, List.setIfInBounds_toArray, List.set_cons_zero, List.set_cons_succ]
  refine take_at (i := 8) (v := .bool F) rfl rfl (by kernel_rfl) (by kernel_rfl) (by kernel_rfl) (fun _ _ _ h => h) (Or.inl ⟨by rfl, fun X _ => by go_simp⟩) hHeld ?_
  try simp only [Act.put, List.setIfInBounds_toArray, List.set_cons_zero, List.set_cons_succ]
  refine take_at (i := 9) (v := .int .i64 (P : Int)) rfl rfl (by kernel_rfl) (by kernel_rfl) (by kernel_rfl) (fun _ _ _ h => h) (Or.inl ⟨by rfl, fun X _ => by go_simp⟩) hHeld ?_
  try simp only [Act.put, List.setIfInBounds_toArray, List.set_cons_zero, List.set_cons_succ]
  refine take_at (i := 10) (v := .bool F) rfl rfl (by kernel_rfl) (by kernel_rfl) (by kernel_rfl) (fun _ _ _ h => h) (Or.inl ⟨by rfl, fun X _ => by go_simp⟩) hHeld ?_
  try simp only [Act.put, List.setIfInBounds_toArray, List.set_cons_zero, List.set_cons_succ]
  refine wpAnyH_done (by kernel_rfl) ?_ _
  have hb2 : Hid (Pb V2 b n sl K v) := hb.out.below hHeld
  have hs2 : Hid (Sl V2 v o K L) := hs.out.below hHeld
  have hpl2 : Hid (Plc V2 B s k) := hpl.out.below hHeld
  have hbV : Hid (Below B w V2) := by
    have h := hbW.out
    exact h.trans (hHeld.mono (by omega))
  have hBV : B < V2.heap.size := by have := hHeld.size; omega
  clear hHeld hb hs hpl hbW hBW
  cases F with
  | true =>
    have hlt : P < L.length := by rw [← hpos.out]; exact fnd_lt s k L hfnd.out
    have hens : Hid (ens s k L = L) := ens_yes s k L hfnd.out
    rcases hs2.out with ⟨_, rfl⟩ | ⟨cap, rfl, hrow⟩
    · simp at hlt
    · obtain ⟨c0, c1, c2, c3, _⟩ := hb2.out.c
      have hrow' : Hid (PRow V2 o cap K L) := hrow
      clear hrow
      obtain ⟨m, hm⟩ : ∃ m, Hid (L.length = m) := ⟨_, rfl⟩
      rw [hm.out] at hlt c3 hb2 hs2
      go_wp2_with fail
      go_ret
      refine ⟨o, rfl, ?_, ⟨cap, ?_⟩, .inl rfl, ?_⟩
      · rw [hens.out] at hokE ⊢
        exact ⟨_, hb2.out, hs2.out, hokE.out, hrow'.out.lt⟩
      · rw [hens.out]; exact hrow'.out
      · exact Ch.ofBelow (by rw [hB.out]; exact hbV.out)
  | false =>
    have hens : Hid (ens s k L = L.take P ++ fresh s k :: L.drop P) := by
      have h := ens_no s k L hfnd.out
      rw [hpos.out] at h
      exact h
    go_upto_region 3 with fail
    refine wp_region_held_drew (S := fun X => Hid (Plc X B s k) ∧ X.cell? ⟨b, 2, none⟩ = some (.int .i64 K)) (by kernel_rfl) (show Hid (Plc V2.drew B s k) ∧ V2.drew.cell? ⟨b, 2, none⟩ = some (.int .i64 K) from ⟨hpl2.out, hb2.out.c.2.2.1⟩) (fun hHeld => ?_)
    have hb3 : Hid (Pb V2.drew b n sl K v) := hb2.out
    have hs3 : Hid (Sl V2.drew v o K L) := hs2.out
    have hbV3 : Hid (Below B w V2.drew) := hbV.out.drew
    have hBV3 : B < V2.drew.heap.size := hBV
    clear hb2 hs2 hbV hpl2 hBV
    generalize V2.drew = V at hHeld hb3 hs3 hbV3 hBV3 ⊢
    refine take_at (i := 0) (v := .pointer (some ⟨b, 0, none⟩)) rfl rfl (by kernel_rfl) (by kernel_rfl) (by kernel_rfl) (fun _ _ _ h => h) (Or.inl ⟨by rfl, fun X _ => by go_simp⟩) hHeld ?_
    try simp only [Act.put, List.setIfInBounds_toArray, List.set_cons_zero, List.set_cons_succ]
    refine take_at (i := 1) (v := .pointer (some ⟨b, 0, none⟩)) rfl rfl (by kernel_rfl) (by kernel_rfl) (by kernel_rfl) (fun _ _ _ h => h) (Or.inl ⟨by rfl, fun X _ => by go_simp⟩) hHeld ?_
    try simp only [Act.put, List.setIfInBounds_toArray, List.set_cons_zero, List.set_cons_succ]
    refine take_at (i := 2) (v := .pointer (some ⟨b, 0, none⟩)) rfl rfl (by kernel_rfl) (by kernel_rfl) (by kernel_rfl) (fun _ _ _ h => h) (Or.inl ⟨by rfl, fun X _ => by go_simp⟩) hHeld ?_
    try simp only [Act.put, List.setIfInBounds_toArray, List.set_cons_zero, List.set_cons_succ]
    refine take_at (i := 3) (v := .pointer (some ⟨b, 3, none⟩)) rfl rfl (by kernel_rfl) (by kernel_rfl) (by kernel_rfl) (fun _ _ _ h => h) (Or.inl ⟨by rfl, fun X _ => by go_simp⟩) hHeld ?_
    try simp only [Act.put, List.setIfInBounds_toArray, List.set_cons_zero, List.set_cons_succ]
    refine take_at (i := 5) (v := .int .i64 (P : Int)) rfl rfl (by kernel_rfl) (by kernel_rfl) (by kernel_rfl) (fun _ _ _ h => h) (Or.inl ⟨by rfl, fun X _ => by go_simp⟩) hHeld ?_
    try simp only [Act.put, List.setIfInBounds_toArray, List.set_cons_zero, List.set_cons_succ]
    refine take_at (i := 6) (v := .agg #[.int .i64 s, .int .i64 k]) rfl rfl (by kernel_rfl) (by kernel_rfl) (by kernel_rfl) (fun _ _ _ h => h) (Or.inl ⟨by rfl, fun X hX => by obtain ⟨c0, c1⟩ := hX.1.out.c; go_simp⟩) hHeld ?_
    try simp only [Act.put, List.setIfInBounds_toArray, List.set_cons_zero, List.set_cons_succ]
    refine take_at (i := 7) (v := .pointer (some ⟨b, 0, none⟩)) rfl rfl (by kernel_rfl) (by kernel_rfl) (by kernel_rfl) (fun _ _ _ h => h) (Or.inl ⟨by rfl, fun X _ => by go_simp⟩) hHeld ?_
    try simp only [Act.put, List.setIfInBounds_toArray, List.set_cons_zero, List.set_cons_succ]
    refine take_at (i := 8) (v := .pointer (some ⟨b, 0, none⟩)) rfl rfl (by kernel_rfl) (by kernel_rfl) (by kernel_rfl) (fun _ _ _ h => h) (Or.inl ⟨by rfl, fun X _ => by go_simp⟩) hHeld ?_
    try simp only [Act.put, List.setIfInBounds_toArray, List.set_cons_zero, List.set_cons_succ]
    refine take_at (i := 9) (v := .pointer (some ⟨b, 2, none⟩)) rfl rfl (by kernel_rfl) (by kernel_rfl) (by kernel_rfl) (fun _ _ _ h => h) (Or.inl ⟨by rfl, fun X _ => by go_simp⟩) hHeld ?_
    try simp only [Act.put, List.setIfInBounds_toArray, List.set_cons_zero, List.set_cons_succ]
    refine take_at (i := 10) (v := .int .i64 K) rfl rfl (by kernel_rfl) (by kernel_rfl) (by kernel_rfl) (fun _ _ _ h => h) (Or.inl ⟨by rfl, fun X hX => by have c2 := hX.2; go_simp⟩) hHeld ?_
    try simp only [Act.put, List.setIfInBounds_toArray, List.set_cons_zero, List.set_cons_succ]
    refine wpAnyH_ready (rs := [4, 11]) (by kernel_rfl) (by simp) ?_
    refine AllReadyH.cons rfl (fun KK hK => ?_) (AllReadyH.cons rfl (fun KK hK => ?_) (AllReadyH.nil))
    · obtain ⟨_, _, _, c3, _⟩ := hb3.out.c
      rw [if_pos (by rfl)]
      go_simp
      refine hK.out _ _ (hHeld) (fun hHeld => ?_)
      clear hK KK
      try simp only [Act.put, List.setIfInBounds_toArray, List.set_cons_zero, List.set_cons_succ]
      clear c3
      refine wpAnyH_ready (rs := [11]) (by kernel_rfl) (by simp) ?_
      refine AllReadyH.cons rfl (fun KK hK => ?_) (AllReadyH.nil)
      rw [if_pos (by rfl)]
      go_wp2_with fail
      refine (new_any K _).mono ?_
      rintro e V1 ⟨rfl, hbn⟩
      go_wp2_with fail
      have hlb : b < V.heap.size := hb3.out.lt
      refine hK.out _ _ (⟨hHeld.1.out.below hbn, by rw [hbn.cell (p := ⟨b, 2, none⟩) hlb]; exact hHeld.2⟩) (fun hHeld => ?_)
      clear hK KK
      try simp only [Act.put, List.setIfInBounds_toArray, List.set_cons_zero, List.set_cons_succ]
      replace hb3 : Hid (Pb V1 b n sl K v) := hb3.out.below hbn
      replace hs3 : Hid (Sl V1 v o K L) := hs3.out.below hbn
      replace hbV3 : Hid (Below B w V1) := hbV3.out.trans (hbn.mono (by omega))
      replace hBV3 : B < V1.heap.size := Nat.lt_of_lt_of_le hBV3 hbn.size
      clear hbn hlb
      refine take_at (i := 12) (v := .agg #[.int .i64 s, .int .i64 k, .int .i64 0, .int .i64 K, .int .i64 0, .int .u64 0]) rfl rfl (by kernel_rfl) (by kernel_rfl) (by kernel_rfl) (fun _ _ _ h => h) (Or.inl ⟨by rfl, fun X _ => by go_simp⟩) hHeld ?_
      try simp only [Act.put, List.setIfInBounds_toArray, List.set_cons_zero, List.set_cons_succ]
      refine wpAnyH_ready (rs := [13]) (by kernel_rfl) (by simp) ?_
      refine AllReadyH.cons rfl (fun KK hK => ?_) (AllReadyH.nil)
      rw [if_pos (by rfl)]
      go_simp
      have hbn : Below V1.heap.size V1 (V1.alloc (.cells #[.int .i64 s, .int .i64 k, .int .i64 0, .int .i64 K, .int .i64 0, .int .u64 0] 132)) := below_alloc _ _
      have hlb : b < V1.heap.size := hb3.out.lt
      have hq3 : Hid ((V1.alloc (.cells #[.int .i64 s, .int .i64 k, .int .i64 0, .int .i64 K, .int .i64 0, .int .u64 0] 132)).heap[V1.heap.size]? = some (.cells (pcell K (fresh s k)).toArray 132 (0, 0))) := fresh_new _ _ _ _
      have hqo : Hid (v = .slice none 0 0 ∨ V1.heap.size ≠ o) := by
        rcases hs3.out with ⟨h, _⟩ | ⟨cap, _, h⟩
        · exact .inl h
        · exact .inr (by have := h.lt; omega)
      refine hK.out _ _ (⟨hHeld.1.out.below hbn, by rw [hbn.cell (p := ⟨b, 2, none⟩) hlb]; exact hHeld.2⟩) (fun hHeld => ?_)
      clear hK KK
      try simp only [Act.put, List.setIfInBounds_toArray, List.set_cons_zero, List.set_cons_succ]
      replace hb3 : Hid (Pb (V1.alloc (.cells #[.int .i64 s, .int .i64 k, .int .i64 0, .int .i64 K, .int .i64 0, .int .u64 0] 132)) b n sl K v) := hb3.out.below hbn
      replace hs3 : Hid (Sl (V1.alloc (.cells #[.int .i64 s, .int .i64 k, .int .i64 0, .int .i64 K, .int .i64 0, .int .u64 0] 132)) v o K L) := hs3.out.below hbn
      replace hbV3 : Hid (Below B w (V1.alloc (.cells #[.int .i64 s, .int .i64 k, .int .i64 0, .int .i64 K, .int .i64 0, .int .u64 0] 132))) := hbV3.out.trans (hbn.mono (by omega))
      have hBV4 : B < (V1.alloc (.cells #[.int .i64 s, .int .i64 k, .int .i64 0, .int .i64 K, .int .i64 0, .int .u64 0] 132)).heap.size := Nat.lt_of_lt_of_le hBV3 hbn.size
      clear hbn hlb hBV3
      generalize (V1.alloc (.cells #[.int .i64 s, .int .i64 k, .int .i64 0, .int .i64 K, .int .i64 0, .int .u64 0] 132)) = V3 at hHeld hb3 hs3 hbV3 hq3 hBV4 ⊢
      generalize V1.heap.size = qs at hq3 hqo ⊢
      have hBV3 := hBV4
      clear hBV4
      refine wpAnyH_ready (rs := [14]) (by kernel_rfl) (by simp) ?_
      refine AllReadyH.cons rfl (fun KK hK => ?_) AllReadyH.nil
      rw [if_pos (by rfl)]
      go_wp2_with fail
      refine (insert_any v b o P B n sl K s k L (fresh s k) qs _ hs3.out hb3.out hHeld.1.out hq3.out hqo.out hl'.out hple).mono ?_
      rintro e U ⟨v', o2, rfl, hsl, ho2, hbU, hplU, hch, hne2⟩
      obtain ⟨capU, hvU, _⟩ := id hsl
      obtain ⟨lenU, hlenU⟩ : ∃ x, Hid ((L.take P ++ fresh s k :: L.drop P).length = x) := ⟨_, rfl⟩
      rw [hlenU.out] at hvU
      subst hvU
      go_wp2_with fail
      have hsz : V3.heap.size ≤ U.heap.size := hch.size
      have hsl' : Hid (Slp U (.slice (some ⟨o2, 0, none⟩) lenU capU) o2 K (L.take P ++ fresh s k :: L.drop P)) := hsl
      have hbU' : Hid (Pb U b n sl K v) := hbU
      have hchU : Hid (Ch b o w U) := (Ch.ofBelow (b := b) (o := o) (by rw [hB.out]; exact hbV3.out)).trans hch (.inl rfl)
      refine hK.out _ _ (⟨hplU, hbU.c.2.2.1⟩) (fun hHeld => ?_)
      clear hK KK
      try simp only [Act.put, List.setIfInBounds_toArray, List.set_cons_zero, List.set_cons_succ]
      refine take_at (i := 15) (v := .pointer (some ⟨b, 0, none⟩)) rfl rfl (by kernel_rfl) (by kernel_rfl) (by kernel_rfl) (fun _ _ _ h => h) (Or.inl ⟨by rfl, fun X _ => by go_simp⟩) hHeld ?_
      try simp only [Act.put, List.setIfInBounds_toArray, List.set_cons_zero, List.set_cons_succ]
      refine take_at (i := 16) (v := .pointer (some ⟨b, 3, none⟩)) rfl rfl (by kernel_rfl) (by kernel_rfl) (by kernel_rfl) (fun _ _ _ h => h) (Or.inl ⟨by rfl, fun X _ => by go_simp⟩) hHeld ?_
      try simp only [Act.put, List.setIfInBounds_toArray, List.set_cons_zero, List.set_cons_succ]
      obtain ⟨_, _, c2U, c3U, f3U⟩ := hbU'.out.c
      refine wpAnyH_ready (rs := [17]) (by kernel_rfl) (by simp) ?_
      refine AllReadyH.cons rfl (fun KK hK => ?_) AllReadyH.nil
      rw [if_pos (by rfl)]
      go_simp
      have hplU2 : Hid (Plc (U.setCell ⟨b, 3, none⟩ (.slice (some ⟨o2, 0, none⟩) lenU capU)) B s k) := (Below.heap_setCell _ _ _ _ (show B ≠ b by omega)).trans hplU
      have hbU2 : Hid (Pb (U.setCell ⟨b, 3, none⟩ (.slice (some ⟨o2, 0, none⟩) lenU capU)) b n sl K (.slice (some ⟨o2, 0, none⟩) lenU capU)) := Pan.set3 hbU'.out _
      have hslU : Hid (Slp (U.setCell ⟨b, 3, none⟩ (.slice (some ⟨o2, 0, none⟩) lenU capU)) (.slice (some ⟨o2, 0, none⟩) lenU capU) o2 K (ens s k L)) := by
        obtain ⟨cap, e1, e2⟩ := hsl'.out
        rw [hens.out]
        exact ⟨cap, e1, e2.keep (Below.heap_setCell _ _ _ _ hne2)⟩
      have hchU2 : Hid (Ch b o w (U.setCell ⟨b, 3, none⟩ (.slice (some ⟨o2, 0, none⟩) lenU capU))) := hchU.out.set (.inl rfl) _
      have ho2' : Hid (o2 = o ∨ B ≤ o2) := by
        have h : o2 = o ∨ B ≤ o2 := by omega
        exact h
      clear hsl hbU hplU hch hsl' hbU' hchU c2U c3U f3U
      refine hK.out _ _ (⟨hplU2, hbU2.out.c.2.2.1⟩) (fun hHeld => ?_)
      clear hK KK
      try simp only [Act.put, List.setIfInBounds_toArray, List.set_cons_zero, List.set_cons_succ]
      refine wpAnyH_done (by kernel_rfl) ?_ _
      clear hHeld hb3 hs3 hq3 hqo hbV3 hplU2
      generalize U.setCell ⟨b, 3, none⟩ (.slice (some ⟨o2, 0, none⟩) lenU capU) = U2 at hbU2 hslU hchU2 ⊢
      obtain ⟨cap, hve, hrow⟩ := hslU.out
      have hrow' : Hid (PRow U2 o2 cap K (ens s k L)) := hrow
      clear hrow
      injection hve with _ hle hce
      have hlenE : Hid (lenU = (ens s k L).length) := hle
      subst hce
      clear hle hlenU
      obtain ⟨c0, c1, c2, c3, _⟩ := hbU2.out.c
      have hlt : P < (ens s k L).length := by rw [← hpos.out]; exact (ens_len s k L).2
      rw [← hlenE.out] at hlt
      go_wp2_with fail
      go_ret
      refine ⟨o2, rfl, ⟨_, hbU2.out, ?_, hokE.out, hrow'.out.lt⟩, ⟨capU, hrow'.out⟩, by rw [hB.out]; exact ho2'.out, hchU2.out⟩
      exact .inr ⟨capU, by rw [hlenE.out], hrow'.out⟩
    · rw [if_pos (by rfl)]
      go_wp2_with fail
      refine (new_any K _).mono ?_
      rintro e V1 ⟨rfl, hbn⟩
      go_wp2_with fail
      have hlb : b < V.heap.size := hb3.out.lt
      refine hK.out _ _ (⟨hHeld.1.out.below hbn, by rw [hbn.cell (p := ⟨b, 2, none⟩) hlb]; exact hHeld.2⟩) (fun hHeld => ?_)
      clear hK KK
      try simp only [Act.put, List.setIfInBounds_toArray, List.set_cons_zero, List.set_cons_succ]
      replace hb3 : Hid (Pb V1 b n sl K v) := hb3.out.below hbn
      replace hs3 : Hid (Sl V1 v o K L) := hs3.out.below hbn
      replace hbV3 : Hid (Below B w V1) := hbV3.out.trans (hbn.mono (by omega))
      replace hBV3 : B < V1.heap.size := Nat.lt_of_lt_of_le hBV3 hbn.size
      clear hbn hlb
      refine take_at (i := 12) (v := .agg #[.int .i64 s, .int .i64 k, .int .i64 0, .int .i64 K, .int .i64 0, .int .u64 0]) rfl rfl (by kernel_rfl) (by kernel_rfl) (by kernel_rfl) (fun _ _ _ h => h) (Or.inl ⟨by rfl, fun X _ => by go_simp⟩) hHeld ?_
      try simp only [Act.put, List.setIfInBounds_toArray, List.set_cons_zero, List.set_cons_succ]
      refine wpAnyH_ready (rs := [4, 13]) (by kernel_rfl) (by simp) ?_
      refine AllReadyH.cons rfl (fun KK hK => ?_) (AllReadyH.cons rfl (fun KK hK => ?_) (AllReadyH.nil))
      · obtain ⟨_, _, _, c3, _⟩ := hb3.out.c
        rw [if_pos (by rfl)]
        go_simp
        refine hK.out _ _ (hHeld) (fun hHeld => ?_)
        clear hK KK
        try simp only [Act.put, List.setIfInBounds_toArray, List.set_cons_zero, List.set_cons_succ]
        clear c3
        refine wpAnyH_ready (rs := [13]) (by kernel_rfl) (by simp) ?_
        refine AllReadyH.cons rfl (fun KK hK => ?_) (AllReadyH.nil)
        rw [if_pos (by rfl)]
        go_simp
        have hbn : Below V1.heap.size V1 (V1.alloc (.cells #[.int .i64 s, .int .i64 k, .int .i64 0, .int .i64 K, .int .i64 0, .int .u64 0] 132)) := below_alloc _ _
        have hlb : b < V1.heap.size := hb3.out.lt
        have hq3 : Hid ((V1.alloc (.cells #[.int .i64 s, .int .i64 k, .int .i64 0, .int .i64 K, .int .i64 0, .int .u64 0] 132)).heap[V1.heap.size]? = some (.cells (pcell K (fresh s k)).toArray 132 (0, 0))) := fresh_new _ _ _ _
        have hqo : Hid (v = .slice none 0 0 ∨ V1.heap.size ≠ o) := by
          rcases hs3.out with ⟨h, _⟩ | ⟨cap, _, h⟩
          · exact .inl h
          · exact .inr (by have := h.lt; omega)
        refine hK.out _ _ (⟨hHeld.1.out.below hbn, by rw [hbn.cell (p := ⟨b, 2, none⟩) hlb]; exact hHeld.2⟩) (fun hHeld => ?_)
        clear hK KK
        try simp only [Act.put, List.setIfInBounds_toArray, List.set_cons_zero, List.set_cons_succ]
        replace hb3 : Hid (Pb (V1.alloc (.cells #[.int .i64 s, .int .i64 k, .int .i64 0, .int .i64 K, .int .i64 0, .int .u64 0] 132)) b n sl K v) := hb3.out.below hbn
        replace hs3 : Hid (Sl (V1.alloc (.cells #[.int .i64 s, .int .i64 k, .int .i64 0, .int .i64 K, .int .i64 0, .int .u64 0] 132)) v o K L) := hs3.out.below hbn
        replace hbV3 : Hid (Below B w (V1.alloc (.cells #[.int .i64 s, .int .i64 k, .int .i64 0, .int .i64 K, .int .i64 0, .int .u64 0] 132))) := hbV3.out.trans (hbn.mono (by omega))
        have hBV4 : B < (V1.alloc (.cells #[.int .i64 s, .int .i64 k, .int .i64 0, .int .i64 K, .int .i64 0, .int .u64 0] 132)).heap.size := Nat.lt_of_lt_of_le hBV3 hbn.size
        clear hbn hlb hBV3
        generalize (V1.alloc (.cells #[.int .i64 s, .int .i64 k, .int .i64 0, .int .i64 K, .int .i64 0, .int .u64 0] 132)) = V3 at hHeld hb3 hs3 hbV3 hq3 hBV4 ⊢
        generalize V1.heap.size = qs at hq3 hqo ⊢
        have hBV3 := hBV4
        clear hBV4
        refine wpAnyH_ready (rs := [14]) (by kernel_rfl) (by simp) ?_
        refine AllReadyH.cons rfl (fun KK hK => ?_) AllReadyH.nil
        rw [if_pos (by rfl)]
        go_wp2_with fail
        refine (insert_any v b o P B n sl K s k L (fresh s k) qs _ hs3.out hb3.out hHeld.1.out hq3.out hqo.out hl'.out hple).mono ?_
        rintro e U ⟨v', o2, rfl, hsl, ho2, hbU, hplU, hch, hne2⟩
        obtain ⟨capU, hvU, _⟩ := id hsl
        obtain ⟨lenU, hlenU⟩ : ∃ x, Hid ((L.take P ++ fresh s k :: L.drop P).length = x) := ⟨_, rfl⟩
        rw [hlenU.out] at hvU
        subst hvU
        go_wp2_with fail
        have hsz : V3.heap.size ≤ U.heap.size := hch.size
        have hsl' : Hid (Slp U (.slice (some ⟨o2, 0, none⟩) lenU capU) o2 K (L.take P ++ fresh s k :: L.drop P)) := hsl
        have hbU' : Hid (Pb U b n sl K v) := hbU
        have hchU : Hid (Ch b o w U) := (Ch.ofBelow (b := b) (o := o) (by rw [hB.out]; exact hbV3.out)).trans hch (.inl rfl)
        refine hK.out _ _ (⟨hplU, hbU.c.2.2.1⟩) (fun hHeld => ?_)
        clear hK KK
        try simp only [Act.put, List.setIfInBounds_toArray, List.set_cons_zero, List.set_cons_succ]
        refine take_at (i := 15) (v := .pointer (some ⟨b, 0, none⟩)) rfl rfl (by kernel_rfl) (by kernel_rfl) (by kernel_rfl) (fun _ _ _ h => h) (Or.inl ⟨by rfl, fun X _ => by go_simp⟩) hHeld ?_
        try simp only [Act.put, List.setIfInBounds_toArray, List.set_cons_zero, List.set_cons_succ]
        refine take_at (i := 16) (v := .pointer (some ⟨b, 3, none⟩)) rfl rfl (by kernel_rfl) (by kernel_rfl) (by kernel_rfl) (fun _ _ _ h => h) (Or.inl ⟨by rfl, fun X _ => by go_simp⟩) hHeld ?_
        try simp only [Act.put, List.setIfInBounds_toArray, List.set_cons_zero, List.set_cons_succ]
        obtain ⟨_, _, c2U, c3U, f3U⟩ := hbU'.out.c
        refine wpAnyH_ready (rs := [17]) (by kernel_rfl) (by simp) ?_
        refine AllReadyH.cons rfl (fun KK hK => ?_) AllReadyH.nil
        rw [if_pos (by rfl)]
        go_simp
        have hplU2 : Hid (Plc (U.setCell ⟨b, 3, none⟩ (.slice (some ⟨o2, 0, none⟩) lenU capU)) B s k) := (Below.heap_setCell _ _ _ _ (show B ≠ b by omega)).trans hplU
        have hbU2 : Hid (Pb (U.setCell ⟨b, 3, none⟩ (.slice (some ⟨o2, 0, none⟩) lenU capU)) b n sl K (.slice (some ⟨o2, 0, none⟩) lenU capU)) := Pan.set3 hbU'.out _
        have hslU : Hid (Slp (U.setCell ⟨b, 3, none⟩ (.slice (some ⟨o2, 0, none⟩) lenU capU)) (.slice (some ⟨o2, 0, none⟩) lenU capU) o2 K (ens s k L)) := by
          obtain ⟨cap, e1, e2⟩ := hsl'.out
          rw [hens.out]
          exact ⟨cap, e1, e2.keep (Below.heap_setCell _ _ _ _ hne2)⟩
        have hchU2 : Hid (Ch b o w (U.setCell ⟨b, 3, none⟩ (.slice (some ⟨o2, 0, none⟩) lenU capU))) := hchU.out.set (.inl rfl) _
        have ho2' : Hid (o2 = o ∨ B ≤ o2) := by
          have h : o2 = o ∨ B ≤ o2 := by omega
          exact h
        clear hsl hbU hplU hch hsl' hbU' hchU c2U c3U f3U
        refine hK.out _ _ (⟨hplU2, hbU2.out.c.2.2.1⟩) (fun hHeld => ?_)
        clear hK KK
        try simp only [Act.put, List.setIfInBounds_toArray, List.set_cons_zero, List.set_cons_succ]
        refine wpAnyH_done (by kernel_rfl) ?_ _
        clear hHeld hb3 hs3 hq3 hqo hbV3 hplU2
        generalize U.setCell ⟨b, 3, none⟩ (.slice (some ⟨o2, 0, none⟩) lenU capU) = U2 at hbU2 hslU hchU2 ⊢
        obtain ⟨cap, hve, hrow⟩ := hslU.out
        have hrow' : Hid (PRow U2 o2 cap K (ens s k L)) := hrow
        clear hrow
        injection hve with _ hle hce
        have hlenE : Hid (lenU = (ens s k L).length) := hle
        subst hce
        clear hle hlenU
        obtain ⟨c0, c1, c2, c3, _⟩ := hbU2.out.c
        have hlt : P < (ens s k L).length := by rw [← hpos.out]; exact (ens_len s k L).2
        rw [← hlenE.out] at hlt
        go_wp2_with fail
        go_ret
        refine ⟨o2, rfl, ⟨_, hbU2.out, ?_, hokE.out, hrow'.out.lt⟩, ⟨capU, hrow'.out⟩, by rw [hB.out]; exact ho2'.out, hchU2.out⟩
        exact .inr ⟨capU, by rw [hlenE.out], hrow'.out⟩
      · rw [if_pos (by rfl)]
        go_simp
        have hbn : Below V1.heap.size V1 (V1.alloc (.cells #[.int .i64 s, .int .i64 k, .int .i64 0, .int .i64 K, .int .i64 0, .int .u64 0] 132)) := below_alloc _ _
        have hlb : b < V1.heap.size := hb3.out.lt
        have hq3 : Hid ((V1.alloc (.cells #[.int .i64 s, .int .i64 k, .int .i64 0, .int .i64 K, .int .i64 0, .int .u64 0] 132)).heap[V1.heap.size]? = some (.cells (pcell K (fresh s k)).toArray 132 (0, 0))) := fresh_new _ _ _ _
        have hqo : Hid (v = .slice none 0 0 ∨ V1.heap.size ≠ o) := by
          rcases hs3.out with ⟨h, _⟩ | ⟨cap, _, h⟩
          · exact .inl h
          · exact .inr (by have := h.lt; omega)
        refine hK.out _ _ (⟨hHeld.1.out.below hbn, by rw [hbn.cell (p := ⟨b, 2, none⟩) hlb]; exact hHeld.2⟩) (fun hHeld => ?_)
        clear hK KK
        try simp only [Act.put, List.setIfInBounds_toArray, List.set_cons_zero, List.set_cons_succ]
        replace hb3 : Hid (Pb (V1.alloc (.cells #[.int .i64 s, .int .i64 k, .int .i64 0, .int .i64 K, .int .i64 0, .int .u64 0] 132)) b n sl K v) := hb3.out.below hbn
        replace hs3 : Hid (Sl (V1.alloc (.cells #[.int .i64 s, .int .i64 k, .int .i64 0, .int .i64 K, .int .i64 0, .int .u64 0] 132)) v o K L) := hs3.out.below hbn
        replace hbV3 : Hid (Below B w (V1.alloc (.cells #[.int .i64 s, .int .i64 k, .int .i64 0, .int .i64 K, .int .i64 0, .int .u64 0] 132))) := hbV3.out.trans (hbn.mono (by omega))
        have hBV4 : B < (V1.alloc (.cells #[.int .i64 s, .int .i64 k, .int .i64 0, .int .i64 K, .int .i64 0, .int .u64 0] 132)).heap.size := Nat.lt_of_lt_of_le hBV3 hbn.size
        clear hbn hlb hBV3
        generalize (V1.alloc (.cells #[.int .i64 s, .int .i64 k, .int .i64 0, .int .i64 K, .int .i64 0, .int .u64 0] 132)) = V3 at hHeld hb3 hs3 hbV3 hq3 hBV4 ⊢
        generalize V1.heap.size = qs at hq3 hqo ⊢
        have hBV3 := hBV4
        clear hBV4
        refine wpAnyH_ready (rs := [4]) (by kernel_rfl) (by simp) ?_
        refine AllReadyH.cons rfl (fun KK hK => ?_) (AllReadyH.nil)
        obtain ⟨_, _, _, c3, _⟩ := hb3.out.c
        rw [if_pos (by rfl)]
        go_simp
        refine hK.out _ _ (hHeld) (fun hHeld => ?_)
        clear hK KK
        try simp only [Act.put, List.setIfInBounds_toArray, List.set_cons_zero, List.set_cons_succ]
        clear c3
        refine wpAnyH_ready (rs := [14]) (by kernel_rfl) (by simp) ?_
        refine AllReadyH.cons rfl (fun KK hK => ?_) AllReadyH.nil
        rw [if_pos (by rfl)]
        go_wp2_with fail
        refine (insert_any v b o P B n sl K s k L (fresh s k) qs _ hs3.out hb3.out hHeld.1.out hq3.out hqo.out hl'.out hple).mono ?_
        rintro e U ⟨v', o2, rfl, hsl, ho2, hbU, hplU, hch, hne2⟩
        obtain ⟨capU, hvU, _⟩ := id hsl
        obtain ⟨lenU, hlenU⟩ : ∃ x, Hid ((L.take P ++ fresh s k :: L.drop P).length = x) := ⟨_, rfl⟩
        rw [hlenU.out] at hvU
        subst hvU
        go_wp2_with fail
        have hsz : V3.heap.size ≤ U.heap.size := hch.size
        have hsl' : Hid (Slp U (.slice (some ⟨o2, 0, none⟩) lenU capU) o2 K (L.take P ++ fresh s k :: L.drop P)) := hsl
        have hbU' : Hid (Pb U b n sl K v) := hbU
        have hchU : Hid (Ch b o w U) := (Ch.ofBelow (b := b) (o := o) (by rw [hB.out]; exact hbV3.out)).trans hch (.inl rfl)
        refine hK.out _ _ (⟨hplU, hbU.c.2.2.1⟩) (fun hHeld => ?_)
        clear hK KK
        try simp only [Act.put, List.setIfInBounds_toArray, List.set_cons_zero, List.set_cons_succ]
        refine take_at (i := 15) (v := .pointer (some ⟨b, 0, none⟩)) rfl rfl (by kernel_rfl) (by kernel_rfl) (by kernel_rfl) (fun _ _ _ h => h) (Or.inl ⟨by rfl, fun X _ => by go_simp⟩) hHeld ?_
        try simp only [Act.put, List.setIfInBounds_toArray, List.set_cons_zero, List.set_cons_succ]
        refine take_at (i := 16) (v := .pointer (some ⟨b, 3, none⟩)) rfl rfl (by kernel_rfl) (by kernel_rfl) (by kernel_rfl) (fun _ _ _ h => h) (Or.inl ⟨by rfl, fun X _ => by go_simp⟩) hHeld ?_
        try simp only [Act.put, List.setIfInBounds_toArray, List.set_cons_zero, List.set_cons_succ]
        obtain ⟨_, _, c2U, c3U, f3U⟩ := hbU'.out.c
        refine wpAnyH_ready (rs := [17]) (by kernel_rfl) (by simp) ?_
        refine AllReadyH.cons rfl (fun KK hK => ?_) AllReadyH.nil
        rw [if_pos (by rfl)]
        go_simp
        have hplU2 : Hid (Plc (U.setCell ⟨b, 3, none⟩ (.slice (some ⟨o2, 0, none⟩) lenU capU)) B s k) := (Below.heap_setCell _ _ _ _ (show B ≠ b by omega)).trans hplU
        have hbU2 : Hid (Pb (U.setCell ⟨b, 3, none⟩ (.slice (some ⟨o2, 0, none⟩) lenU capU)) b n sl K (.slice (some ⟨o2, 0, none⟩) lenU capU)) := Pan.set3 hbU'.out _
        have hslU : Hid (Slp (U.setCell ⟨b, 3, none⟩ (.slice (some ⟨o2, 0, none⟩) lenU capU)) (.slice (some ⟨o2, 0, none⟩) lenU capU) o2 K (ens s k L)) := by
          obtain ⟨cap, e1, e2⟩ := hsl'.out
          rw [hens.out]
          exact ⟨cap, e1, e2.keep (Below.heap_setCell _ _ _ _ hne2)⟩
        have hchU2 : Hid (Ch b o w (U.setCell ⟨b, 3, none⟩ (.slice (some ⟨o2, 0, none⟩) lenU capU))) := hchU.out.set (.inl rfl) _
        have ho2' : Hid (o2 = o ∨ B ≤ o2) := by
          have h : o2 = o ∨ B ≤ o2 := by omega
          exact h
        clear hsl hbU hplU hch hsl' hbU' hchU c2U c3U f3U
        refine hK.out _ _ (⟨hplU2, hbU2.out.c.2.2.1⟩) (fun hHeld => ?_)
        clear hK KK
        try simp only [Act.put, List.setIfInBounds_toArray, List.set_cons_zero, List.set_cons_succ]
        refine wpAnyH_done (by kernel_rfl) ?_ _
        clear hHeld hb3 hs3 hq3 hqo hbV3 hplU2
        generalize U.setCell ⟨b, 3, none⟩ (.slice (some ⟨o2, 0, none⟩) lenU capU) = U2 at hbU2 hslU hchU2 ⊢
        obtain ⟨cap, hve, hrow⟩ := hslU.out
        have hrow' : Hid (PRow U2 o2 cap K (ens s k L)) := hrow
        clear hrow
        injection hve with _ hle hce
        have hlenE : Hid (lenU = (ens s k L).length) := hle
        subst hce
        clear hle hlenU
        obtain ⟨c0, c1, c2, c3, _⟩ := hbU2.out.c
        have hlt : P < (ens s k L).length := by rw [← hpos.out]; exact (ens_len s k L).2
        rw [← hlenE.out] at hlt
        go_wp2_with fail
        go_ret
        refine ⟨o2, rfl, ⟨_, hbU2.out, ?_, hokE.out, hrow'.out.lt⟩, ⟨capU, hrow'.out⟩, by rw [hB.out]; exact ho2'.out, hchU2.out⟩
        exact .inr ⟨capU, by rw [hlenE.out], hrow'.out⟩
end Go.Proofs.Ytnamjnopicghhaa
