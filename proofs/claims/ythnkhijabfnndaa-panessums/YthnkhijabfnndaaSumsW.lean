/- PanesSums, walked: of any sizes, any events it returns true, and nothing that was there is written. -/
import Derived.Test.YthnkhijabfnndaaTurn
import Derived.Test.YthnkhijabfnndaaMathS
namespace Go.Proofs.Ythnkhijabfnndaa
open Go.RowKit M
set_option linter.unusedVariables false
set_option linter.unusedSimpArgs false
attribute [local go_sem ↓] Go.wp_at_zero Go.wp_at_succ

/-- Several Panes beside each other, the i-th of kind i + 1. -/
def Pns (w : World) (B : Nat) (n s : Int) (b o : Nat → Nat) (m : Nat) (E : Nat → List Ev) : Prop :=
  ∀ i, i < m → Pan w (b i) (o i) n s ((i : Int) + 1) (putL n s ((i : Int) + 1) [] (E i)) ∧ B ≤ b i ∧ B ≤ o i ∧ ∀ j, j < m → j ≠ i → b i ≠ b j ∧ o i ≠ o j ∧ o i ≠ b j
theorem Pns.below {w w' : World} {B : Nat} {n s : Int} {b o : Nat → Nat} {m : Nat} {E : Nat → List Ev} (h : Pns w B n s b o m E) (hb : Below w.heap.size w w') : Pns w' B n s b o m E := fun i hi =>
  ⟨(h i hi).1.below hb, (h i hi).2⟩
theorem pns_new {w w' : World} {B : Nat} {n s : Int} {b o : Nat → Nat} {m : Nat} {E : Nat → List Ev} (h : Pns w B n s b o m E) (hb : Below w.heap.size w w') (hB : B ≤ w.heap.size) (hP : Pan w' w.heap.size w.heap.size n s ((m : Int) + 1) []) (hE : E m = []) :
    Pns w' B n s (fun i => if i = m then w.heap.size else b i) (fun i => if i = m then w.heap.size else o i) (m + 1) E := fun i hi => by
  by_cases him : i = m
  · subst him
    simp only [if_true]
    rw [hE]
    refine ⟨hP, hB, hB, fun j hj hji => ?_⟩
    rw [if_neg hji, if_neg hji]
    have h1 := (h j (by omega)).1.lt
    have h2 := (h j (by omega)).1.olt
    omega
  · simp only [if_neg him]
    obtain ⟨h1, h2, h3, h4⟩ := h i (by omega)
    refine ⟨h1.below hb, h2, h3, fun j hj hji => ?_⟩
    have l1 := h1.lt
    have l2 := h1.olt
    by_cases hjm : j = m
    · rw [if_pos hjm, if_pos hjm]; omega
    · rw [if_neg hjm, if_neg hjm]; exact h4 j (by omega) hji
theorem pns_put {w w' : World} {B : Nat} {n s : Int} {b o : Nat → Nat} {m : Nat} {E : Nat → List Ev} (h : Pns w B n s b o m E) (i : Nat) (hi : i < m) (o' : Nat) (F : List Ev) (hP : Pan w' (b i) o' n s ((i : Int) + 1) (putL n s ((i : Int) + 1) [] F)) (ho : o' = o i ∨ w.heap.size < o') (hc : Ch (b i) (o i) w w') (hB : B ≤ w.heap.size) :
    Pns w' B n s b (fun j => if j = i then o' else o j) m (fun j => if j = i then F else E j) := fun j hj => by
  obtain ⟨i1, i2, i3, i4⟩ := h i hi
  by_cases hji : j = i
  · subst hji
    simp only [if_true]
    refine ⟨hP, i2, by omega, fun t ht htj => ?_⟩
    rw [if_neg htj]
    have := i4 t ht htj
    have l1 := (h t ht).1.lt
    have l2 := (h t ht).1.olt
    omega
  · simp only [if_neg hji]
    obtain ⟨j1, j2, j3, j4⟩ := h j hj
    have hd := j4 i hi (fun e => hji e.symm)
    have hd2 := i4 j hj hji
    have l1 := j1.lt
    have l2 := j1.olt
    refine ⟨j1.keep hc (by omega) (by omega) (by omega) (by omega), j2, j3, fun t ht htj => ?_⟩
    by_cases hti : t = i
    · rw [if_pos hti, hti]; omega
    · rw [if_neg hti]; exact j4 t ht htj
def ptr (b : Nat → Nat) (m : Nat) : List Value := (List.range m).map fun i => Value.pointer (some ⟨b i, 0, none⟩)
theorem ptr_len (b : Nat → Nat) (m : Nat) : (ptr b m).length = m := by simp [ptr]
theorem ptr_at (b : Nat → Nat) (m i : Nat) (h : i < m) : (ptr b m)[i]? = some (.pointer (some ⟨b i, 0, none⟩)) := by simp [ptr, h]
theorem ptr_one (b : Nat → Nat) (m : Nat) : ∀ u ∈ ptr b m, u.oneCell' = true := by
  intro u hu
  simp only [ptr, List.mem_map] at hu
  obtain ⟨i, _, rfl⟩ := hu
  rfl
theorem ptr_succ (b : Nat → Nat) (m q : Nat) : ptr (fun i => if i = m then q else b i) (m + 1) = ptr b m ++ [.pointer (some ⟨q, 0, none⟩)] := by
  unfold ptr
  rw [List.range_succ, List.map_append]
  congr 1
  · refine List.map_congr_left fun i hi => ?_
    rw [List.mem_range] at hi
    simp only
    rw [if_neg (by omega)]
  · simp
theorem own_ne {w : World} {B m : Nat} {v : Value} {xs : List Value} {b o g : Nat} {n s K : Int} {L : List Pn} (h : w.ownsRow B 22 1 v m xs) (hg : v.ownBlock = some g) (hP : Pan w b o n s K L) : g ≠ b := by
  intro e
  subst e
  obtain ⟨u, hh, _⟩ := hP
  obtain ⟨_, h0 | ⟨g', cp, cur, e1, _, h2, _⟩⟩ := h
  · rw [h0.1] at hg; simp [Value.ownBlock] at hg
  · rw [e1] at hg
    simp [Value.ownBlock] at hg
    subst hg
    rw [hh] at h2
    simp at h2
theorem pns_grown {w w' : World} {B : Nat} {n s : Int} {b o : Nat → Nat} {m : Nat} {E : Nat → List Ev} {row : Option Nat} (h : Pns w B n s b o m E) (hg : w.grownBy w' row) (hr : ∀ g, row = some g → ∀ i, i < m → g ≠ b i ∧ g ≠ o i) : Pns w' B n s b o m E := fun i hi => by
  obtain ⟨h1, h2⟩ := h i hi
  refine ⟨?_, h2⟩
  cases row with
  | none => exact h1.below ⟨hg.os, hg.tape, hg.output, hg.size, fun k hk => hg.block k hk (by simp)⟩
  | some g =>
    have hd := hr g rfl i hi
    exact h1.keep (b' := g) (o' := g) ⟨hg.os, hg.tape, hg.output, hg.size, fun k hk e1 _ => hg.block k hk (by intro e; injection e with e; exact e1 e)⟩ hd.1.symm hd.1.symm hd.2.symm hd.2.symm
theorem Try.info22 : (Try.prog.info? 22).map (fun i => (i.zero, i.size, i.bytes)) = some (some (.pointer none), 1, 8) := by kernel_rfl
set_option maxHeartbeats 16000000 in
set_option maxRecDepth 100000 in
theorem panesSums_walk (size slide : Int) (a : Option Addr) (len cap : Nat) (z : List Ev) (w : World) {p1 p2 : Prop} (_ : p1) (_ : p2) (hrow : IsRowE w a len cap z) :
    Calls Try.prog 8 #[.int .i64 size, .int .i64 slide, .slice a len cap] w fun e w' => e = .returned (.bool true) ∧ Below w.heap.size w w' := by
  obtain ⟨hlen, qb, es0, hes0, hlab0, hrd0⟩ := row_at hrow
  obtain ⟨i0, hi, hz0, hz1, hz2⟩ := info_parts Try.info22
  have hrd : Hid (∀ j, j < len → ∃ off, a = some ⟨qb, off, none⟩ ∧ qb < w.heap.size ∧ EvAt w qb (off + j * 4) (eAt es0 j)) := hrd0
  clear hrow hlab0 hrd0 hes0
  go_enter Try.func8, Try.ntmps8
  go_wp2_with fail
  refine (within_any slide 1 20 _ (by omega) (by omega) (by omega)).mono ?_
  rintro e w1 ⟨⟨s, hs1, hs2, rfl⟩, he⟩; obtain rfl := he.symm; clear he
  go_wp2_with fail
  refine (within_any size s (6 * s) _ (by omega) (by omega) (by omega)).mono ?_
  rintro e w1 ⟨⟨n, hn1, hn2, rfl⟩, he⟩; obtain rfl := he.symm; clear he
  obtain ⟨B, hB⟩ : ∃ B, Hid (w.heap.size = B) := ⟨_, rfl⟩
  go_wp2_with fail
  go_loopw [9, 10] (fun v k wr => ∃ (m : Nat) (b : Nat → Nat), m ≤ 4 ∧ k = .int .i64 ((m : Int) + 1) ∧ Hid (Pns wr B n s b b m fun _ => []) ∧ Hid (wr.ownsRow B 22 1 v m (ptr b m)) ∧ Hid (Below B w wr)) (fun _ k _ => 5 - (intOf k).toNat)
  case atStart => exact ⟨0, fun _ => 0, by omega, rfl, fun i hi => absurd hi (Nat.not_lt_zero _), World.ownsRow_nil _ _ _ _, Below.refl _ _⟩
  case round =>
    obtain ⟨m, b, hm4, rfl, hPs, hown, hbr⟩ := hrel
    have hBr : B ≤ wr.heap.size := by have := hbr.out.size; rw [hB.out] at this; exact this
    by_cases hlt : m < 4
    · go_wp2_with fail
      refine (pnew_is n s ((m : Int) + 1) _).mono ?_
      rintro e w1 ⟨rfl, hP, hb⟩
      have hPs1 : Hid (Pns w1 B n s (fun i => if i = m then wr.heap.size else b i) (fun i => if i = m then wr.heap.size else b i) (m + 1) fun _ => []) := pns_new hPs.out hb hBr hP rfl
      have hown1 : Hid (w1.ownsRow B 22 1 u9 m (ptr b m)) := own_below hown.out hb
      have hb1 : Hid (Below B w w1) := hbr.out.trans (hb.mono hBr)
      have hql : wr.heap.size < w1.heap.size := hP.lt
      have hgl : Hid (∀ g, u9.ownBlock = some g → g < wr.heap.size) := fun g hg => (hown.out.lt g hg).2
      obtain ⟨q, hq⟩ : ∃ q, Hid (wr.heap.size = q) := ⟨_, rfl⟩
      rw [hq.out] at hPs1 hql hgl hBr ⊢
      clear hP hb hPs hown hbr
      go_wp2_with (at_builtin; refine wpList_append_own _ rfl _ _ 57 rfl B 22 i0 (.pointer none) 1 8 Try.underlying57 hi hz0 hz1 hz2 rfl (by decide) _ _ _ rfl (hown1.out.alloc _) ⟨w1.heap.size, 0, none⟩ 1 1 [.pointer (some ⟨q, 0, none⟩)] rfl rfl ?c1 ?c2 ?c3 ?c4 ?c5 ?_)
      case c1 =>
        intro j u hj
        match j, hj with
        | 0, hj => simp at hj; subst hj; simp [Addr.add]
      case c2 => intro u hu; simp at hu; subst hu; rfl
      case c3 => unfold maxLen; omega
      case c4 => omega
      case c5 => simp; omega
      intro u' w2 hown' hg2 _
      obtain ⟨b', hb'⟩ : ∃ b', Hid ((fun i => if i = m then q else b i) = b') := ⟨_, rfl⟩
      have hown2 : Hid (w2.ownsRow B 22 1 u' (m + 1) (ptr b' (m + 1))) := by
        have h : w2.ownsRow B 22 1 u' (m + 1) (ptr b' (m + 1)) := by rw [← hb'.out, ptr_succ]; exact hown'
        exact h
      have hPs2 : Hid (Pns w2 B n s b' b' (m + 1) fun _ => []) := by
        have h : Pns w2 B n s b' b' (m + 1) fun _ => [] := by
          rw [hb'.out] at hPs1
          refine pns_grown (hPs1.out.below (below_alloc _ _)) hg2 fun g hg i hi => ?_
          have h := own_ne hown1.out hg (hPs1.out i hi).1
          exact ⟨h, h⟩
        exact h
      have hb2 : Hid (Below B w w2) := (hb1.out.alloc (by omega) _).grown hg2 (by simp; omega) (fun k hk => (hown1.out.lt k hk).1)
      clear hown' hg2 hown1 hPs1 hb1 hb' hgl
      go_wp2_with fail
      go_roundw
      case rel => exact ⟨m + 1, b', by omega, by go_num, hPs2, hown2, hb2⟩
      case measure => simp [intOf]; omega
    · obtain rfl : m = 4 := by omega
      obtain ⟨_, h0 | ⟨g, cp, cur, hgv, hgB, hh, hcp1, hcp2, _, _⟩⟩ := id hown.out
      · omega
      have hcp3 : cp ≤ 9223372036854775807 := by unfold maxLen at hcp2; omega
      have hpt : Hid (∀ i, i < 4 → wr.cell? ⟨g, i, none⟩ = some (.pointer (some ⟨b i, 0, none⟩))) := fun i hi => by
        have h := hown.out
        rw [hgv] at h
        rw [h.cellAt i (by omega), ptr_at b 4 i hi]
      have hgl : g < wr.heap.size := (Array.getElem?_eq_some_iff.1 hh).1
      have hgn : Hid (∀ i, i < 4 → g ≠ b i) := fun i hi => own_ne hown.out (by rw [hgv]; rfl) (hPs.out i hi).1
      subst hgv
      clear hown hh
      obtain ⟨v0, hv0⟩ : ∃ v0, v0 = wr := ⟨_, rfl⟩
      subst hv0
      go_upto_block 2 with fail
      go_cut [12] (fun i wx => ∃ (es : List Ev) (o : Nat → Nat), es.length ≤ 15 ∧ Hid (Pns wx B n s b o 4 fun _ => es) ∧ Hid (∀ i, i < 4 → g ≠ o i ∧ wx.cell? ⟨g, i, none⟩ = some (.pointer (some ⟨b i, 0, none⟩))) ∧ Hid (Below B w wx) ∧ Hid (∀ e ∈ es, -1000 ≤ e.v ∧ e.v ≤ 1000) ∧ g < wx.heap.size)
      case first =>
        as_aux_lemma =>
          go_wp2_with fail
          go_loopw [12] (fun i wr => ∃ (es : List Ev) (o : Nat → Nat), es.length ≤ 15 ∧ i = .int .i64 es.length ∧ Hid (Pns wr B n s b o 4 fun _ => es) ∧ Hid (∀ i, i < 4 → g ≠ o i ∧ wr.cell? ⟨g, i, none⟩ = some (.pointer (some ⟨b i, 0, none⟩))) ∧ Hid (Below B w wr) ∧ Hid (∀ e ∈ es, -1000 ≤ e.v ∧ e.v ≤ 1000) ∧ g < wr.heap.size) (fun i _ => 15 - (intOf i).toNat)
          case atStart => exact ⟨[], b, by simp, rfl, hPs, fun i hi => ⟨hgn.out i hi, hpt.out i hi⟩, hbr, fun e he => absurd he (by simp), hgl⟩
          case round =>
            obtain ⟨es, o, hj, rfl, hPs2, hpt2, hbr2, hevb, hgl2⟩ := hrel
            clear hPs hbr hpt
            obtain ⟨j, hjj⟩ : ∃ j, Hid (es.length = j) := ⟨_, rfl⟩
            rw [hjj.out] at hj ⊢
            by_cases hl1 : j < len
            · by_cases hl2 : j < 15
              · obtain ⟨off, rfl, hqb, hev⟩ := hrd.out j hl1
                obtain ⟨e0, he0⟩ : ∃ e0, Hid (eAt es0 j = e0) := ⟨_, rfl⟩
                have hev' : Hid (EvAt w qb (off + j * 4) e0) := by
                  have h := hev
                  rw [he0.out] at h
                  exact h
                clear hev he0
                rw [hB.out] at hqb
                have hBr2 : B ≤ wr.heap.size := by have := (hPs2.out 0 (by omega)).1.lt; have := (hPs2.out 0 (by omega)).2.1; omega
                go_upto_region 14 with fail
                go_cut [13] (fun p wx => ∃ (q : Nat) (e : Ev), p = .pointer (some ⟨q, 0, none⟩) ∧ wr.heap.size ≤ q ∧ Hid (Evk wx q e) ∧ Hid ((-1000 ≤ e.v ∧ e.v ≤ 1000) ∧ e.l = 1) ∧ Hid (Below wr.heap.size wr wx))
                case first =>
                  have hnl : ¬ len ≤ j := by omega
                  refine wp_region_held_drew (S := fun X => Below B w X ∧ Below wr.heap.size wr X) (by kernel_rfl) ⟨hbr2.out.drew, (Below.refl _ _).drew⟩ (fun hHeld => ?_)
                  generalize wr.drew = V at hHeld ⊢
                  have hV := hHeld
                  refine take_at (i := 0) (v := .slice (some ⟨qb, off, none⟩) len cap) rfl rfl (by kernel_rfl) (by kernel_rfl) (by kernel_rfl) (fun _ _ _ h => h) (Or.inl ⟨by rfl, fun X _ => by go_simp⟩) hHeld ?_
                  try simp only [Act.put, List.setIfInBounds_toArray, List.set_cons_zero, List.set_cons_succ]
                  refine take_at (i := 1) (v := .int .i64 (j : Int)) rfl rfl (by kernel_rfl) (by kernel_rfl) (by kernel_rfl) (fun _ _ _ h => h) (Or.inl ⟨by rfl, fun X _ => by go_simp⟩) hHeld ?_
                  try simp only [Act.put, List.setIfInBounds_toArray, List.set_cons_zero, List.set_cons_succ]
                  refine take_at (i := 2) (v := .pointer (some ⟨qb, off + j * 4, none⟩)) rfl rfl (by kernel_rfl) (by kernel_rfl) (by kernel_rfl) (fun _ _ _ h => h) (Or.inl ⟨by rfl, fun X _ => by go_simp⟩) hHeld ?_
                  try simp only [Act.put, List.setIfInBounds_toArray, List.set_cons_zero, List.set_cons_succ]
                  refine take_at (i := 3) (v := .pointer (some ⟨qb, off + j * 4, none⟩)) rfl rfl (by kernel_rfl) (by kernel_rfl) (by kernel_rfl) (fun _ _ _ h => h) (Or.inl ⟨by rfl, fun X _ => by go_simp⟩) hHeld ?_
                  try simp only [Act.put, List.setIfInBounds_toArray, List.set_cons_zero, List.set_cons_succ]
                  refine take_at (i := 4) (v := .int .i64 e0.t) rfl rfl (by kernel_rfl) (by kernel_rfl) (by kernel_rfl) (fun _ _ _ h => h) (Or.inl ⟨by rfl, fun X hX => by obtain ⟨c0, c1, c2, c3⟩ := hev'.out.keep (hX.1.block qb hqb); go_simp⟩) hHeld ?_
                  try simp only [Act.put, List.setIfInBounds_toArray, List.set_cons_zero, List.set_cons_succ]
                  refine take_at (i := 6) (v := .slice (some ⟨qb, off, none⟩) len cap) rfl rfl (by kernel_rfl) (by kernel_rfl) (by kernel_rfl) (fun _ _ _ h => h) (Or.inl ⟨by rfl, fun X _ => by go_simp⟩) hHeld ?_
                  try simp only [Act.put, List.setIfInBounds_toArray, List.set_cons_zero, List.set_cons_succ]
                  refine take_at (i := 7) (v := .int .i64 (j : Int)) rfl rfl (by kernel_rfl) (by kernel_rfl) (by kernel_rfl) (fun _ _ _ h => h) (Or.inl ⟨by rfl, fun X _ => by go_simp⟩) hHeld ?_
                  try simp only [Act.put, List.setIfInBounds_toArray, List.set_cons_zero, List.set_cons_succ]
                  refine take_at (i := 8) (v := .pointer (some ⟨qb, off + j * 4, none⟩)) rfl rfl (by kernel_rfl) (by kernel_rfl) (by kernel_rfl) (fun _ _ _ h => h) (Or.inl ⟨by rfl, fun X _ => by go_simp⟩) hHeld ?_
                  try simp only [Act.put, List.setIfInBounds_toArray, List.set_cons_zero, List.set_cons_succ]
                  refine take_at (i := 9) (v := .pointer (some ⟨qb, off + j * 4 + 1, none⟩)) rfl rfl (by kernel_rfl) (by kernel_rfl) (by kernel_rfl) (fun _ _ _ h => h) (Or.inl ⟨by rfl, fun X _ => by go_simp⟩) hHeld ?_
                  try simp only [Act.put, List.setIfInBounds_toArray, List.set_cons_zero, List.set_cons_succ]
                  refine take_at (i := 10) (v := .int .i64 e0.k) rfl rfl (by kernel_rfl) (by kernel_rfl) (by kernel_rfl) (fun _ _ _ h => h) (Or.inl ⟨by rfl, fun X hX => by obtain ⟨c0, c1, c2, c3⟩ := hev'.out.keep (hX.1.block qb hqb); go_simp⟩) hHeld ?_
                  try simp only [Act.put, List.setIfInBounds_toArray, List.set_cons_zero, List.set_cons_succ]
                  refine take_at (i := 12) (v := .slice (some ⟨qb, off, none⟩) len cap) rfl rfl (by kernel_rfl) (by kernel_rfl) (by kernel_rfl) (fun _ _ _ h => h) (Or.inl ⟨by rfl, fun X _ => by go_simp⟩) hHeld ?_
                  try simp only [Act.put, List.setIfInBounds_toArray, List.set_cons_zero, List.set_cons_succ]
                  refine take_at (i := 13) (v := .int .i64 (j : Int)) rfl rfl (by kernel_rfl) (by kernel_rfl) (by kernel_rfl) (fun _ _ _ h => h) (Or.inl ⟨by rfl, fun X _ => by go_simp⟩) hHeld ?_
                  try simp only [Act.put, List.setIfInBounds_toArray, List.set_cons_zero, List.set_cons_succ]
                  refine take_at (i := 14) (v := .pointer (some ⟨qb, off + j * 4, none⟩)) rfl rfl (by kernel_rfl) (by kernel_rfl) (by kernel_rfl) (fun _ _ _ h => h) (Or.inl ⟨by rfl, fun X _ => by go_simp⟩) hHeld ?_
                  try simp only [Act.put, List.setIfInBounds_toArray, List.set_cons_zero, List.set_cons_succ]
                  refine take_at (i := 15) (v := .pointer (some ⟨qb, off + j * 4 + 2, none⟩)) rfl rfl (by kernel_rfl) (by kernel_rfl) (by kernel_rfl) (fun _ _ _ h => h) (Or.inl ⟨by rfl, fun X _ => by go_simp⟩) hHeld ?_
                  try simp only [Act.put, List.setIfInBounds_toArray, List.set_cons_zero, List.set_cons_succ]
                  refine take_at (i := 16) (v := .int .i64 e0.v) rfl rfl (by kernel_rfl) (by kernel_rfl) (by kernel_rfl) (fun _ _ _ h => h) (Or.inl ⟨by rfl, fun X hX => by obtain ⟨c0, c1, c2, c3⟩ := hev'.out.keep (hX.1.block qb hqb); go_simp⟩) hHeld ?_
                  try simp only [Act.put, List.setIfInBounds_toArray, List.set_cons_zero, List.set_cons_succ]
                  refine wpAnyH_ready (rs := [5, 19]) (by kernel_rfl) (by simp) ?_
                  refine AllReadyH.cons rfl (fun KK hK => ?_) (AllReadyH.cons rfl (fun KK hK => ?_) (AllReadyH.nil))
                  · rw [if_pos (by rfl)]
                    go_wp2_with fail
                    refine (within_any _ 0 200 _ (by omega) (by omega) (by omega)).mono ?_
                    rintro e V' ⟨⟨t, ht1, ht2, rfl⟩, he⟩; obtain rfl := he.symm; clear he
                    go_wp2_with fail
                    refine hK.out _ _ (hHeld) (fun hHeld => ?_)
                    clear hK KK
                    try simp only [Act.put, List.setIfInBounds_toArray, List.set_cons_zero, List.set_cons_succ]
                    refine wpAnyH_ready (rs := [11, 19]) (by kernel_rfl) (by simp) ?_
                    refine AllReadyH.cons rfl (fun KK hK => ?_) (AllReadyH.cons rfl (fun KK hK => ?_) (AllReadyH.nil))
                    · rw [if_pos (by rfl)]
                      go_wp2_with fail
                      refine (within_any _ 0 3 _ (by omega) (by omega) (by omega)).mono ?_
                      rintro e V' ⟨⟨k, hk1, hk2, rfl⟩, he⟩; obtain rfl := he.symm; clear he
                      go_wp2_with fail
                      refine hK.out _ _ (hHeld) (fun hHeld => ?_)
                      clear hK KK
                      try simp only [Act.put, List.setIfInBounds_toArray, List.set_cons_zero, List.set_cons_succ]
                      refine wpAnyH_ready (rs := [17, 19]) (by kernel_rfl) (by simp) ?_
                      refine AllReadyH.cons rfl (fun KK hK => ?_) (AllReadyH.cons rfl (fun KK hK => ?_) (AllReadyH.nil))
                      · rw [if_pos (by rfl)]
                        go_wp2_with fail
                        refine (within_any _ (-1000) 1000 _ (by omega) (by omega) (by omega)).mono ?_
                        rintro e V' ⟨⟨vv, hvv1, hvv2, rfl⟩, he⟩; obtain rfl := he.symm; clear he
                        go_wp2_with fail
                        refine hK.out _ _ (hHeld) (fun hHeld => ?_)
                        clear hK KK
                        try simp only [Act.put, List.setIfInBounds_toArray, List.set_cons_zero, List.set_cons_succ]
                        refine take_at (i := 18) (v := .agg #[.int .i64 t, .int .i64 k, .int .i64 vv, .int .u64 1]) rfl rfl (by kernel_rfl) (by kernel_rfl) (by kernel_rfl) (fun _ _ _ h => h) (Or.inl ⟨by rfl, fun X _ => by go_simp⟩) hHeld ?_
                        try simp only [Act.put, List.setIfInBounds_toArray, List.set_cons_zero, List.set_cons_succ]
                        refine wpAnyH_ready (rs := [19]) (by kernel_rfl) (by simp) ?_
                        refine AllReadyH.cons rfl (fun KK hK => ?_) (AllReadyH.nil)
                        rw [if_pos (by rfl)]
                        go_simp
                        refine hK.out _ _ (⟨hV.1.alloc (by have := hV.2.size; omega) _, hV.2.alloc hV.2.size _⟩) (fun hHeld => ?_)
                        clear hK KK
                        try simp only [Act.put, List.setIfInBounds_toArray, List.set_cons_zero, List.set_cons_succ]
                        refine wpAnyH_ready (rs := [20]) (by kernel_rfl) (by simp) ?_
                        refine AllReadyH.cons rfl (fun KK hK => ?_) (AllReadyH.nil)
                        rw [if_pos (by rfl)]
                        go_simp
                        refine hK.out _ _ (⟨hV.1.alloc (by have := hV.2.size; omega) _, hV.2.alloc hV.2.size _⟩) (fun hHeld => ?_)
                        clear hK KK
                        try simp only [Act.put, List.setIfInBounds_toArray, List.set_cons_zero, List.set_cons_succ]
                        refine wpAnyH_done (by kernel_rfl) ?_ _
                        go_wp2_with fail
                        go_meet
                        exact ⟨V.heap.size, ⟨t, k, vv, 1⟩, rfl, hV.2.size, evk_new V ⟨t, k, vv, 1⟩, ⟨⟨hvv1, hvv2⟩, rfl⟩, hV.2.alloc hV.2.size _⟩
                      · rw [if_pos (by rfl)]
                        go_simp
                        refine hK.out _ _ (⟨hV.1.alloc (by have := hV.2.size; omega) _, hV.2.alloc hV.2.size _⟩) (fun hHeld => ?_)
                        clear hK KK
                        try simp only [Act.put, List.setIfInBounds_toArray, List.set_cons_zero, List.set_cons_succ]
                        refine wpAnyH_ready (rs := [17]) (by kernel_rfl) (by simp) ?_
                        refine AllReadyH.cons rfl (fun KK hK => ?_) (AllReadyH.nil)
                        rw [if_pos (by rfl)]
                        go_wp2_with fail
                        refine (within_any _ (-1000) 1000 _ (by omega) (by omega) (by omega)).mono ?_
                        rintro e V' ⟨⟨vv, hvv1, hvv2, rfl⟩, he⟩; obtain rfl := he.symm; clear he
                        go_wp2_with fail
                        refine hK.out _ _ (hHeld) (fun hHeld => ?_)
                        clear hK KK
                        try simp only [Act.put, List.setIfInBounds_toArray, List.set_cons_zero, List.set_cons_succ]
                        refine take_at (i := 18) (v := .agg #[.int .i64 t, .int .i64 k, .int .i64 vv, .int .u64 1]) rfl rfl (by kernel_rfl) (by kernel_rfl) (by kernel_rfl) (fun _ _ _ h => h) (Or.inl ⟨by rfl, fun X _ => by go_simp⟩) hHeld ?_
                        try simp only [Act.put, List.setIfInBounds_toArray, List.set_cons_zero, List.set_cons_succ]
                        refine wpAnyH_ready (rs := [20]) (by kernel_rfl) (by simp) ?_
                        refine AllReadyH.cons rfl (fun KK hK => ?_) (AllReadyH.nil)
                        rw [if_pos (by rfl)]
                        go_simp
                        refine hK.out _ _ (⟨hV.1.alloc (by have := hV.2.size; omega) _, hV.2.alloc hV.2.size _⟩) (fun hHeld => ?_)
                        clear hK KK
                        try simp only [Act.put, List.setIfInBounds_toArray, List.set_cons_zero, List.set_cons_succ]
                        refine wpAnyH_done (by kernel_rfl) ?_ _
                        go_wp2_with fail
                        go_meet
                        exact ⟨V.heap.size, ⟨t, k, vv, 1⟩, rfl, hV.2.size, evk_new V ⟨t, k, vv, 1⟩, ⟨⟨hvv1, hvv2⟩, rfl⟩, hV.2.alloc hV.2.size _⟩
                    · rw [if_pos (by rfl)]
                      go_simp
                      refine hK.out _ _ (⟨hV.1.alloc (by have := hV.2.size; omega) _, hV.2.alloc hV.2.size _⟩) (fun hHeld => ?_)
                      clear hK KK
                      try simp only [Act.put, List.setIfInBounds_toArray, List.set_cons_zero, List.set_cons_succ]
                      refine wpAnyH_ready (rs := [11]) (by kernel_rfl) (by simp) ?_
                      refine AllReadyH.cons rfl (fun KK hK => ?_) (AllReadyH.nil)
                      rw [if_pos (by rfl)]
                      go_wp2_with fail
                      refine (within_any _ 0 3 _ (by omega) (by omega) (by omega)).mono ?_
                      rintro e V' ⟨⟨k, hk1, hk2, rfl⟩, he⟩; obtain rfl := he.symm; clear he
                      go_wp2_with fail
                      refine hK.out _ _ (hHeld) (fun hHeld => ?_)
                      clear hK KK
                      try simp only [Act.put, List.setIfInBounds_toArray, List.set_cons_zero, List.set_cons_succ]
                      refine wpAnyH_ready (rs := [17]) (by kernel_rfl) (by simp) ?_
                      refine AllReadyH.cons rfl (fun KK hK => ?_) (AllReadyH.nil)
                      rw [if_pos (by rfl)]
                      go_wp2_with fail
                      refine (within_any _ (-1000) 1000 _ (by omega) (by omega) (by omega)).mono ?_
                      rintro e V' ⟨⟨vv, hvv1, hvv2, rfl⟩, he⟩; obtain rfl := he.symm; clear he
                      go_wp2_with fail
                      refine hK.out _ _ (hHeld) (fun hHeld => ?_)
                      clear hK KK
                      try simp only [Act.put, List.setIfInBounds_toArray, List.set_cons_zero, List.set_cons_succ]
                      refine take_at (i := 18) (v := .agg #[.int .i64 t, .int .i64 k, .int .i64 vv, .int .u64 1]) rfl rfl (by kernel_rfl) (by kernel_rfl) (by kernel_rfl) (fun _ _ _ h => h) (Or.inl ⟨by rfl, fun X _ => by go_simp⟩) hHeld ?_
                      try simp only [Act.put, List.setIfInBounds_toArray, List.set_cons_zero, List.set_cons_succ]
                      refine wpAnyH_ready (rs := [20]) (by kernel_rfl) (by simp) ?_
                      refine AllReadyH.cons rfl (fun KK hK => ?_) (AllReadyH.nil)
                      rw [if_pos (by rfl)]
                      go_simp
                      refine hK.out _ _ (⟨hV.1.alloc (by have := hV.2.size; omega) _, hV.2.alloc hV.2.size _⟩) (fun hHeld => ?_)
                      clear hK KK
                      try simp only [Act.put, List.setIfInBounds_toArray, List.set_cons_zero, List.set_cons_succ]
                      refine wpAnyH_done (by kernel_rfl) ?_ _
                      go_wp2_with fail
                      go_meet
                      exact ⟨V.heap.size, ⟨t, k, vv, 1⟩, rfl, hV.2.size, evk_new V ⟨t, k, vv, 1⟩, ⟨⟨hvv1, hvv2⟩, rfl⟩, hV.2.alloc hV.2.size _⟩
                  · rw [if_pos (by rfl)]
                    go_simp
                    refine hK.out _ _ (⟨hV.1.alloc (by have := hV.2.size; omega) _, hV.2.alloc hV.2.size _⟩) (fun hHeld => ?_)
                    clear hK KK
                    try simp only [Act.put, List.setIfInBounds_toArray, List.set_cons_zero, List.set_cons_succ]
                    refine wpAnyH_ready (rs := [5]) (by kernel_rfl) (by simp) ?_
                    refine AllReadyH.cons rfl (fun KK hK => ?_) (AllReadyH.nil)
                    rw [if_pos (by rfl)]
                    go_wp2_with fail
                    refine (within_any _ 0 200 _ (by omega) (by omega) (by omega)).mono ?_
                    rintro e V' ⟨⟨t, ht1, ht2, rfl⟩, he⟩; obtain rfl := he.symm; clear he
                    go_wp2_with fail
                    refine hK.out _ _ (hHeld) (fun hHeld => ?_)
                    clear hK KK
                    try simp only [Act.put, List.setIfInBounds_toArray, List.set_cons_zero, List.set_cons_succ]
                    refine wpAnyH_ready (rs := [11]) (by kernel_rfl) (by simp) ?_
                    refine AllReadyH.cons rfl (fun KK hK => ?_) (AllReadyH.nil)
                    rw [if_pos (by rfl)]
                    go_wp2_with fail
                    refine (within_any _ 0 3 _ (by omega) (by omega) (by omega)).mono ?_
                    rintro e V' ⟨⟨k, hk1, hk2, rfl⟩, he⟩; obtain rfl := he.symm; clear he
                    go_wp2_with fail
                    refine hK.out _ _ (hHeld) (fun hHeld => ?_)
                    clear hK KK
                    try simp only [Act.put, List.setIfInBounds_toArray, List.set_cons_zero, List.set_cons_succ]
                    refine wpAnyH_ready (rs := [17]) (by kernel_rfl) (by simp) ?_
                    refine AllReadyH.cons rfl (fun KK hK => ?_) (AllReadyH.nil)
                    rw [if_pos (by rfl)]
                    go_wp2_with fail
                    refine (within_any _ (-1000) 1000 _ (by omega) (by omega) (by omega)).mono ?_
                    rintro e V' ⟨⟨vv, hvv1, hvv2, rfl⟩, he⟩; obtain rfl := he.symm; clear he
                    go_wp2_with fail
                    refine hK.out _ _ (hHeld) (fun hHeld => ?_)
                    clear hK KK
                    try simp only [Act.put, List.setIfInBounds_toArray, List.set_cons_zero, List.set_cons_succ]
                    refine take_at (i := 18) (v := .agg #[.int .i64 t, .int .i64 k, .int .i64 vv, .int .u64 1]) rfl rfl (by kernel_rfl) (by kernel_rfl) (by kernel_rfl) (fun _ _ _ h => h) (Or.inl ⟨by rfl, fun X _ => by go_simp⟩) hHeld ?_
                    try simp only [Act.put, List.setIfInBounds_toArray, List.set_cons_zero, List.set_cons_succ]
                    refine wpAnyH_ready (rs := [20]) (by kernel_rfl) (by simp) ?_
                    refine AllReadyH.cons rfl (fun KK hK => ?_) (AllReadyH.nil)
                    rw [if_pos (by rfl)]
                    go_simp
                    refine hK.out _ _ (⟨hV.1.alloc (by have := hV.2.size; omega) _, hV.2.alloc hV.2.size _⟩) (fun hHeld => ?_)
                    clear hK KK
                    try simp only [Act.put, List.setIfInBounds_toArray, List.set_cons_zero, List.set_cons_succ]
                    refine wpAnyH_done (by kernel_rfl) ?_ _
                    go_wp2_with fail
                    go_meet
                    exact ⟨V.heap.size, ⟨t, k, vv, 1⟩, rfl, hV.2.size, evk_new V ⟨t, k, vv, 1⟩, ⟨⟨hvv1, hvv2⟩, rfl⟩, hV.2.alloc hV.2.size _⟩
                case rest =>
                  obtain ⟨q, e, rfl, hq, hE, heb, hbx⟩ := hcut
                  have hqc : q < wc.heap.size := hE.out.lt
                  have hPs3 : Hid (Pns wc B n s b o 4 fun _ => es) := hPs2.out.below hbx.out
                  have hpt3 : Hid (∀ i, i < 4 → g ≠ o i ∧ wc.cell? ⟨g, i, none⟩ = some (.pointer (some ⟨b i, 0, none⟩))) := fun i hi => ⟨(hpt2.out i hi).1, by rw [hbx.out.cell (p := ⟨g, i, none⟩) hgl2]; exact (hpt2.out i hi).2⟩
                  have hol : Hid (∀ i, i < 4 → b i < q ∧ o i < q) := fun i hi => by
                    have h1 := (hPs2.out i hi).1.lt
                    have h2 := (hPs2.out i hi).1.olt
                    omega
                  have hb3 : Hid (Below B w wc) := hbr2.out.trans (hbx.out.mono hBr2)
                  have hevb2 : Hid (∀ x ∈ es ++ [e], -1000 ≤ x.v ∧ x.v ≤ 1000) := fun x hx => by
                    rcases List.mem_append.1 hx with hx | hx
                    · exact hevb.out x hx
                    · rw [List.mem_singleton.1 hx]; exact heb.out.1
                  have hel : e.l < 18446744073709551616 := by have := heb.out.2; omega
                  have hel2 : Hid ((es ++ [e]).length = j + 1) := by
                    have h : (es ++ [e]).length = j + 1 := by rw [List.length_append, hjj.out]; rfl
                    exact h
                  have hgl3 : g < wc.heap.size := Nat.lt_of_lt_of_le hgl2 hbx.out.size
                  have hBc : B ≤ wc.heap.size := by omega
                  clear hPs2 hpt2 hbr2 hbx hevb heb
                  go_wp2_with fail
                  go_loopw [74] (fun i wx => ∃ (t : Nat) (o' : Nat → Nat), t ≤ 4 ∧ i = .int .i64 t ∧ Hid (Pns wx B n s b o' 4 fun y => if y < t then es ++ [e] else es) ∧ Hid (∀ i, i < 4 → g ≠ o' i ∧ q ≠ o' i ∧ wx.cell? ⟨g, i, none⟩ = some (.pointer (some ⟨b i, 0, none⟩))) ∧ Hid (Evk wx q e) ∧ Hid (Below B w wx) ∧ wc.heap.size ≤ wx.heap.size) (fun i _ => 4 - (intOf i).toNat)
                  case atStart => exact ⟨0, o, by omega, rfl, show Pns wc B n s b o 4 (fun y => if y < 0 then es ++ [e] else es) from by simpa using hPs3.out, fun i hi => ⟨(hpt3.out i hi).1, by have := hol.out i hi; omega, (hpt3.out i hi).2⟩, hE, hb3, Nat.le_refl _⟩
                  case round =>
                    obtain ⟨t, o', ht, rfl, hPs4, hpt4, hE4, hb4, hz4⟩ := hrel
                    clear hPs3 hpt3 hb3 hE
                    by_cases ht4 : t < 4
                    · obtain ⟨d1, d2, d3⟩ := hpt4.out t ht4
                      obtain ⟨hPt, hBb, hBo, _⟩ := hPs4.out t ht4
                      have hob := hol.out t ht4
                      have hPt' : Hid (Pan wr (b t) (o' t) n s ((t : Int) + 1) (putL n s ((t : Int) + 1) [] es)) := by
                        have h := hPt
                        simp only [Nat.lt_irrefl, if_false] at h
                        exact h
                      have hLl : (putL n s ((t : Int) + 1) [] es).length + 8 ≤ 1000000 := by
                        have h := putL_len n s ((t : Int) + 1) es []
                        rw [hjj.out] at h
                        simp at h
                        omega
                      have hgb : g ≠ b t := hgn.out t ht4
                      clear hPt
                      obtain ⟨c0, c1, c2, c3⟩ := hE4.out.c
                      have hnt : ¬ 4 ≤ t := by omega
                      go_wp2_with fail
                      refine (put_one (b t) (o' t) n s ((t : Int) + 1) _ e _ hPt'.out hel hLl).mono ?_
                      rintro r w5 ⟨o2, rfl, hP5, ho2, hch⟩
                      have hz5 := hch.sz
                      have hPs5 : Hid (Pns w5 B n s b (fun y => if y = t then o2 else o' y) 4 fun y => if y < t + 1 then es ++ [e] else es) := by
                        have h1 := pns_put hPs4.out t ht4 o2 (es ++ [e]) (by rw [putL_snoc]; exact hP5) ho2 hch (by omega)
                        have h2 : (fun y => if y = t then es ++ [e] else if y < t then es ++ [e] else es) = fun y => if y < t + 1 then es ++ [e] else es := by
                          funext y
                          by_cases h3 : y = t
                          · rw [if_pos h3, if_pos (by omega)]
                          · rw [if_neg h3]
                            by_cases h4 : y < t
                            · rw [if_pos h4, if_pos (by omega)]
                            · rw [if_neg h4, if_neg (by omega)]
                        rw [h2] at h1
                        exact h1
                      have hpt5 : Hid (∀ i, i < 4 → g ≠ (fun y => if y = t then o2 else o' y) i ∧ q ≠ (fun y => if y = t then o2 else o' y) i ∧ w5.cell? ⟨g, i, none⟩ = some (.pointer (some ⟨b i, 0, none⟩))) := fun i hi => by
                        obtain ⟨x1, x2, x3⟩ := hpt4.out i hi
                        refine ⟨?_, ?_, by rw [hch.cell (p := ⟨g, i, none⟩) (by show g < _; omega) hgb d1]; exact x3⟩
                        · show g ≠ if i = t then o2 else o' i
                          by_cases hit : i = t
                          · rw [if_pos hit]; omega
                          · rw [if_neg hit]; exact x1
                        · show q ≠ if i = t then o2 else o' i
                          by_cases hit : i = t
                          · rw [if_pos hit]; omega
                          · rw [if_neg hit]; exact x2
                      have hE5 : Hid (Evk w5 q e) := hE4.out.ch hch (by omega) d2
                      have hb5 : Hid (Below B w w5) := hb4.out.trans (hch.below hBb hBo (by omega))
                      clear hP5 hch hPs4 hpt4 hE4 hb4 hPt' c0 c1 c2 c3 d3
                      go_wp2_with fail
                      go_roundw
                      case rel => exact ⟨_, _, _, _, _, _, _, _, _, _, ⟨t + 1, (fun y => if y = t then o2 else o' y), by omega, by go_num, hPs5, hpt5, hE5, hb5, by omega⟩, rfl⟩
                      case measure => simp [intOf]; omega
                    · obtain rfl : t = 4 := by omega
                      have hPs6 : Hid (Pns wr B n s b o' 4 fun _ => es ++ [e]) := fun i hi => by
                        have h := hPs4.out i hi
                        simp only [if_pos hi] at h
                        exact h
                      have hpt6 : Hid (∀ i, i < 4 → g ≠ o' i ∧ wr.cell? ⟨g, i, none⟩ = some (.pointer (some ⟨b i, 0, none⟩))) := fun i hi => ⟨(hpt4.out i hi).1, (hpt4.out i hi).2.2⟩
                      clear hPs4 hpt4 hE4
                      go_wp2_with fail
                      go_roundw
                      case rel => exact ⟨es ++ [e], o', by rw [hel2.out]; omega, by rw [hel2.out]; go_num, hPs6, hpt6, hb4, hevb2, by omega⟩
                      case measure => simp [intOf]; omega
              · go_wp2_with fail
                go_meet
                exact ⟨es, o, by rw [hjj.out]; omega, hPs2, hpt2, hbr2, hevb, hgl2⟩
            · go_wp2_with fail
              go_meet
              exact ⟨es, o, by rw [hjj.out]; omega, hPs2, hpt2, hbr2, hevb, hgl2⟩
      case rest =>
        obtain ⟨es, o, hj, hPs2, hpt2, hbr2, hevb, hgl2⟩ := hcut
        clear hPs hbr hpt hrd
        have q0 := hPs2.out 0 (by omega)
        have q1 := hPs2.out 1 (by omega)
        have q2 := hPs2.out 2 (by omega)
        have q3 := hPs2.out 3 (by omega)
        obtain ⟨ql2, ql3, ql4, hquad0⟩ := quads n s es hj hevb.out
        have hPan1 : Hid (Pan wc (b 0) (o 0) n s 1 (putL n s 1 [] es)) := show Pan wc (b 0) (o 0) n s 1 (putL n s 1 [] es) from by simpa using q0.1
        have hPan2 : Hid (Pan wc (b 1) (o 1) n s 2 (putL n s 2 [] es)) := show Pan wc (b 1) (o 1) n s 2 (putL n s 2 [] es) from by simpa using q1.1
        have hPan3 : Hid (Pan wc (b 2) (o 2) n s 3 (putL n s 3 [] es)) := show Pan wc (b 2) (o 2) n s 3 (putL n s 3 [] es) from by simpa using q2.1
        have hPan4 : Hid (Pan wc (b 3) (o 3) n s 4 (putL n s 4 [] es)) := show Pan wc (b 3) (o 3) n s 4 (putL n s 4 [] es) from by simpa using q3.1
        have hBc : B ≤ wc.heap.size := by have := q0.1.lt; have := q0.2.1; omega
        have hpt3 : Hid (∀ i, i < 4 → wc.cell? ⟨g, i, none⟩ = some (.pointer (some ⟨b i, 0, none⟩))) := fun i hi => (hpt2.out i hi).2
        have hL1l : (putL n s 1 [] es).length ≤ 120 := by
          have h := putL_len n s 1 es []
          simp at h
          omega
        obtain ⟨L1, e1⟩ : ∃ L, Hid (putL n s 1 [] es = L) := ⟨_, rfl⟩
        obtain ⟨L2, e2⟩ : ∃ L, Hid (putL n s 2 [] es = L) := ⟨_, rfl⟩
        obtain ⟨L3, e3⟩ : ∃ L, Hid (putL n s 3 [] es = L) := ⟨_, rfl⟩
        obtain ⟨L4, e4⟩ : ∃ L, Hid (putL n s 4 [] es = L) := ⟨_, rfl⟩
        have hquad : Hid (∀ i, i < L1.length → Quad (pAt L1 i) (pAt L2 i) (pAt L3 i) (pAt L4 i)) := by
          rw [e1.out, e2.out, e3.out, e4.out] at hquad0
          exact hquad0
        rw [e1.out] at hPan1 ql2 ql3 ql4 hL1l
        rw [e2.out] at hPan2 ql2
        rw [e3.out] at hPan3 ql3
        rw [e4.out] at hPan4 ql4
        have hbd : Hid (∀ p ∈ L1, 0 ≤ p.s ∧ p.s ≤ 1099511627776) := fun p hp => by have := (hPan1.out.okl.2 p hp).1; omega
        clear e1 e2 e3 e4 hquad0 q0 q1 q2 q3 hPs2 hpt2 hevb
        obtain ⟨N, hN⟩ : ∃ N, Hid (L1.length = N) := ⟨_, rfl⟩
        have N2 : Hid (L2.length = N) := ql2.trans hN.out
        have N3 : Hid (L3.length = N) := ql3.trans hN.out
        have N4 : Hid (L4.length = N) := ql4.trans hN.out
        rw [hN.out] at hL1l hquad
        clear ql2 ql3 ql4
        obtain ⟨v9, hv9⟩ : ∃ v9, v9 = wc := ⟨_, rfl⟩
        subst hv9
        go_upto_region 20 with fail
        go_cut [16, 17, 18, 19] (fun y1 y2 y3 y4 wx => ∃ a1 c1 a2 c2 a3 c3 a4 c4, y1 = .slice a1 N c1 ∧ y2 = .slice a2 N c2 ∧ y3 = .slice a3 N c3 ∧ y4 = .slice a4 N c4 ∧ Hid (RdR wx (.slice a1 N c1) L1) ∧ Hid (RdR wx (.slice a2 N c2) L2) ∧ Hid (RdR wx (.slice a3 N c3) L3) ∧ Hid (RdR wx (.slice a4 N c4) L4) ∧ Hid (Below v9.heap.size v9 wx))
        case first =>
          as_aux_lemma =>
            refine wp_region_held_drew (S := fun X => Below v9.heap.size v9 X) (by kernel_rfl) (Below.refl _ _).drew (fun hHeld => ?_)
            generalize v9.drew = V at hHeld ⊢
            refine take_at (i := 0) (v := .slice (some ⟨g, 0, none⟩) 4 cp) rfl rfl (by kernel_rfl) (by kernel_rfl) (by kernel_rfl) (fun _ _ _ h => h) (Or.inl ⟨by rfl, fun X _ => by go_simp⟩) hHeld ?_
            try simp only [Act.put, List.setIfInBounds_toArray, List.set_cons_zero, List.set_cons_succ]
            refine take_at (i := 1) (v := .pointer (some ⟨g, 0, none⟩)) rfl rfl (by kernel_rfl) (by kernel_rfl) (by kernel_rfl) (fun _ _ _ h => h) (Or.inl ⟨by rfl, fun X _ => by go_simp⟩) hHeld ?_
            try simp only [Act.put, List.setIfInBounds_toArray, List.set_cons_zero, List.set_cons_succ]
            refine take_at (i := 2) (v := .pointer (some ⟨b 0, 0, none⟩)) rfl rfl (by kernel_rfl) (by kernel_rfl) (by kernel_rfl) (fun _ _ _ h => h) (Or.inl ⟨by rfl, fun X hX => by have c0 : X.cell? ⟨g, 0, none⟩ = _ := (hX.cell (p := ⟨g, 0, none⟩) hgl2).trans (hpt3.out 0 (by omega)); go_simp⟩) hHeld ?_
            try simp only [Act.put, List.setIfInBounds_toArray, List.set_cons_zero, List.set_cons_succ]
            refine take_at (i := 4) (v := .slice (some ⟨g, 0, none⟩) 4 cp) rfl rfl (by kernel_rfl) (by kernel_rfl) (by kernel_rfl) (fun _ _ _ h => h) (Or.inl ⟨by rfl, fun X _ => by go_simp⟩) hHeld ?_
            try simp only [Act.put, List.setIfInBounds_toArray, List.set_cons_zero, List.set_cons_succ]
            refine take_at (i := 5) (v := .pointer (some ⟨g, 1, none⟩)) rfl rfl (by kernel_rfl) (by kernel_rfl) (by kernel_rfl) (fun _ _ _ h => h) (Or.inl ⟨by rfl, fun X _ => by go_simp⟩) hHeld ?_
            try simp only [Act.put, List.setIfInBounds_toArray, List.set_cons_zero, List.set_cons_succ]
            refine take_at (i := 6) (v := .pointer (some ⟨b 1, 0, none⟩)) rfl rfl (by kernel_rfl) (by kernel_rfl) (by kernel_rfl) (fun _ _ _ h => h) (Or.inl ⟨by rfl, fun X hX => by have c0 : X.cell? ⟨g, 1, none⟩ = _ := (hX.cell (p := ⟨g, 1, none⟩) hgl2).trans (hpt3.out 1 (by omega)); go_simp⟩) hHeld ?_
            try simp only [Act.put, List.setIfInBounds_toArray, List.set_cons_zero, List.set_cons_succ]
            refine take_at (i := 8) (v := .slice (some ⟨g, 0, none⟩) 4 cp) rfl rfl (by kernel_rfl) (by kernel_rfl) (by kernel_rfl) (fun _ _ _ h => h) (Or.inl ⟨by rfl, fun X _ => by go_simp⟩) hHeld ?_
            try simp only [Act.put, List.setIfInBounds_toArray, List.set_cons_zero, List.set_cons_succ]
            refine take_at (i := 9) (v := .pointer (some ⟨g, 2, none⟩)) rfl rfl (by kernel_rfl) (by kernel_rfl) (by kernel_rfl) (fun _ _ _ h => h) (Or.inl ⟨by rfl, fun X _ => by go_simp⟩) hHeld ?_
            try simp only [Act.put, List.setIfInBounds_toArray, List.set_cons_zero, List.set_cons_succ]
            refine take_at (i := 10) (v := .pointer (some ⟨b 2, 0, none⟩)) rfl rfl (by kernel_rfl) (by kernel_rfl) (by kernel_rfl) (fun _ _ _ h => h) (Or.inl ⟨by rfl, fun X hX => by have c0 : X.cell? ⟨g, 2, none⟩ = _ := (hX.cell (p := ⟨g, 2, none⟩) hgl2).trans (hpt3.out 2 (by omega)); go_simp⟩) hHeld ?_
            try simp only [Act.put, List.setIfInBounds_toArray, List.set_cons_zero, List.set_cons_succ]
            refine take_at (i := 12) (v := .slice (some ⟨g, 0, none⟩) 4 cp) rfl rfl (by kernel_rfl) (by kernel_rfl) (by kernel_rfl) (fun _ _ _ h => h) (Or.inl ⟨by rfl, fun X _ => by go_simp⟩) hHeld ?_
            try simp only [Act.put, List.setIfInBounds_toArray, List.set_cons_zero, List.set_cons_succ]
            refine take_at (i := 13) (v := .pointer (some ⟨g, 3, none⟩)) rfl rfl (by kernel_rfl) (by kernel_rfl) (by kernel_rfl) (fun _ _ _ h => h) (Or.inl ⟨by rfl, fun X _ => by go_simp⟩) hHeld ?_
            try simp only [Act.put, List.setIfInBounds_toArray, List.set_cons_zero, List.set_cons_succ]
            refine take_at (i := 14) (v := .pointer (some ⟨b 3, 0, none⟩)) rfl rfl (by kernel_rfl) (by kernel_rfl) (by kernel_rfl) (fun _ _ _ h => h) (Or.inl ⟨by rfl, fun X hX => by have c0 : X.cell? ⟨g, 3, none⟩ = _ := (hX.cell (p := ⟨g, 3, none⟩) hgl2).trans (hpt3.out 3 (by omega)); go_simp⟩) hHeld ?_
            try simp only [Act.put, List.setIfInBounds_toArray, List.set_cons_zero, List.set_cons_succ]
            refine wpAnyH_ready (rs := [3]) (by kernel_rfl) (by simp) ?_
            refine AllReadyH.cons rfl (fun KK hK => ?_) AllReadyH.nil
            rw [if_pos (by rfl)]
            go_wp2_with fail
            refine (open_is (b 0) (o 0) n s 1 L1 _ (hPan1.out.below hHeld) (by rw [hN.out]; omega)).mono ?_
            rintro r U1 ⟨y1, rfl, hu, hbn⟩
            have R1 : Hid (RdR U1 y1 L1) := rdr_own hu
            go_wp2_with fail
            refine hK.out _ _ (below_call hHeld hbn) (fun hHeld => ?_)
            clear hK KK
            try simp only [Act.put, List.setIfInBounds_toArray, List.set_cons_zero, List.set_cons_succ]
            clear hu hbn
            refine wpAnyH_ready (rs := [7]) (by kernel_rfl) (by simp) ?_
            refine AllReadyH.cons rfl (fun KK hK => ?_) AllReadyH.nil
            rw [if_pos (by rfl)]
            go_wp2_with fail
            refine (open_is (b 1) (o 1) n s 2 L2 _ (hPan2.out.below hHeld) (by rw [N2.out]; omega)).mono ?_
            rintro r U2 ⟨y2, rfl, hu, hbn⟩
            have R2 : Hid (RdR U2 y2 L2) := rdr_own hu
            replace R1 : Hid (RdR U2 y1 L1) := R1.out.below hbn
            go_wp2_with fail
            refine hK.out _ _ (below_call hHeld hbn) (fun hHeld => ?_)
            clear hK KK
            try simp only [Act.put, List.setIfInBounds_toArray, List.set_cons_zero, List.set_cons_succ]
            clear hu hbn
            refine wpAnyH_ready (rs := [11]) (by kernel_rfl) (by simp) ?_
            refine AllReadyH.cons rfl (fun KK hK => ?_) AllReadyH.nil
            rw [if_pos (by rfl)]
            go_wp2_with fail
            refine (open_is (b 2) (o 2) n s 3 L3 _ (hPan3.out.below hHeld) (by rw [N3.out]; omega)).mono ?_
            rintro r U3 ⟨y3, rfl, hu, hbn⟩
            have R3 : Hid (RdR U3 y3 L3) := rdr_own hu
            replace R1 : Hid (RdR U3 y1 L1) := R1.out.below hbn
            replace R2 : Hid (RdR U3 y2 L2) := R2.out.below hbn
            go_wp2_with fail
            refine hK.out _ _ (below_call hHeld hbn) (fun hHeld => ?_)
            clear hK KK
            try simp only [Act.put, List.setIfInBounds_toArray, List.set_cons_zero, List.set_cons_succ]
            clear hu hbn
            refine wpAnyH_ready (rs := [15]) (by kernel_rfl) (by simp) ?_
            refine AllReadyH.cons rfl (fun KK hK => ?_) AllReadyH.nil
            rw [if_pos (by rfl)]
            go_wp2_with fail
            refine (open_is (b 3) (o 3) n s 4 L4 _ (hPan4.out.below hHeld) (by rw [N4.out]; omega)).mono ?_
            rintro r U4 ⟨y4, rfl, hu, hbn⟩
            have R4 : Hid (RdR U4 y4 L4) := rdr_own hu
            replace R1 : Hid (RdR U4 y1 L1) := R1.out.below hbn
            replace R2 : Hid (RdR U4 y2 L2) := R2.out.below hbn
            replace R3 : Hid (RdR U4 y3 L3) := R3.out.below hbn
            go_wp2_with fail
            refine hK.out _ _ (below_call hHeld hbn) (fun hHeld => ?_)
            clear hK KK
            try simp only [Act.put, List.setIfInBounds_toArray, List.set_cons_zero, List.set_cons_succ]
            clear hu hbn
            refine take_at (i := 16) (v := y1) rfl rfl (by kernel_rfl) (by kernel_rfl) (by kernel_rfl) (fun _ _ _ h => h) (Or.inl ⟨by rfl, fun X _ => by go_simp⟩) hHeld ?_
            try simp only [Act.put, List.setIfInBounds_toArray, List.set_cons_zero, List.set_cons_succ]
            refine take_at (i := 17) (v := y2) rfl rfl (by kernel_rfl) (by kernel_rfl) (by kernel_rfl) (fun _ _ _ h => h) (Or.inl ⟨by rfl, fun X _ => by go_simp⟩) hHeld ?_
            try simp only [Act.put, List.setIfInBounds_toArray, List.set_cons_zero, List.set_cons_succ]
            refine take_at (i := 18) (v := y3) rfl rfl (by kernel_rfl) (by kernel_rfl) (by kernel_rfl) (fun _ _ _ h => h) (Or.inl ⟨by rfl, fun X _ => by go_simp⟩) hHeld ?_
            try simp only [Act.put, List.setIfInBounds_toArray, List.set_cons_zero, List.set_cons_succ]
            refine take_at (i := 19) (v := y4) rfl rfl (by kernel_rfl) (by kernel_rfl) (by kernel_rfl) (fun _ _ _ h => h) (Or.inl ⟨by rfl, fun X _ => by go_simp⟩) hHeld ?_
            try simp only [Act.put, List.setIfInBounds_toArray, List.set_cons_zero, List.set_cons_succ]
            refine wpAnyH_done (by kernel_rfl) ?_ _
            obtain ⟨_, a1, c1, f1, _, _, _⟩ := id R1.out
            obtain ⟨_, a2, c2, f2, _, _, _⟩ := id R2.out
            obtain ⟨_, a3, c3, f3, _, _, _⟩ := id R3.out
            obtain ⟨_, a4, c4, f4, _, _, _⟩ := id R4.out
            rw [hN.out] at f1
            rw [N2.out] at f2
            rw [N3.out] at f3
            rw [N4.out] at f4
            subst f1 f2 f3 f4
            go_wp2_with fail
            go_meet
            exact ⟨a1, c1, a2, c2, a3, c3, a4, c4, rfl, rfl, rfl, rfl, R1, R2, R3, R4, hHeld⟩
        case rest =>
          obtain ⟨a1, cc1, a2, cc2, a3, cc3, a4, cc4, rfl, rfl, rfl, rfl, R1, R2, R3, R4, hbx⟩ := hcut
          have hb5 : Hid (Below B w wc) := hbr2.out.trans (hbx.out.mono hBc)
          have hz5 : B ≤ wc.heap.size := by have := hbx.out.size; omega
          have K1 : Hid (∀ i, i < N → ∃ b off, a1 = some ⟨b, off, none⟩ ∧ RwAt wc b (off + i * 5) (pAt L1 i)) := fun i hi => by
            obtain ⟨_, ao, cp', e, _, _, hc⟩ := R1.out
            injection e with e _ _
            subst e
            obtain ⟨b, off, e1, _, e3⟩ := hc (by rw [hN.out]; omega)
            exact ⟨b, off, e1, e3 i (by rw [hN.out]; exact hi)⟩
          have K2 : Hid (∀ i, i < N → ∃ b off, a2 = some ⟨b, off, none⟩ ∧ RwAt wc b (off + i * 5) (pAt L2 i)) := fun i hi => by
            obtain ⟨_, ao, cp', e, _, _, hc⟩ := R2.out
            injection e with e _ _
            subst e
            obtain ⟨b, off, e1, _, e3⟩ := hc (by rw [N2.out]; omega)
            exact ⟨b, off, e1, e3 i (by rw [N2.out]; exact hi)⟩
          have K3 : Hid (∀ i, i < N → ∃ b off, a3 = some ⟨b, off, none⟩ ∧ RwAt wc b (off + i * 5) (pAt L3 i)) := fun i hi => by
            obtain ⟨_, ao, cp', e, _, _, hc⟩ := R3.out
            injection e with e _ _
            subst e
            obtain ⟨b, off, e1, _, e3⟩ := hc (by rw [N3.out]; omega)
            exact ⟨b, off, e1, e3 i (by rw [N3.out]; exact hi)⟩
          have K4 : Hid (∀ i, i < N → ∃ b off, a4 = some ⟨b, off, none⟩ ∧ RwAt wc b (off + i * 5) (pAt L4 i)) := fun i hi => by
            obtain ⟨_, ao, cp', e, _, _, hc⟩ := R4.out
            injection e with e _ _
            subst e
            obtain ⟨b, off, e1, _, e3⟩ := hc (by rw [N4.out]; omega)
            exact ⟨b, off, e1, e3 i (by rw [N4.out]; exact hi)⟩
          clear R1 R2 R3 R4 hbx hbr2 hPan1 hPan2 hPan3 hPan4 hpt3
          go_wp2_with fail
          go_loopw [120] (fun i wr => ∃ k nd : Nat, k ≤ N ∧ i = .int .i64 k ∧ wr = wc.drewN nd) (fun i _ => N - (intOf i).toNat)
          case atStart => exact ⟨0, 0, Nat.zero_le _, rfl, rfl⟩
          case round =>
            obtain ⟨k, nd, hk, rfl, rfl⟩ := hrel
            by_cases hkN : k < N
            · as_aux_lemma =>
                obtain ⟨b1, f1, rfl, p0, p1, p2, p3, p4⟩ := K1.out k hkN
                obtain ⟨b2, f2, rfl, q0, q1, q2, q3, q4⟩ := K2.out k hkN
                obtain ⟨b3, f3, rfl, r0, r1, r2, r3, r4⟩ := K3.out k hkN
                obtain ⟨b4, f4, rfl, t0, t1, t2, t3, t4⟩ := K4.out k hkN
                have hq := hquad.out k hkN
                obtain ⟨⟨x1, x2, x3, x4, x5⟩, g1⟩ : ∃ p, pAt L1 k = p := ⟨_, rfl⟩
                obtain ⟨⟨y1, y2, y3, y4, y5⟩, g2⟩ : ∃ p, pAt L2 k = p := ⟨_, rfl⟩
                obtain ⟨⟨z1, z2, z3, z4, z5⟩, g3⟩ : ∃ p, pAt L3 k = p := ⟨_, rfl⟩
                obtain ⟨⟨v1, v2, v3, v4, v5⟩, g4⟩ : ∃ p, pAt L4 k = p := ⟨_, rfl⟩
                rw [g1] at p0 p1 p2 p3 p4 hq
                rw [g2] at q0 q1 q2 q3 q4 hq
                rw [g3] at r0 r1 r2 r3 r4 hq
                rw [g4] at t0 t1 t2 t3 t4 hq
                clear g1 g2 g3 g4
                obtain ⟨h1, h2, h3, h4, ⟨h5, h6⟩, h7, h8, h9, ⟨h10, h11⟩, ⟨h12, h13⟩⟩ := hq
                simp only at p0 p1 p2 p3 p4 q0 q1 q2 q3 q4 r0 r1 r2 r3 r4 t0 t1 t2 t3 t4 h1 h2 h3 h4 h5 h6 h7 h8 h9 h10 h11 h12 h13
                have h1' := h1.symm
                have h2' := h2.symm
                have h3' := h3.symm
                have h4' := h4.symm
                clear h1 h2 h3 h4
                subst h1' h2' h3' h4'
                have hm3 : -120000 ≤ x3 * z4 ∧ x3 * z4 ≤ 120000 := by
                  have a1 := Int.mul_le_mul_of_nonneg_left h10 (show (0 : Int) ≤ x3 by omega)
                  have a2 := Int.mul_le_mul_of_nonneg_left h11 (show (0 : Int) ≤ x3 by omega)
                  omega
                have hm4 : -120000 ≤ x3 * v4 ∧ x3 * v4 ≤ 120000 := by
                  have a1 := Int.mul_le_mul_of_nonneg_left h12 (show (0 : Int) ≤ x3 by omega)
                  have a2 := Int.mul_le_mul_of_nonneg_left h13 (show (0 : Int) ≤ x3 by omega)
                  omega
                obtain ⟨A3, hA3⟩ : ∃ A, x3 * z4 = A := ⟨_, rfl⟩
                obtain ⟨A4, hA4⟩ : ∃ A, x3 * v4 = A := ⟨_, rfl⟩
                rw [hA3] at hm3 h8
                rw [hA4] at hm4 h9
                have e1 : IntKind.i64.wrap A3 = A3 := by rw [IntKind.wrap_i64]; omega
                have e2 : IntKind.i64.wrap A4 = A4 := by rw [IntKind.wrap_i64]; omega
                have e3 : wrap64 A3 = A3 := wrap_in _ (by omega)
                have e4 : wrap64 A4 = A4 := wrap_in _ (by omega)
                have d1 : decide (x3 < 1) = false := decide_eq_false (by omega)
                have d2 : decide (v4 < z4) = false := decide_eq_false (by omega)
                have d3 : decide (y4 < A3) = false := decide_eq_false (by omega)
                have d4 : decide (A4 < y4) = false := decide_eq_false (by omega)
                clear h5 h6 h7 h8 h9 h10 h11 h12 h13
                go_upto_region 27 with fail
                dsimp only [List.append]
                refine wp_region_quiet_lit (by kernel_rfl) (by kernel_rfl) ?_
                iterate 13 (go_big_quiet_step (fail))
                as_aux_lemma =>
                  iterate 13 (go_big_quiet_step (fail))
                  as_aux_lemma =>
                    iterate 13 (go_big_quiet_step (fail))
                    as_aux_lemma =>
                      iterate 13 (go_big_quiet_step (fail))
                      as_aux_lemma =>
                        iterate 13 (go_big_quiet_step (fail))
                        as_aux_lemma =>
                          iterate 12 (go_big_quiet_step (fail))
                          as_aux_lemma =>
                            iterate 12 (go_big_quiet_step (fail))
                            refine wpQuiet_nil ?_
                            intro _ hw'
                            obtain ⟨nq, hw''⟩ := hw'
                            subst hw''
                            go_wp2_with fail
                            go_roundw
                            case rel => exact ⟨k + 1, nd + nq, by omega, by go_num, rfl⟩
                            case measure => simp [intOf]; omega
            · go_wp2_with fail
              refine (runs_is _).mono ?_
              rintro r x9 ⟨rfl, hx9⟩
              have hb9 : Hid (Below B w x9) := (below_drewN hb5.out nd).trans (hx9.mono (by have := (below_drewN (Below.refl wc.heap.size wc) nd).size; omega))
              clear hx9
              go_wp2_with fail
              go_ret
              exact ⟨rfl, by rw [hB.out]; exact hb9.out⟩
end Go.Proofs.Ythnkhijabfnndaa
