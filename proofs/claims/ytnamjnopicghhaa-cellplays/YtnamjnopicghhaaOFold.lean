/- What oper.Run, cordonref1.Run and oper.Right compute of any list of operations: they write nothing that was there. -/
import Derived.Test.YtnamjnopicghhaaORef
namespace Go.Proofs.Ytnamjnopicghhaa.O
open Go.RowKit MO

/-- The two cells of an operation. -/
def OpAt (w : World) (b o : Nat) (x : Oq) : Prop := w.cell? ⟨b, o, none⟩ = some (.int .i64 x.k) ∧ w.cell? ⟨b, o + 1, none⟩ = some (.int .i64 x.n)
theorem OpAt.below {w w' : World} {b o : Nat} {e : Oq} (h : OpAt w b o e) {B : Nat} (hb : Below B w w') (hlt : b < B) : OpAt w' b o e := by
  have hc : ∀ p : Addr, p.block = b → w'.cell? p = w.cell? p := fun p hp => hb.cell (p := p) (by rw [hp]; exact hlt)
  exact ⟨(hc _ rfl).trans h.1, (hc _ rfl).trans h.2⟩
abbrev opAt (os : List Oq) (i : Nat) : Oq := os.getD i ⟨0, 0⟩
/-- A slice value whose elements are these operations. -/
def RdO (w : World) (v : Value) (os : List Oq) : Prop :=
  os.length ≤ 9223372036854775807 ∧ (∀ o ∈ os, o.n ≤ 9223372036854775807) ∧ ∃ ao cap, v = .slice ao os.length cap ∧ os.length ≤ cap ∧ cap ≤ 9223372036854775807 ∧ (os.length ≠ 0 → ∃ b off, ao = some ⟨b, off, none⟩ ∧ b < w.heap.size ∧ ∀ j, j < os.length → OpAt w b (off + j * 2) (opAt os j))
theorem RdO.below {w w' : World} {v : Value} {os : List Oq} (h : RdO w v os) {B : Nat} (hb : Below B w w') (hB : w.heap.size ≤ B) (hs : w.heap.size ≤ w'.heap.size) : RdO w' v os := by
  obtain ⟨h1, h2, ao, cap, rfl, h3, h4, h5⟩ := h
  refine ⟨h1, h2, ao, cap, rfl, h3, h4, fun h0 => ?_⟩
  obtain ⟨b, off, rfl, hlt, hc⟩ := h5 h0
  exact ⟨b, off, rfl, Nat.lt_of_lt_of_le hlt hs, fun j hj => (hc j hj).below hb (Nat.lt_of_lt_of_le hlt hB)⟩

/-- An event's block. -/
def Evk (w : World) (b : Nat) (e : Ev) : Prop := w.heap[b]? = some (.cells #[.int .i64 e.t, .int .i64 e.k, .int .i64 e.v, .int .u64 e.l] 29 (0, 0))
theorem Evk.c0 {w : World} {b : Nat} {e : Ev} (h : Evk w b e) : w.cell? ⟨b, 0, none⟩ = some (.int .i64 e.t) := by unfold Evk at h; simp [World.cell?, h]
theorem Evk.c1 {w : World} {b : Nat} {e : Ev} (h : Evk w b e) : w.cell? ⟨b, 1, none⟩ = some (.int .i64 e.k) := by unfold Evk at h; simp [World.cell?, h]
theorem Evk.c2 {w : World} {b : Nat} {e : Ev} (h : Evk w b e) : w.cell? ⟨b, 2, none⟩ = some (.int .i64 e.v) := by unfold Evk at h; simp [World.cell?, h]
theorem Evk.c3 {w : World} {b : Nat} {e : Ev} (h : Evk w b e) : w.cell? ⟨b, 3, none⟩ = some (.int .u64 e.l) := by unfold Evk at h; simp [World.cell?, h]
theorem Evk.free {w : World} {b : Nat} {e : Ev} (h : Evk w b e) (i : Nat) : w.frozen? ⟨b, i, none⟩ = false := by unfold Evk at h; simp [World.frozen?, h]
theorem Evk.lt {w : World} {b : Nat} {e : Ev} (h : Evk w b e) : b < w.heap.size := (Array.getElem?_eq_some_iff.1 h).1
theorem Evk.below {w w' : World} {b B : Nat} {e : Ev} (h : Evk w b e) (hb : Below B w w') (hB : b < B) : Evk w' b e := (hb.block b hB).trans h
theorem Evk.alloc {w : World} {b : Nat} {e : Ev} (h : Evk w b e) (o : Obj) : Evk (w.alloc o) b e := h.below (below_alloc w o) h.lt
theorem evk_new (w : World) (t k v l : Int) : Evk (w.alloc (.cells #[.int .i64 t, .int .i64 k, .int .i64 v, .int .u64 l] 29)) w.heap.size ⟨t, k, v, l⟩ := by
  show (w.heap.push _)[w.heap.size]? = _
  simp
theorem evk_at {b : Nat} (w : World) (hb : b = w.heap.size) (t k v l : Int) : Evk (w.alloc (.cells #[.int .i64 t, .int .i64 k, .int .i64 v, .int .u64 l] 29)) b ⟨t, k, v, l⟩ := by
  subst hb; exact evk_new w t k v l
theorem Evk.set {w : World} {b : Nat} {e : Ev} (h : Evk w b e) (t k v l : Int) : Evk ((((w.setCell ⟨b, 0, none⟩ (.int .i64 t)).setCell ⟨b, 1, none⟩ (.int .i64 k)).setCell ⟨b, 2, none⟩ (.int .i64 v)).setCell ⟨b, 3, none⟩ (.int .u64 l)) b ⟨t, k, v, l⟩ := by
  unfold Evk at *; simp [World.setCell, Array.getElem?_modify, h]
theorem heap_set4 (w : World) (b g : Nat) (x0 x1 x2 x3 : Value) (hg : g ≠ b) : ((((w.setCell ⟨b, 0, none⟩ x0).setCell ⟨b, 1, none⟩ x1).setCell ⟨b, 2, none⟩ x2).setCell ⟨b, 3, none⟩ x3).heap[g]? = w.heap[g]? := by
  rw [Below.heap_setCell _ _ _ _ hg, Below.heap_setCell _ _ _ _ hg, Below.heap_setCell _ _ _ _ hg, Below.heap_setCell _ _ _ _ hg]

theorem Evk.set_other {w : World} {b g : Nat} {e : Ev} (h : Evk w g e) (hg : g ≠ b) (x0 x1 x2 x3 : Value) : Evk ((((w.setCell ⟨b, 0, none⟩ x0).setCell ⟨b, 1, none⟩ x1).setCell ⟨b, 2, none⟩ x2).setCell ⟨b, 3, none⟩ x3) g e := (heap_set4 w b g x0 x1 x2 x3 hg).trans h
theorem size_set4 (w : World) (b : Nat) (x0 x1 x2 x3 : Value) : ((((w.setCell ⟨b, 0, none⟩ x0).setCell ⟨b, 1, none⟩ x1).setCell ⟨b, 2, none⟩ x2).setCell ⟨b, 3, none⟩ x3).heap.size = w.heap.size := by
  simp [World.setCell]
theorem run_drop (os : List Oq) (k : Nat) (h : k < os.length) (e : Ev) : run (os.drop k) e = match app (opAt os k) e with
    | (e', true) => run (os.drop (k + 1)) e'
    | (_, false) => (zeroE, false) := by
  rw [List.drop_eq_getElem_cons h]
  have e1 : opAt os k = os[k] := by simp [List.getD_eq_getElem?_getD, h]
  rw [e1]; rfl
theorem opAt_n (os : List Oq) (h : ∀ o ∈ os, o.n ≤ 9223372036854775807) (k : Nat) (hk : k < os.length) : (opAt os k).n ≤ 9223372036854775807 := by
  have e1 : opAt os k = os[k] := by simp [List.getD_eq_getElem?_getD, hk]
  rw [e1]; exact h _ (List.getElem_mem hk)

set_option maxHeartbeats 1000000 in
/-- oper.Run. -/
theorem run_is (t k v l : Int) (sv : Value) (os : List Oq) (x : Ev × Bool) (w : World) (hv : RdO w sv os) (hx : run os ⟨t, k, v, l⟩ = x) :
    Calls Try.prog 70 #[evv t k v l, sv] w fun e w' => e = .returned (evp x) ∧ Below w.heap.size w w' := by
  have hX : Hid (run os ⟨t, k, v, l⟩ = x) := hx
  clear hx
  obtain ⟨hlen, hlt, ao, cap, rfl, _, _, hc⟩ := hv
  have hc' : Hid (os.length ≠ 0 → ∃ b off, ao = some ⟨b, off, none⟩ ∧ b < w.heap.size ∧ ∀ j, j < os.length → OpAt w b (off + j * 2) (opAt os j)) := hc
  have hlt' : Hid (∀ o ∈ os, o.n ≤ 9223372036854775807) := hlt
  clear hc hlt
  go_enter Try.func70, Try.ntmps70
  go_wp2_with fail
  go_loopw [12] (fun i wr => ∃ (k : Nat) (cur : Ev), k ≤ os.length ∧ i = .int .i64 k ∧ Hid (run (os.drop k) cur = x) ∧ Evk wr w.heap.size cur ∧ Evk wr (w.heap.size + 1) zeroE ∧ Below w.heap.size w wr) (fun i _ => os.length - (intOf i).toNat)
  case atStart => exact ⟨0, ⟨t, k, v, l⟩, Nat.zero_le _, rfl, hX.out, (evk_new w t k v l).alloc _, evk_at _ (by simp) 0 0 0 0, (below_alloc _ _).alloc (by simp) _⟩
  case round =>
    obtain ⟨j, ⟨ct, ck, cv, cl⟩, hj, rfl, hr, he, hz, hbw⟩ := hrel
    have e0 := he.c0
    have e1 := he.c1
    have e2 := he.c2
    have e3 := he.c3
    simp only at e0 e1 e2 e3
    by_cases hlt : j < os.length
    · obtain ⟨b, off, rfl, hb, hcell⟩ := hc'.out (by omega)
      have hx := (hcell j hlt).below hbw hb
      have hn := opAt_n os hlt'.out j hlt
      have hs : Hid (_ = _) := run_drop os j hlt ⟨ct, ck, cv, cl⟩
      clear hcell hc'
      obtain ⟨⟨c, n⟩, hee⟩ : ∃ x, opAt os j = x := ⟨_, rfl⟩
      rw [hee] at hx hn hs
      clear hee
      obtain ⟨p0, p1⟩ := hx
      simp only at p0 p1 hn
      have hl1 := he.lt
      have hl2 := hz.lt
      obtain ⟨⟨⟨rt, rk, rv, rl⟩, p⟩, hp⟩ : ∃ y, Hid (app ⟨c, n⟩ ⟨ct, ck, cv, cl⟩ = y) := ⟨_, rfl⟩
      rw [hp.out] at hs
      go_wp2_with fail
      refine (apply_is c n ct ck cv cl (⟨rt, rk, rv, rl⟩, p) _ hn hp.out).mono ?_
      rintro e w1 ⟨rfl, b1⟩
      have he1 := (he.alloc _).below b1 (Nat.lt_of_lt_of_le hl1 (by simp))
      have hz1 := (hz.alloc _).below b1 (Nat.lt_of_lt_of_le hl2 (by simp))
      have hb1 := (hbw.alloc (Nat.le_of_lt hl1) _).trans (b1.mono (Nat.le_trans (Nat.le_of_lt hl1) (by simp)))
      clear b1 he hz hbw e0 e1 e2 e3 p0 p1 hl1 hl2
      have hl1 := he1.lt
      have hl2 := hz1.lt
      cases p with
      | true =>
        have e0 := he1.c0
        have e1 := he1.c1
        have e2 := he1.c2
        have e3 := he1.c3
        have f0 := he1.free 0
        have f1 := he1.free 1
        have f2 := he1.free 2
        have f3 := he1.free 3
        go_wp2
        go_roundw
        case rel => exact ⟨j + 1, ⟨rt, rk, rv, rl⟩, by omega, by go_num, hs.out.symm.trans hr.out, (he1.set rt rk rv rl).alloc _, (hz1.set_other (by omega) _ _ _ _).alloc _, (below_set4 hb1 (Nat.le_refl _) _ _ _ _).alloc (by rw [size_set4]; exact Nat.le_of_lt hl1) _⟩
        case measure => simp [intOf]; omega
      | false =>
        have hx : Hid ((zeroE, false) = x) := hs.out.symm.trans hr.out
        have e0 := hz1.c0
        have e1 := hz1.c1
        have e2 := hz1.c2
        have e3 := hz1.c3
        have f0 := hz1.free 0
        have f1 := hz1.free 1
        have f2 := hz1.free 2
        have f3 := hz1.free 3
        go_wp2
        refine bodyPost_ret (v := evp (zeroE, false)) (by simp [results, Try.results70, go_sem, e0, e1, e2, e3, hl2]) rfl ⟨by rw [hx.out], ?_⟩
        exact (below_set4 hb1 (Nat.le_succ _) _ _ _ _).alloc (by rw [size_set4]; exact Nat.le_of_lt hl1) _
    · have hx : Hid ((⟨ct, ck, cv, cl⟩, true) = x) := by
        have h := hr.out
        rw [List.drop_of_length_le (by omega)] at h
        exact h
      have z0 := hz.c0
      have z1 := hz.c1
      have z2 := hz.c2
      have z3 := hz.c3
      have f0 := hz.free 0
      have f1 := hz.free 1
      have f2 := hz.free 2
      have f3 := hz.free 3
      go_wp2
      refine bodyPost_ret (v := evp (⟨ct, ck, cv, cl⟩, true)) (by simp [results, Try.results70, go_sem, z0, z1, z2, z3]) rfl ⟨by rw [hx.out], ?_⟩
      exact below_set4 hbw (Nat.le_succ _) _ _ _ _

set_option maxHeartbeats 1000000 in
/-- cordonref1.Run. -/
theorem rrun_is (t k v l : Int) (sv : Value) (os : List Oq) (x : Ev × Bool) (w : World) (hv : RdO w sv os) (hx : run os ⟨t, k, v, l⟩ = x) :
    Calls Try.prog 59 #[sv, evv t k v l] w fun e w' => e = .returned (evp x) ∧ Below w.heap.size w w' := by
  have hX : Hid (run os ⟨t, k, v, l⟩ = x) := hx
  clear hx
  obtain ⟨hlen, hlt, ao, cap, rfl, _, _, hc⟩ := hv
  have hc' : Hid (os.length ≠ 0 → ∃ b off, ao = some ⟨b, off, none⟩ ∧ b < w.heap.size ∧ ∀ j, j < os.length → OpAt w b (off + j * 2) (opAt os j)) := hc
  have hlt' : Hid (∀ o ∈ os, o.n ≤ 9223372036854775807) := hlt
  clear hc hlt
  go_enter Try.func59, Try.ntmps59
  go_wp2_with fail
  go_loopw [12] (fun i wr => ∃ (k : Nat) (cur : Ev), k ≤ os.length ∧ i = .int .i64 k ∧ Hid (run (os.drop k) cur = x) ∧ Evk wr w.heap.size cur ∧ Evk wr (w.heap.size + 1) zeroE ∧ Below w.heap.size w wr) (fun i _ => os.length - (intOf i).toNat)
  case atStart => exact ⟨0, ⟨t, k, v, l⟩, Nat.zero_le _, rfl, hX.out, (evk_new w t k v l).alloc _, evk_at _ (by simp) 0 0 0 0, (below_alloc _ _).alloc (by simp) _⟩
  case round =>
    obtain ⟨j, ⟨ct, ck, cv, cl⟩, hj, rfl, hr, he, hz, hbw⟩ := hrel
    have e0 := he.c0
    have e1 := he.c1
    have e2 := he.c2
    have e3 := he.c3
    simp only at e0 e1 e2 e3
    by_cases hlt : j < os.length
    · obtain ⟨b, off, rfl, hb, hcell⟩ := hc'.out (by omega)
      have hx := (hcell j hlt).below hbw hb
      have hn := opAt_n os hlt'.out j hlt
      have hs : Hid (_ = _) := run_drop os j hlt ⟨ct, ck, cv, cl⟩
      clear hcell hc'
      obtain ⟨⟨c, n⟩, hee⟩ : ∃ x, opAt os j = x := ⟨_, rfl⟩
      rw [hee] at hx hn hs
      clear hee
      obtain ⟨p0, p1⟩ := hx
      simp only at p0 p1 hn
      have hl1 := he.lt
      have hl2 := hz.lt
      obtain ⟨⟨⟨rt, rk, rv, rl⟩, p⟩, hp⟩ : ∃ y, Hid (app ⟨c, n⟩ ⟨ct, ck, cv, cl⟩ = y) := ⟨_, rfl⟩
      rw [hp.out] at hs
      go_wp2_with fail
      refine (ref_is c n ct ck cv cl (⟨rt, rk, rv, rl⟩, p) _ hn hp.out).mono ?_
      rintro e w1 ⟨rfl, b1⟩
      have he1 := (he.alloc _).below b1 (Nat.lt_of_lt_of_le hl1 (by simp))
      have hz1 := (hz.alloc _).below b1 (Nat.lt_of_lt_of_le hl2 (by simp))
      have hb1 := (hbw.alloc (Nat.le_of_lt hl1) _).trans (b1.mono (Nat.le_trans (Nat.le_of_lt hl1) (by simp)))
      clear b1 he hz hbw e0 e1 e2 e3 p0 p1 hl1 hl2
      have hl1 := he1.lt
      have hl2 := hz1.lt
      cases p with
      | true =>
        have e0 := he1.c0
        have e1 := he1.c1
        have e2 := he1.c2
        have e3 := he1.c3
        have f0 := he1.free 0
        have f1 := he1.free 1
        have f2 := he1.free 2
        have f3 := he1.free 3
        go_wp2
        go_roundw
        case rel => exact ⟨j + 1, ⟨rt, rk, rv, rl⟩, by omega, by go_num, hs.out.symm.trans hr.out, (he1.set rt rk rv rl).alloc _, (hz1.set_other (by omega) _ _ _ _).alloc _, (below_set4 hb1 (Nat.le_refl _) _ _ _ _).alloc (by rw [size_set4]; exact Nat.le_of_lt hl1) _⟩
        case measure => simp [intOf]; omega
      | false =>
        have hx : Hid ((zeroE, false) = x) := hs.out.symm.trans hr.out
        have e0 := hz1.c0
        have e1 := hz1.c1
        have e2 := hz1.c2
        have e3 := hz1.c3
        have f0 := hz1.free 0
        have f1 := hz1.free 1
        have f2 := hz1.free 2
        have f3 := hz1.free 3
        go_wp2
        refine bodyPost_ret (v := evp (zeroE, false)) (by simp [results, Try.results59, go_sem, e0, e1, e2, e3, hl2]) rfl ⟨by rw [hx.out], ?_⟩
        exact (below_set4 hb1 (Nat.le_succ _) _ _ _ _).alloc (by rw [size_set4]; exact Nat.le_of_lt hl1) _
    · have hx : Hid ((⟨ct, ck, cv, cl⟩, true) = x) := by
        have h := hr.out
        rw [List.drop_of_length_le (by omega)] at h
        exact h
      have z0 := hz.c0
      have z1 := hz.c1
      have z2 := hz.c2
      have z3 := hz.c3
      have f0 := hz.free 0
      have f1 := hz.free 1
      have f2 := hz.free 2
      have f3 := hz.free 3
      go_wp2
      refine bodyPost_ret (v := evp (⟨ct, ck, cv, cl⟩, true)) (by simp [results, Try.results59, go_sem, z0, z1, z2, z3]) rfl ⟨by rw [hx.out], ?_⟩
      exact below_set4 hbw (Nat.le_succ _) _ _ _ _

theorem all_drop (os : List Oq) (k : Nat) (h : k < os.length) : (os.drop k).all rightO = (rightO (opAt os k) && (os.drop (k + 1)).all rightO) := by
  rw [List.drop_eq_getElem_cons h]
  have e1 : opAt os k = os[k] := by simp [List.getD_eq_getElem?_getD, h]
  rw [e1]; rfl
set_option maxHeartbeats 1000000 in
/-- oper.Right. -/
theorem right_any (sv : Value) (os : List Oq) (x : Bool) (w : World) (hv : RdO w sv os) (hx : rightL os = x) :
    Calls Try.prog 63 #[sv] w fun e w' => e = .returned (.bool x) ∧ Below w.heap.size w w' := by
  have hX : Hid (rightL os = x) := hx
  clear hx
  obtain ⟨hlen, hlt, ao, cap, rfl, _, _, hc⟩ := hv
  clear hlt
  by_cases h6 : os.length ≤ 6
  · have hc' : Hid (os.length ≠ 0 → ∃ b off, ao = some ⟨b, off, none⟩ ∧ b < w.heap.size ∧ ∀ j, j < os.length → OpAt w b (off + j * 2) (opAt os j)) := hc
    have hA : Hid (os.all rightO = x) := by
      have h := hX.out
      rw [rightL, decide_eq_true h6, Bool.true_and] at h; exact h
    clear hc hX
    go_enter Try.func63, Try.ntmps63
    go_wp2_with fail
    go_loopw [10] (fun i wr => ∃ k : Nat, k ≤ os.length ∧ i = .int .i64 k ∧ Hid ((os.drop k).all rightO = x) ∧ Below w.heap.size w wr) (fun i _ => os.length - (intOf i).toNat)
    case atStart => exact ⟨0, Nat.zero_le _, rfl, hA.out, Below.refl _ _⟩
    case round =>
      obtain ⟨j, hj, rfl, hr, hbw⟩ := hrel
      by_cases hlt : j < os.length
      · obtain ⟨b, off, rfl, hb, hcell⟩ := hc'.out (by omega)
        have hx := (hcell j hlt).below hbw hb
        have hs : Hid ((os.drop j).all rightO = (rightO (opAt os j) && (os.drop (j + 1)).all rightO)) := all_drop os j hlt
        clear hcell hc'
        obtain ⟨⟨c, n⟩, hee⟩ : ∃ x, opAt os j = x := ⟨_, rfl⟩
        rw [hee] at hx hs
        clear hee
        obtain ⟨p0, p1⟩ := hx
        simp only at p0 p1
        obtain ⟨p, hp⟩ : ∃ y, Hid (rightO ⟨c, n⟩ = y) := ⟨_, rfl⟩
        rw [hp.out] at hs
        have hbs := hbw.size
        cases p with
        | true =>
          go_wp2_with fail
          refine (right_is c n true _ hp.out).mono ?_
          rintro e w1 ⟨rfl, b1⟩
          go_wp2
          go_roundw
          case rel => exact ⟨j + 1, by omega, by go_num, hs.out.symm.trans hr.out, (hbw.alloc hbs _).trans (b1.mono (Nat.le_trans hbs (by simp)))⟩
          case measure => simp [intOf]; omega
        | false =>
          have hx : Hid (false = x) := hs.out.symm.trans hr.out
          go_wp2_with fail
          refine (right_is c n false _ hp.out).mono ?_
          rintro e w1 ⟨rfl, b1⟩
          go_wp2
          go_ret
          exact ⟨ret_bool hx.out, (hbw.alloc hbs _).trans (b1.mono (Nat.le_trans hbs (by simp)))⟩
      · have hx : Hid (true = x) := by
          have h := hr.out
          rw [List.drop_of_length_le (by omega)] at h
          exact h
        go_wp2
        go_ret
        exact ⟨ret_bool hx.out, hbw⟩
  · have hx : Hid (false = x) := by
      have h := hX.out
      rw [rightL, decide_eq_false h6, Bool.false_and] at h; exact h
    clear hc hX
    go_enter Try.func63, Try.ntmps63
    go_wp2
    go_ret
    exact ⟨ret_bool hx.out, Below.refl _ _⟩
end Go.Proofs.Ytnamjnopicghhaa.O
