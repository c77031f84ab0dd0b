/- Slices of rows and of events, read; cordonbook.Same; literals. -/
import Derived.Test.YtnamjnopicghhaaCopy
import Derived.BigQuiet
namespace Go.Proofs.Ytnamjnopicghhaa
open Go.RowKit M
set_option linter.unusedVariables false
set_option linter.unusedSimpArgs false
attribute [local go_sem ↓] Go.wp_at_zero Go.wp_at_succ

/-- The five cells of a row. -/
def RwAt (w : World) (b o : Nat) (p : Pn) : Prop :=
  w.cell? ⟨b, o, none⟩ = some (.int .i64 p.s) ∧ w.cell? ⟨b, o + 1, none⟩ = some (.int .i64 p.k) ∧ w.cell? ⟨b, o + 2, none⟩ = some (.int .i64 p.v) ∧ w.cell? ⟨b, o + 3, none⟩ = some (.int .i64 p.c) ∧ w.cell? ⟨b, o + 4, none⟩ = some (.int .u64 p.l)
/-- A slice of rows. -/
def RdR (w : World) (v : Value) (L : List Pn) : Prop :=
  L.length ≤ 9223372036854775807 ∧ ∃ ao cap, v = .slice ao L.length cap ∧ L.length ≤ cap ∧ cap ≤ 9223372036854775807 ∧ (L.length ≠ 0 → ∃ b off, ao = some ⟨b, off, none⟩ ∧ b < w.heap.size ∧ ∀ j, j < L.length → RwAt w b (off + j * 5) (pAt L j))
theorem RwAt.keep {w w' : World} {b o : Nat} {p : Pn} (h : RwAt w b o p) (hb : w'.heap[b]? = w.heap[b]?) : RwAt w' b o p := by
  have hc : ∀ x : Addr, x.block = b → w'.cell? x = w.cell? x := fun x hx => World.cell?_of_block (w := w) (by rw [hx]; exact hb)
  obtain ⟨h0, h1, h2, h3, h4⟩ := h
  exact ⟨(hc _ rfl).trans h0, (hc _ rfl).trans h1, (hc _ rfl).trans h2, (hc _ rfl).trans h3, (hc _ rfl).trans h4⟩
theorem RdR.below {w w' : World} {v : Value} {L : List Pn} (h : RdR w v L) (hb : Below w.heap.size w w') : RdR w' v L := by
  obtain ⟨h1, ao, cap, rfl, h2, h3, hc⟩ := h
  refine ⟨h1, ao, cap, rfl, h2, h3, fun hn => ?_⟩
  obtain ⟨b, off, rfl, hl, hcell⟩ := hc hn
  exact ⟨b, off, rfl, Nat.lt_of_lt_of_le hl hb.size, fun j hj => (hcell j hj).keep (hb.block b hl)⟩
theorem rdr_own {w : World} {base : Nat} {v : Value} {L : List Pn} (h : w.ownsRow base 39 5 v L.length (rcs L)) : RdR w v L := by
  have h' := h
  obtain ⟨_, h | ⟨g, cap, cur, rfl, hb, hh, hn, hm, hs, ht⟩⟩ := h
  · obtain ⟨rfl, h0⟩ := h
    have : L = [] := List.eq_nil_of_length_eq_zero h0
    subst this
    exact ⟨by simp, none, 0, rfl, by simp, by simp, by simp⟩
  · unfold maxLen at hm
    refine ⟨by omega, _, cap, rfl, hn, hm, fun _ => ⟨g, 0, rfl, (Array.getElem?_eq_some_iff.1 hh).1, fun j hj => ?_⟩⟩
    have hc : ∀ r, r < 5 → w.cell? ⟨g, 0 + j * 5 + r, none⟩ = (rcell (pAt L j))[r]? := fun r hr => by
      rw [Nat.zero_add, h'.cellAt (j * 5 + r) (by omega), rcs_at L j r hr hj]
    exact ⟨hc 0 (by decide), hc 1 (by decide), hc 2 (by decide), hc 3 (by decide), hc 4 (by decide)⟩
theorem rows_own {w : World} {base : Nat} {v : Value} {n : Nat} {L : List Pn} (h : w.ownsRow base 39 5 v n (rcs L)) : n = L.length := by
  have := h.1
  rw [rcs_len] at this
  omega
theorem rdr_lit (w : World) (L : List Pn) (hl : L.length ≤ 1000) : RdR (w.alloc (.cells (rcs L).toArray 39)) (.slice (some ⟨w.heap.size, 0, none⟩) L.length L.length) L := by
  have h := World.ownsRow_lit (base := w.heap.size) (e := 39) (size := 5) w (rcs L).toArray L.length (Nat.le_refl _) (by unfold maxLen; omega) (by rw [List.size_toArray, rcs_len])
  exact rdr_own (by simpa using h)
/-- Lists of events as cells. -/
def evs (es : List Ev) : List Value := es.flatMap evCells
theorem evs_cons (e : Ev) (r : List Ev) : evs (e :: r) = evCells e ++ evs r := by simp [evs]
theorem evs_len : ∀ es : List Ev, (evs es).length = es.length * 4
  | [] => rfl
  | x :: r => by rw [evs_cons, List.length_append, evs_len r]; simp [evCells]; omega
theorem evs_one (es : List Ev) : ∀ u ∈ evs es, u.oneCell' = true := by
  intro u hu
  simp only [evs, List.mem_flatMap] at hu
  obtain ⟨e, _, he⟩ := hu
  simp only [evCells, List.mem_cons, List.not_mem_nil, or_false] at he
  rcases he with rfl | rfl | rfl | rfl <;> rfl
theorem evs_append (a b : List Ev) : evs (a ++ b) = evs a ++ evs b := by simp [evs]
theorem evs_single (e : Ev) : evs [e] = evCells e := by simp [evs]
theorem eAt_cons (e : Ev) (r : List Ev) (k : Nat) : eAt (e :: r) (k + 1) = eAt r k := by simp [eAt]
theorem evs_at : ∀ (es : List Ev) (i r : Nat), r < 4 → i < es.length → (evs es)[i * 4 + r]? = (evCells (eAt es i))[r]?
  | [], i, r, _, hi => by simp at hi
  | x :: s, 0, r, hr, _ => by rw [evs_cons, List.getElem?_append_left (by show 0 * 4 + r < 4; omega)]; simp [eAt]
  | x :: s, i + 1, r, hr, hi => by
    have hc : (evCells x).length = 4 := rfl
    rw [evs_cons, List.getElem?_append_right (by omega), hc, show (i + 1) * 4 + r - 4 = i * 4 + r by omega, evs_at s i r hr (by simpa using hi), eAt_cons]
theorem own_evat {w : World} {base g n cap : Nat} {es : List Ev} (h : w.ownsRow base 29 4 (.slice (some ⟨g, 0, none⟩) n cap) n (evs es)) (j : Nat) (hj : j < es.length) : EvAt w g (j * 4) (eAt es j) := by
  have hn : n = es.length := by have := h.1; rw [evs_len] at this; omega
  have hc : ∀ r, r < 4 → w.cell? ⟨g, j * 4 + r, none⟩ = (evCells (eAt es j))[r]? := fun r hr => by
    rw [h.cellAt (j * 4 + r) (by omega), evs_at es j r hr hj]
  exact ⟨hc 0 (by decide), hc 1 (by decide), hc 2 (by decide), hc 3 (by decide)⟩
/-- A list of events of the call's own, as Put reads it. -/
theorem rde_own {w : World} {base : Nat} {v : Value} {n : Nat} {es : List Ev} (h : w.ownsRow base 29 4 v n (evs es)) (hlt : ∀ x ∈ es, x.l < 18446744073709551616) (hbase : base < w.heap.size) : ∃ q, RdE w v q es ∧ base ≤ q := by
  have hn : n = es.length := by have := h.1; rw [evs_len] at this; omega
  subst hn
  have h' := h
  obtain ⟨_, h | ⟨g, cap, cur, rfl, hb, hh, hn, hm, hs, ht⟩⟩ := h
  · obtain ⟨rfl, h0⟩ := h
    have : es = [] := List.eq_nil_of_length_eq_zero h0
    subst this
    exact ⟨base, rde_nil _ _, Nat.le_refl _⟩
  · unfold maxLen at hm
    exact ⟨g, ⟨by omega, hlt, _, cap, rfl, hn, hm, fun _ => ⟨0, rfl, (Array.getElem?_eq_some_iff.1 hh).1, fun j hj => by rw [Nat.zero_add]; exact own_evat h' j hj⟩⟩, hb⟩
theorem rde_lit (w : World) (es : List Ev) (hl : es.length ≤ 1000) (hlt : ∀ x ∈ es, x.l < 18446744073709551616) : RdE (w.alloc (.cells (evs es).toArray 29)) (.slice (some ⟨w.heap.size, 0, none⟩) es.length es.length) w.heap.size es := by
  have h := World.ownsRow_lit (base := w.heap.size) (e := 29) (size := 4) w (evs es).toArray es.length (Nat.le_refl _) (by unfold maxLen; omega) (by rw [List.size_toArray, evs_len])
  have h2 : (w.alloc (.cells (evs es).toArray 29)).ownsRow w.heap.size 29 4 (.slice (some ⟨w.heap.size, 0, none⟩) es.length es.length) es.length (evs es) := by simpa using h
  refine ⟨by omega, hlt, _, _, rfl, Nat.le_refl _, by omega, fun _ => ⟨0, rfl, by simp, fun j hj => by rw [Nat.zero_add]; exact own_evat h2 j hj⟩⟩
set_option maxHeartbeats 1000000 in
set_option maxRecDepth 100000 in
/-- cordonbook.Same of two lists of rows that are the same. -/
theorem same_r (v1 v2 : Value) (L : List Pn) (w : World) (h1 : RdR w v1 L) (h2 : RdR w v2 L) :
    Calls Try.prog 13 #[v1, v2] w fun e w' => e = .returned (.bool true) ∧ Below w.heap.size w w' := by
  obtain ⟨hl1, ao, cap, rfl, _, _, hc0⟩ := h1
  obtain ⟨_, ao2, cap2, rfl, _, _, hc2⟩ := h2
  have hc' : Hid (L.length ≠ 0 → ∃ b off, ao = some ⟨b, off, none⟩ ∧ b < w.heap.size ∧ ∀ j, j < L.length → RwAt w b (off + j * 5) (pAt L j)) := hc0
  have hd' : Hid (L.length ≠ 0 → ∃ b off, ao2 = some ⟨b, off, none⟩ ∧ b < w.heap.size ∧ ∀ j, j < L.length → RwAt w b (off + j * 5) (pAt L j)) := hc2
  clear hc0 hc2
  obtain ⟨m, hm⟩ : ∃ m, Hid (L.length = m) := ⟨_, rfl⟩
  rw [hm.out] at hc' hd' hl1 ⊢
  go_enter Try.func13, Try.ntmps13
  go_wp2_with fail
  go_loopw [5] (fun i wr => ∃ k n : Nat, k ≤ m ∧ i = .int .i64 k ∧ wr = w.drewN n) (fun i _ => m - (intOf i).toNat)
  case atStart => exact ⟨0, 0, Nat.zero_le _, rfl, rfl⟩
  case round =>
    obtain ⟨k, n, hk, rfl, rfl⟩ := hrel
    by_cases hlt : k < m
    · obtain ⟨b, off, rfl, _, hc⟩ := hc'.out (by omega)
      obtain ⟨b2, off2, rfl, _, hd⟩ := hd'.out (by omega)
      obtain ⟨p0, p1, p2, p3, p4⟩ := hc k hlt
      obtain ⟨q0, q1, q2, q3, q4⟩ := hd k hlt
      clear hc hd hc' hd'
      obtain ⟨⟨x1, x2, x3, x4, x5⟩, hee⟩ : ∃ x, pAt L k = x := ⟨_, rfl⟩
      rw [hee] at p0 p1 p2 p3 p4 q0 q1 q2 q3 q4
      clear hee
      simp only at p0 p1 p2 p3 p4 q0 q1 q2 q3 q4
      go_wp2_with fail
      go_quiet (fail)
      go_wp2_with fail
      go_roundw
      case rel => exact ⟨k + 1, n + nq, by omega, by go_num, rfl⟩
      case measure => simp [intOf]; omega
    · go_wp2_with fail
      go_ret
      exact ⟨rfl, below_drewN (Below.refl _ _) _⟩
end Go.Proofs.Ytnamjnopicghhaa
