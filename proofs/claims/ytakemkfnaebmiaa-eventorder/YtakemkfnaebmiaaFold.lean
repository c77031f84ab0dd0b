/- What event.Latest and event.Labels compute of any list of events: they write nothing that was there. -/
import Derived.Test.YtakemkfnaebmiaaLeaf
namespace Go.Proofs.Ytakemkfnaebmiaa
open Go.RowKit M

/-- The four cells of an event. -/
def EvAt (w : World) (b o : Nat) (e : Ev) : Prop :=
  w.cell? ⟨b, o, none⟩ = some (.int .i64 e.t) ∧ w.cell? ⟨b, o + 1, none⟩ = some (.int .i64 e.k) ∧ w.cell? ⟨b, o + 2, none⟩ = some (.int .i64 e.v) ∧ w.cell? ⟨b, o + 3, none⟩ = some (.int .u64 e.l)
theorem EvAt.below {w w' : World} {b o : Nat} {e : Ev} (h : EvAt w b o e) {B : Nat} (hb : Below B w w') (hlt : b < B) : EvAt w' b o e := by
  have hc : ∀ p : Addr, p.block = b → w'.cell? p = w.cell? p := fun p hp => hb.cell (p := p) (by rw [hp]; exact hlt)
  obtain ⟨h0, h1, h2, h3⟩ := h
  exact ⟨(hc _ rfl).trans h0, (hc _ rfl).trans h1, (hc _ rfl).trans h2, (hc _ rfl).trans h3⟩
/-- A slice value whose elements are these events. -/
def RdE (w : World) (v : Value) (es : List Ev) : Prop :=
  es.length ≤ 9223372036854775807 ∧ (∀ e ∈ es, e.l < 18446744073709551616) ∧ ∃ ao cap, v = .slice ao es.length cap ∧ es.length ≤ cap ∧ cap ≤ 9223372036854775807 ∧ (es.length ≠ 0 → ∃ b off, ao = some ⟨b, off, none⟩ ∧ b < w.heap.size ∧ ∀ j, j < es.length → EvAt w b (off + j * 4) (evAt es j))

set_option maxHeartbeats 400000 in
/-- event.Labels. -/
theorem labels_any (v : Value) (es : List Ev) (w : World) (n : Int) (hv : RdE w v es) (hn : ((labels es : Nat) : Int) = n) :
    Calls Try.prog 9 #[v] w fun e w' => e = .returned (.int .u64 n) ∧ Below w.heap.size w w' := by
  have hN : Hid (((labels es : Nat) : Int) = n) := hn
  clear hn
  obtain ⟨hlen, hlt, ao, cap, rfl, _, _, hc⟩ := hv
  have hc' : Hid (es.length ≠ 0 → ∃ b off, ao = some ⟨b, off, none⟩ ∧ b < w.heap.size ∧ ∀ j, j < es.length → EvAt w b (off + j * 4) (evAt es j)) := hc
  have hlt' : Hid (∀ e ∈ es, e.l < 18446744073709551616) := hlt
  clear hc hlt
  go_enter Try.func9, Try.ntmps9
  go_wp2
  go_loopw [3, 8] (fun t i wr => ∃ k : Nat, k ≤ es.length ∧ i = .int .i64 k ∧ t = .int .u64 (labels (es.take k) : Nat) ∧ Below w.heap.size w wr) (fun _ i _ => es.length - (intOf i).toNat)
  case atStart => exact ⟨0, Nat.zero_le _, rfl, rfl, Below.refl _ _⟩
  case round =>
    obtain ⟨k, hk, rfl, rfl, hbw⟩ := hrel
    by_cases hlt : k < es.length
    · obtain ⟨b, off, rfl, hb, hcell⟩ := hc'.out (by omega)
      have hx := (hcell k hlt).below hbw hb
      have hl := evAt_lt es hlt'.out k
      have hJl := labels_lt (es.take k) fun e he => hlt'.out e (List.mem_of_mem_take he)
      have hsn : Hid (labels (es.take (k + 1)) = labels (es.take k) ||| (evAt es k).l) := by
        have : labels (es.take (k + 1)) = labels (es.take k) ||| (evAt es k).l := by rw [take_snoc es k hlt, labels_snoc]
        exact this
      clear hcell hc'
      obtain ⟨⟨t, kk, v, l⟩, hee⟩ : ∃ x, evAt es k = x := ⟨_, rfl⟩
      rw [hee] at hx hl hsn
      clear hee
      obtain ⟨h0, h1, h2, h3⟩ := hx
      simp only at h0 h1 h2 h3 hl hsn
      go_wp2
      go_roundw
      case rel =>
        refine ⟨k + 1, by omega, by go_num, val_int ?_, hbw.alloc hbw.size _⟩
        rw [hsn.out, u64_or_nat _ _ hJl hl]
      case measure => simp [intOf]; omega
    · go_wp2
      go_ret
      exact ⟨ret_int (by rw [← hN.out, List.take_of_length_le (by omega)]), hbw⟩

theorem maxL_take (m : Int) (es : List Ev) (k : Nat) (h : k < es.length) : maxL m (es.take (k + 1)) = max (maxL m (es.take k)) (evAt es k).t := by
  rw [take_snoc es k h, maxL_snoc]
theorem evAt_cons (e : Ev) (r : List Ev) (k : Nat) : evAt (e :: r) (k + 1) = evAt r k := by simp [evAt]

set_option maxHeartbeats 400000 in
/-- event.Latest. -/
theorem latest_any (v : Value) (es : List Ev) (w : World) (n : Int) (hv : RdE w v es) (hn : latest es = n) :
    Calls Try.prog 8 #[v] w fun e w' => e = .returned (.int .i64 n) ∧ Below w.heap.size w w' := by
  have hN : Hid (latest es = n) := hn
  clear hn
  obtain ⟨hlen, hlt, ao, cap, rfl, hcap, hcm, hc⟩ := hv
  clear hlt
  cases es with
  | nil =>
    clear hc
    go_enter Try.func8, Try.ntmps8
    go_wp2
    go_ret
    exact ⟨ret_int hN.out, Below.refl _ _⟩
  | cons e r =>
    have hN' : Hid (maxL e.t r = n) := hN.out
    clear hN
    obtain ⟨b, off, rfl, hb, hcell⟩ := hc (by simp)
    clear hc
    obtain ⟨g0, _, _, _⟩ := hcell 0 (by simp)
    have hr : Hid (∀ j, j < r.length → EvAt w b (off + (j + 1) * 4) (evAt r j)) := by
      intro j hj
      have := hcell (j + 1) (by simp; omega)
      rw [evAt_cons] at this; exact this
    clear hcell
    have e0 : evAt (e :: r) 0 = e := rfl
    rw [e0] at g0
    simp only [Nat.zero_mul, Nat.add_zero] at g0
    rw [List.length_cons] at hlen hcap ⊢
    obtain ⟨m, hm⟩ : ∃ m, m = r.length := ⟨_, rfl⟩
    have hm' : Hid (m = r.length) := hm
    rw [← hm] at hlen hcap ⊢
    clear hm e0
    obtain ⟨t0, ht0⟩ : ∃ t0, Hid (e.t = t0) := ⟨_, rfl⟩
    rw [ht0.out] at g0 hN'
    by_cases h1 : cap = 1
    · subst h1
      obtain rfl : m = 0 := by omega
      have hnil : Hid (t0 = n) := by
        have h := hN'.out
        rw [List.eq_nil_of_length_eq_zero hm'.out.symm] at h
        exact h
      go_enter Try.func8, Try.ntmps8
      go_wp2
      go_loop [3, 16] (fun t i => t = .int .i64 t0 ∧ i = .int .i64 0) (fun _ _ => 0)
      case atStart => exact ⟨rfl, rfl⟩
      case round =>
        obtain ⟨rfl, rfl⟩ := hrel
        go_wp2
        go_ret
        exact ⟨ret_int hnil.out, Below.refl _ _⟩
    · go_enter Try.func8, Try.ntmps8
      go_wp2
      go_loopw [3, 16] (fun t i wr => ∃ k : Nat, k ≤ m ∧ i = .int .i64 k ∧ t = .int .i64 (maxL t0 (r.take k)) ∧ Below w.heap.size w wr) (fun _ i _ => m - (intOf i).toNat)
      case atStart => exact ⟨0, Nat.zero_le _, rfl, rfl, Below.refl _ _⟩
      case round =>
        obtain ⟨k, hk, rfl, rfl, hbw⟩ := hrel
        by_cases hlt : k < m
        · have hx := (hr.out k (by have := hm'.out; omega)).below hbw hb
          have hsn : Hid (maxL t0 (r.take (k + 1)) = max (maxL t0 (r.take k)) (evAt r k).t) := maxL_take t0 r k (by have := hm'.out; omega)
          obtain ⟨⟨t, kk, v, l⟩, hee⟩ : ∃ x, evAt r k = x := ⟨_, rfl⟩
          rw [hee, show off + (k + 1) * 4 = off + 4 + k * 4 by omega] at hx
          rw [hee] at hsn
          clear hee
          obtain ⟨h0, h1, h2, h3⟩ := hx
          simp only at h0 h1 h2 h3 hsn
          go_wp2
          go_roundw
          case rel =>
            refine ⟨k + 1, by omega, by go_num, ?_, hbw.alloc hbw.size _⟩
            rw [hsn.out]
            exact val_int (by rw [Int.max_def]; split <;> split <;> omega)
          case measure => simp [intOf]; omega
        · go_wp2
          go_ret
          exact ⟨ret_int (by rw [← hN'.out, List.take_of_length_le (by have := hm'.out; omega)]), hbw⟩
end Go.Proofs.Ytakemkfnaebmiaa
