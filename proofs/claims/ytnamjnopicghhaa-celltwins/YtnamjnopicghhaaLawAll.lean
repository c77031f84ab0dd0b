/- Lists of plain numbers that came in; a slot of a list of inputs of the call's own, of rows. -/
import Derived.Test.YtnamjnopicghhaaRuns
import Derived.Test.YtnamjnopicghhaaRHelp
import Derived.Test.YtnamjnopicghhaaISame
import Derived.Deep.QuietTactic
import Derived.BigQuiet
/- What the statements on a Cell stand on: a kept pipe, inputs, labels of rows. -/
namespace Go.Proofs.Ytnamjnopicghhaa
open Go.RowKit M
open O (Small Ints kv Kpk Pik)
open O.MO (Oq Pq rightP)
set_option linter.unusedVariables false
set_option linter.unusedSimpArgs false
attribute [local go_sem ↓] Go.wp_at_zero Go.wp_at_succ

namespace M
/-- All rows bear this label. -/
def LabE (M : Nat) (L : List Pn) : Prop := ∀ q ∈ L, q.l = M
theorem labE_nil (M : Nat) : LabE M [] := fun q h => by cases h
theorem labE_upd {M : Nat} {K s k x : Int} {L : List Pn} (h : LabE M L) : LabE M (upd K s k x M L) := by
  intro q hq
  rcases mem_upd K s k x M L q hq with rfl | hq | ⟨z, hz, rfl⟩
  · show 0 ||| M = M
    exact Nat.zero_or M
  · exact h q hq
  · show z.l ||| M = M
    rw [h z hz]; exact Nat.or_self M
theorem labE_putS {M : Nat} {K k x : Int} : ∀ (ss : List Int) (L : List Pn), LabE M L → LabE M (putS K k x M L ss)
  | [], L, h => h
  | s :: r, L, h => labE_putS r _ (labE_upd h)
theorem labE_step {p : Pq} {r : Rs} {i : Inp} {M : Nat} (h : LabE M r.L) (hl : i.mrk = true ∨ i.e.l = M) : LabE M (stepR p r i).L ∧ LabE M (rowR p r i) := by
  cases hm : i.mrk with
  | true =>
    cases hg : goes r.m i.e.t with
    | true => rw [(step_mark hm hg).1, (step_mark (p := p) hm hg).2]; exact ⟨fun q hq => h q (List.mem_of_mem_drop hq), fun q hq => h q (List.mem_of_mem_take hq)⟩
    | false => rw [(step_still hm hg).1, (step_still (p := p) hm hg).2]; exact ⟨h, labE_nil _⟩
  | false =>
    rw [row_event hm]
    refine ⟨?_, labE_nil _⟩
    have hl' : i.e.l = M := by
      rcases hl with h | h
      · rw [hm] at h; cases h
      · exact h
    cases hk : okT i.e.t with
    | false => rw [step_none hm hk]; exact h
    | true =>
      by_cases hl : i.e.t < r.m
      · rw [step_late hm hk hl]; exact h
      · cases hx : runE p.os i.e with
        | none => rw [step_drop hm hk hl hx]; exact h
        | some x =>
          rw [step_put hm hk hl hx]
          have e : x.l = M := (runE_some hx).2.2.trans hl'
          show LabE M (putS p.a x.k x.v x.l r.L (starts x.t p.n p.s))
          rw [e]
          exact labE_putS _ _ h
theorem labE_all {p : Pq} {M : Nat} : ∀ (is : List Inp) (r : Rs), LabE M r.L → (∀ i ∈ is, i.mrk = true ∨ i.e.l = M) → LabE M (stR p r is).L ∧ LabE M (rowsR p r is)
  | [], r, h, _ => ⟨h, labE_nil _⟩
  | i :: is, r, h, hl => by
    have h1 := labE_step (p := p) h (hl i (by simp))
    have h2 := labE_all (p := p) is (stepR p r i) h1.1 (fun j hj => hl j (by simp [hj]))
    refine ⟨h2.1, fun q hq => ?_⟩
    have e : rowsR p r (i :: is) = rowR p r i ++ rowsR p (stepR p r i) is := rfl
    rw [e] at hq
    rcases List.mem_append.1 hq with hq | hq
    · exact h1.2 q hq
    · exact h2.2 q hq
end M
section
variable {W0 : World} {us : List Th}
/-- A pipe in its variable. -/
abbrev pkT (b : Nat) (v : Value) (p : Pq) : Th := blkT b (.cells #[v, .int .i64 p.n, .int .i64 p.s, .int .i64 p.a, .int .i64 p.k, .int .i64 p.f] 26)
/-- An input in its variable. -/
abbrev inkT (b : Nat) (x : Inp) : Th := blkT b (.cells #[.bool x.mrk, .int .i64 x.e.t, .int .i64 x.e.k, .int .i64 x.e.v, .int .u64 x.e.l] 31)
theorem St.opAt {w : World} {v : Value} {os : List Oq} (h : St W0 w us) (hm : opT v os ∈ us) : OpsIn w v os := by
  obtain ⟨F, h1, _⟩ := h.mem hm
  exact h1.1
theorem St.qvAt {w : World} {v : Value} {is : List Inp} (h : St W0 w us) (hm : inl v is ∈ us) : Qv w v is ∧ Labl is := by
  obtain ⟨F, h1, _⟩ := h.mem hm
  exact ⟨h1.1, h1.2.1⟩
theorem St.rwAt {w : World} {v : Value} {R : List Pn} (h : St W0 w us) (hm : rwl v R ∈ us) : w.ownsRow 0 39 5 v R.length (rcs R) := by
  obtain ⟨F, h1, _⟩ := h.mem hm
  exact h1.1
theorem Ink.setl {w : World} {b : Nat} {x : Inp} (h : Ink w b x) (l : Nat) : Ink (w.setCell ⟨b, 4, none⟩ (.int .u64 (l : Int))) b ⟨x.mrk, ⟨x.e.t, x.e.k, x.e.v, l⟩⟩ := by
  unfold Ink at *; simp [World.setCell, Array.getElem?_modify, h]
/-- The kept pipe, made. -/
theorem kpipe_st (ao : Option Addr) (lo co : Nat) (an : Option Addr) (ln cn : Nat) (n s a k f : Int) (w : World) (hS : St W0 w us) (ho : Ints w ao lo co) (hn : Ints w an ln cn) :
    Calls Try.prog 16 #[kv (.slice ao lo co) (.slice an ln cn) n s a k f] w fun e w' => ∃ (p : Pq) (ua : Option Addr) (uc : Nat), Small p ∧ e = .returned (O.pv (.slice ua p.os.length uc) p.n p.s p.a p.k p.f) ∧ St W0 w' (opT (.slice ua p.os.length uc) p.os :: us) ∧ Below w.heap.size w w' := by
  refine (O.keep_any ao lo co an ln cn n s a k f w ho hn).mono ?_
  rintro e w' ⟨p, u, hs, rfl, hu, _, hb⟩
  obtain ⟨ua, uc, rfl⟩ := own_len hu
  exact ⟨p, ua, uc, hs, rfl, hS.new (F := fun k => (Value.slice ua p.os.length uc).ownBlock = some k) hb ⟨⟨O.own_base hu (Nat.zero_le _), (small_new hs).2.2.1⟩, fun k => Iff.rfl⟩ (fun k hk => (hu.lt k hk).1), hb⟩
/-- The inputs, made. -/
theorem inputs_st (la : Option Addr) (ll lc : Nat) (w : World) (hS : St W0 w us) (hI : Ins4 w la ll lc) :
    Calls Try.prog 27 #[.slice la ll lc] w fun e w' => ∃ (is : List Inp) (ia : Option Addr) (ic : Nat), e = .returned (.slice ia is.length ic) ∧ is.length ≤ 25 ∧ (∀ i ∈ is, Good i) ∧ St W0 w' (inl (.slice ia is.length ic) is :: us) := by
  refine (inputs_is la ll lc w hI).mono ?_
  rintro e w' ⟨u, is, rfl, hl, hG, hu, hb⟩
  obtain ⟨ia, ic, rfl⟩ := own_len hu
  exact ⟨is, ia, ic, rfl, hl, hG, hS.newl hb (qv_own hu) (fun i hi => (hG i hi).lt) (fun k hk => (hu.lt k hk).1)⟩
end
end Go.Proofs.Ytnamjnopicghhaa
/- Lists of plain numbers that came in; a slot of a list of inputs of the call's own, of rows. -/
namespace Go.Proofs.Ytnamjnopicghhaa
open Go.RowKit M
set_option linter.unusedVariables false
set_option linter.unusedSimpArgs false

/-- A slice of uint64s that came in. -/
def IsU64s (w : World) (a : Option Addr) (len cap : Nat) : Prop :=
  len ≤ 9223372036854775807 ∧ cap ≤ 9223372036854775807 ∧ len ≤ cap ∧ ∀ k, k < len → ∃ b off x, a = some ⟨b, off, none⟩ ∧ b < w.heap.size ∧ w.cell? ⟨b, off + k, none⟩ = some (.int .u64 ((x : Nat) : Int)) ∧ x < 18446744073709551616
theorem IsU64s.below {w w' : World} {a : Option Addr} {len cap B : Nat} (h : IsU64s w a len cap) (hb : Below B w w') (hB : w.heap.size ≤ B) (hs : w.heap.size ≤ w'.heap.size) : IsU64s w' a len cap := by
  obtain ⟨h1, h2, h3, h4⟩ := h
  refine ⟨h1, h2, h3, fun k hk => ?_⟩
  obtain ⟨b, off, x, rfl, hl, hc, hx⟩ := h4 k hk
  exact ⟨b, off, x, rfl, Nat.lt_of_lt_of_le hl hs, (hb.cell (p := ⟨b, off + k, none⟩) (Nat.lt_of_lt_of_le hl hB)).trans hc, hx⟩
section
variable {H : Type} {enc : TypeId × Value → H}
theorem open_u64s {W : World} {fuel : Nat} {a : Option Addr} {len cap : Nat} {x : DataW H × List MemPlace}
    (h : DataW.trod enc Try.prog W 0 (fun _ => true) true fuel 75 [.slice a len cap] = some x) : IsU64s W a len cap := by
  rcases Deep.open_slice Try.underlying75 h with ⟨hcs, _⟩ | ⟨ad, l, c, m, n, D, Pl, hcs, _, hl, hm, hmm, _, hcell⟩
  · simp at hcs
    obtain ⟨rfl, rfl, rfl⟩ := hcs
    exact ⟨by decide, by decide, by decide, fun k hk => absurd hk (Nat.not_lt_zero _)⟩
  · simp at hcs
    obtain ⟨rfl, rfl, rfl⟩ := hcs
    simp at hmm
    subst hmm
    unfold maxLen at hm
    have hx : ∀ i, i < m → ∃ z : Nat, W.cell? (ad.add i) = some (.int .u64 ((z : Nat) : Int)) ∧ z < 18446744073709551616 := fun i hi => by
      obtain ⟨cs', hc, ht⟩ := hcell i hi
      rw [Try.cells27] at hc
      obtain ⟨_, hlen, hce⟩ := World.cells?_some hc
      obtain ⟨z, rfl, -, wz⟩ := DataW.trod_int Try.underlying27 ht
      obtain ⟨y, rfl, hy⟩ := wf_nat wz
      have e0 := hce 0 (by omega)
      rw [Deep.add_add] at e0
      exact ⟨y, by simpa using e0, hy⟩
    refine ⟨by omega, by omega, hl, fun k hk => ?_⟩
    obtain ⟨z0, h0, _⟩ := hx 0 (by omega)
    obtain ⟨b, off, rfl⟩ := plain_addr h0
    obtain ⟨z, hz, hzl⟩ := hx k (by omega)
    rw [Addr.add_lit] at hz
    exact ⟨b, off, z, rfl, World.block_lt_of_cell? W _ hz, hz, hzl⟩
end
section
variable {W0 w : World} {us : List Th}
theorem St.inAt {v : Option Addr} {n c : Nat} {is : List Inp} (h : St W0 w us) (hm : inl (.slice v n c) is ∈ us) (j : Nat) (hj : j < is.length) : ∃ g off, v = some ⟨g, off, none⟩ ∧ InAt w g (off + j * 5) (iAt is j) := by
  obtain ⟨hq, _⟩ := h.qvAt hm
  have hq' := hq
  rcases hq with ⟨_, rfl⟩ | ⟨g, off, cap, cur, e, _⟩
  · simp at hj
  · cases e
    exact ⟨g, off, rfl, hq'.inat j hj⟩
theorem St.rowAt {v : Option Addr} {n c : Nat} {R : List Pn} (h : St W0 w us) (hm : rwl (.slice v n c) R ∈ us) (j : Nat) (hj : j < R.length) : ∃ g off, v = some ⟨g, off, none⟩ ∧ RwAt w g (off + j * 5) (pAt R j) := by
  obtain ⟨_, ao, cap, e, _, _, hc⟩ := rdr_own (h.rwAt hm)
  obtain ⟨b, off, rfl, _, h2⟩ := hc (by omega)
  cases e
  exact ⟨b, off, rfl, h2 j hj⟩
end
end Go.Proofs.Ytnamjnopicghhaa
