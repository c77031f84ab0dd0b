/- Lists of plain numbers that came in; a slot of a list of inputs of the call's own, of rows. -/
import Derived.Test.YtnamjnopicghhaaLaw
namespace Go.Proofs.Ytnamjnopicghhaa
open Go.RowKit M
set_option linter.unusedVariables false
set_option linter.unusedSimpArgs false

/-- A slice of uint64s that came in. -/
def IsU64s (w : World) (a : Option Addr) (len cap : Nat) : Prop :=
  len ≤ 9223372036854775807 ∧ cap ≤ 9223372036854775807 ∧ len ≤ cap ∧ ∀ k, k < len → ∃ b off x, a = some ⟨b, off, none⟩ ∧ b < w.heap.size ∧ w.cell? ⟨b, off + k, none⟩ = some (.int .u64 ((x : Nat) : Int)) ∧ x < 18446744073709551616
theorem IsU64s.below {w w' : World} {a : Option Addr} {len cap B : Nat} (h : IsU64s w a len cap) (hb : Below B w w') (hB : w.heap.size ≤ B) (hs : w.heap.size ≤ w'.heap.size) : IsU64s w' a len cap := by
  obtain ⟨h1, h2, h3, h4⟩ := h
  refine ⟨h1, h2, h3, fun k hk => ?_⟩
  obtain ⟨b, off, x, rfl, hl, hc, hx⟩ := h4 k hk
  exact ⟨b, off, x, rfl, Nat.lt_of_lt_of_le hl hs, (hb.cell (p := ⟨b, off + k, none⟩) (Nat.lt_of_lt_of_le hl hB)).trans hc, hx⟩
section
variable {H : Type} {enc : TypeId × Value → H}
theorem open_u64s {W : World} {fuel : Nat} {a : Option Addr} {len cap : Nat} {x : DataW H × List MemPlace}
    (h : DataW.trod enc Try.prog W 0 (fun _ => true) true fuel 75 [.slice a len cap] = some x) : IsU64s W a len cap := by
  rcases Deep.open_slice Try.underlying75 h with ⟨hcs, _⟩ | ⟨ad, l, c, m, n, D, Pl, hcs, _, hl, hm, hmm, _, hcell⟩
  · simp at hcs
    obtain ⟨rfl, rfl, rfl⟩ := hcs
    exact ⟨by decide, by decide, by decide, fun k hk => absurd hk (Nat.not_lt_zero _)⟩
  · simp at hcs
    obtain ⟨rfl, rfl, rfl⟩ := hcs
    simp at hmm
    subst hmm
    unfold maxLen at hm
    have hx : ∀ i, i < m → ∃ z : Nat, W.cell? (ad.add i) = some (.int .u64 ((z : Nat) : Int)) ∧ z < 18446744073709551616 := fun i hi => by
      obtain ⟨cs', hc, ht⟩ := hcell i hi
      rw [Try.cells27] at hc
      obtain ⟨_, hlen, hce⟩ := World.cells?_some hc
      obtain ⟨z, rfl, -, wz⟩ := DataW.trod_int Try.underlying27 ht
      obtain ⟨y, rfl, hy⟩ := wf_nat wz
      have e0 := hce 0 (by omega)
      rw [Deep.add_add] at e0
      exact ⟨y, by simpa using e0, hy⟩
    refine ⟨by omega, by omega, hl, fun k hk => ?_⟩
    obtain ⟨z0, h0, _⟩ := hx 0 (by omega)
    obtain ⟨b, off, rfl⟩ := plain_addr h0
    obtain ⟨z, hz, hzl⟩ := hx k (by omega)
    rw [Addr.add_lit] at hz
    exact ⟨b, off, z, rfl, World.block_lt_of_cell? W _ hz, hz, hzl⟩
end
section
variable {W0 w : World} {us : List Th}
theorem St.inAt {v : Option Addr} {n c : Nat} {is : List Inp} (h : St W0 w us) (hm : inl (.slice v n c) is ∈ us) (j : Nat) (hj : j < is.length) : ∃ g off, v = some ⟨g, off, none⟩ ∧ InAt w g (off + j * 5) (iAt is j) := by
  obtain ⟨hq, _⟩ := h.qvAt hm
  have hq' := hq
  rcases hq with ⟨_, rfl⟩ | ⟨g, off, cap, cur, e, _⟩
  · simp at hj
  · cases e
    exact ⟨g, off, rfl, hq'.inat j hj⟩
theorem St.rowAt {v : Option Addr} {n c : Nat} {R : List Pn} (h : St W0 w us) (hm : rwl (.slice v n c) R ∈ us) (j : Nat) (hj : j < R.length) : ∃ g off, v = some ⟨g, off, none⟩ ∧ RwAt w g (off + j * 5) (pAt R j) := by
  obtain ⟨_, ao, cap, e, _, _, hc⟩ := rdr_own (h.rwAt hm)
  obtain ⟨b, off, rfl, _, h2⟩ := hc (by omega)
  cases e
  exact ⟨b, off, rfl, h2 j hj⟩
end
end Go.Proofs.Ytnamjnopicghhaa
