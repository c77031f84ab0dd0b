/- Lists that stay what they are while an aggregate turns; the first ones of a list that came in, copied. -/
import Derived.Test.YtbopojolmmnokaaFrame
import Derived.Test.YtbopojolmmnokaaRuns
namespace Go.Proofs.Ytbopojolmmnokaa
open Go.RowKit M
set_option linter.unusedVariables false

theorem Rd.but {k : IntKind} {w w' : World} {v : Value} {zs : List Int} {b : Nat} (h : Rd k w v zs) (hb : But b w w') (ha : Apart b v) : Rd k w' v zs := by
  obtain ⟨h1, ao, cap, rfl, h2, h3, hc⟩ := h
  refine ⟨h1, ao, cap, rfl, h2, h3, fun hn => ?_⟩
  obtain ⟨bb, off, rfl, hcell⟩ := hc hn
  refine ⟨bb, off, rfl, fun j hj => ?_⟩
  rw [hb.cell (p := ⟨bb, off + j, none⟩) (World.block_lt_of_cell? w _ (hcell j hj)) (ha _ _ _ _ rfl)]
  exact hcell j hj
theorem Rd.alloc {k : IntKind} {w : World} {v : Value} {zs : List Int} (h : Rd k w v zs) (o : Obj) : Rd k (w.alloc o) v zs := h.below (below_alloc w o) (Nat.le_refl _)
theorem Rd.call {k : IntKind} {w w' : World} {v : Value} {zs : List Int} (h : Rd k w v zs) (hb : Below w.heap.size w w') : Rd k w' v zs := h.below hb (Nat.le_refl _)
theorem own_apart {w : World} {base g : Nat} {v : Value} {l : List Value} {n sz : Nat} {e : TypeId} (h : w.ownsRow base e sz v n l) (hg : w.heap.size ≤ g) : Apart g v := by
  obtain ⟨_, h0 | ⟨g', cap, cur, rfl, hb, hh, h1, hm, _⟩⟩ := h
  · rw [h0.1]; exact apart_nil _ _ _
  · have := (Array.getElem?_eq_some_iff.1 hh).1
    exact apart_some (by omega)
theorem src_row {k : IntKind} {w : World} {a : Option Addr} {len cap : Nat} {zs : List Int} (h : IsRow k w a len cap zs) (K : Nat) (hK : K ≤ len) : Src w (.slice a K cap) K ((zs.take K).map (Value.int k)) := by
  rcases h with ⟨rfl, rfl, rfl, rfl⟩ | ⟨x, rfl, h1, h2, h3, hc, _⟩
  · have : K = 0 := by omega
    subst this
    exact .inl ⟨rfl, rfl, rfl⟩
  · refine .inr ⟨x, cap, rfl, by simp; omega, fun j u hj => ?_⟩
    simp only [List.getElem?_map, Option.map_eq_some_iff] at hj
    obtain ⟨z, hz, rfl⟩ := hj
    have hjK : j < K := by
      have := (List.getElem?_eq_some_iff.1 hz).1
      simp at this; omega
    rw [List.getElem?_take_of_lt hjK] at hz
    rw [hc j (by omega)]
    simp [List.getD_eq_getElem?_getD, hz]
end Go.Proofs.Ytbopojolmmnokaa
