/- Lists that the call itself makes: what stays of them; ints that came in, copied. -/
import Derived.Test.YtokcanmhhabecaaFrame
import Derived.Test.YtokcanmhhabecaaPlan
namespace Go.Proofs.Ytokcanmhhabecaa
open Go.RowKit M
set_option linter.unusedVariables false

theorem Rd.alloc {k : IntKind} {w : World} {v : Value} {zs : List Int} (h : Rd k w v zs) (o : Obj) : Rd k (w.alloc o) v zs := h.below (below_alloc w o) (Nat.le_refl _)
theorem Rd.call {k : IntKind} {w w' : World} {v : Value} {zs : List Int} (h : Rd k w v zs) (hb : Below w.heap.size w w') : Rd k w' v zs := h.below hb (Nat.le_refl _)
theorem own_call {w w' : World} {base : Nat} {e : TypeId} {size : Nat} {v : Value} {n : Nat} {xs : List Value} (h : w.ownsRow base e size v n xs) (hb : Below w.heap.size w w') : w'.ownsRow base e size v n xs := own_below h hb
theorem src_row {k : IntKind} {w : World} {a : Option Addr} {len cap : Nat} {zs : List Int} (h : IsRow k w a len cap zs) (K : Nat) (hK : K ≤ len) : Src w (.slice a K cap) K ((zs.take K).map (Value.int k)) := by
  rcases h with ⟨rfl, rfl, rfl, rfl⟩ | ⟨x, rfl, h1, h2, h3, hc, _⟩
  · have : K = 0 := by omega
    subst this
    exact .inl ⟨rfl, rfl, rfl⟩
  · refine .inr ⟨x, cap, rfl, by simp; omega, fun j u hj => ?_⟩
    simp only [List.getElem?_map, Option.map_eq_some_iff] at hj
    obtain ⟨z, hz, rfl⟩ := hj
    have hjK : j < K := by
      have := (List.getElem?_eq_some_iff.1 hz).1
      simp at this; omega
    rw [List.getElem?_take_of_lt hjK] at hz
    rw [hc j (by omega)]
    simp [List.getD_eq_getElem?_getD, hz]
/-- A list of ints of the call's own. -/
def Row (w : World) (B : Nat) (v : Value) (ns : List Int) : Prop := w.ownsRow B 3 1 v ns.length (iv ns)
theorem Row.rd {w : World} {B : Nat} {v : Value} {ns : List Int} (h : Row w B v ns) : Rd .i64 w v ns := rd_iv h
theorem Row.call {w w' : World} {B : Nat} {v : Value} {ns : List Int} (h : Row w B v ns) (hb : Below w.heap.size w w') : Row w' B v ns := own_below h hb
theorem row_nil (w : World) (B : Nat) : Row w B (.slice none 0 0) [] := World.ownsRow_nil w B 3 1
theorem Row.snoc {w : World} {B : Nat} {v : Value} {ns : List Int} {x : Int} (h : w.ownsRow B 3 1 v (ns.length + 1) (iv ns ++ [.int .i64 x])) : Row w B v (ns ++ [x]) := by
  unfold Row
  rw [List.length_append, iv_append]; exact h
end Go.Proofs.Ytokcanmhhabecaa
