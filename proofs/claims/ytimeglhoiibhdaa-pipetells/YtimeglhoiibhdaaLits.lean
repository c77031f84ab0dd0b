/- Lists of operations and of pipes, made in place; what Encode and Decode answer where the pipe is known. -/
import Derived.Test.YtimeglhoiibhdaaPSame
import Derived.Test.YtimeglhoiibhdaaKeep
namespace Go.Proofs.Ytimeglhoiibhdaa
open Go.RowKit M
theorem rdo_1 (w : World) (c n : Int) (h : n ≤ 9223372036854775807) : RdO (w.alloc (.cells #[.int .i64 c, .int .i64 n] 23)) (.slice (some ⟨w.heap.size, 0, none⟩) 1 1) [⟨c, n⟩] := by
  refine ⟨by simp, by simp [h], _, 1, rfl, by simp, by simp, fun _ => ⟨_, 0, rfl, by simp, fun j hj => ?_⟩⟩
  match j, hj with
  | 0, _ => exact ⟨new_cell rfl rfl, new_cell rfl rfl⟩
theorem rdo_none (w : World) : RdO w (.slice none 0 0) [] := ⟨by simp, by simp, none, 0, rfl, by simp, by simp, by simp⟩
theorem rdp_1 (w : World) (v1 : Value) (p1 : Pq) (h1 : RdO w v1 p1.os) :
    RdP (w.alloc (.cells #[v1, .int .i64 p1.n, .int .i64 p1.s, .int .i64 p1.a, .int .i64 p1.k, .int .i64 p1.f] 26)) (.slice (some ⟨w.heap.size, 0, none⟩) 1 1) [(v1, p1)] := by
  refine ⟨by simp, ?_, _, 1, rfl, by simp, by simp, fun _ => ⟨_, 0, rfl, by simp, fun j hj => ?_⟩⟩
  · intro x hx
    rw [List.mem_singleton.1 hx]; exact h1.call (below_alloc _ _)
  · match j, hj with
    | 0, _ => exact ⟨new_cell rfl rfl, new_cell rfl rfl, new_cell rfl rfl, new_cell rfl rfl, new_cell rfl rfl, new_cell rfl rfl⟩
theorem rdp_2 (w : World) (v1 v2 : Value) (p1 p2 : Pq) (h1 : RdO w v1 p1.os) (h2 : RdO w v2 p2.os) :
    RdP (w.alloc (.cells #[v1, .int .i64 p1.n, .int .i64 p1.s, .int .i64 p1.a, .int .i64 p1.k, .int .i64 p1.f, v2, .int .i64 p2.n, .int .i64 p2.s, .int .i64 p2.a, .int .i64 p2.k, .int .i64 p2.f] 26)) (.slice (some ⟨w.heap.size, 0, none⟩) 2 2) [(v1, p1), (v2, p2)] := by
  refine ⟨by simp, ?_, _, 2, rfl, by simp, by simp, fun _ => ⟨_, 0, rfl, by simp, fun j hj => ?_⟩⟩
  · intro x hx
    simp only [List.mem_cons, List.not_mem_nil, or_false] at hx
    rcases hx with rfl | rfl
    · exact h1.call (below_alloc _ _)
    · exact h2.call (below_alloc _ _)
  · match j, hj with
    | 0, _ => exact ⟨new_cell rfl rfl, new_cell rfl rfl, new_cell rfl rfl, new_cell rfl rfl, new_cell rfl rfl, new_cell rfl rfl⟩
    | 1, _ => exact ⟨new_cell rfl rfl, new_cell rfl rfl, new_cell rfl rfl, new_cell rfl rfl, new_cell rfl rfl, new_cell rfl rfl⟩
theorem rdp_3 (w : World) (v1 v2 v3 : Value) (p1 p2 p3 : Pq) (h1 : RdO w v1 p1.os) (h2 : RdO w v2 p2.os) (h3 : RdO w v3 p3.os) :
    RdP (w.alloc (.cells #[v1, .int .i64 p1.n, .int .i64 p1.s, .int .i64 p1.a, .int .i64 p1.k, .int .i64 p1.f, v2, .int .i64 p2.n, .int .i64 p2.s, .int .i64 p2.a, .int .i64 p2.k, .int .i64 p2.f, v3, .int .i64 p3.n, .int .i64 p3.s, .int .i64 p3.a, .int .i64 p3.k, .int .i64 p3.f] 26)) (.slice (some ⟨w.heap.size, 0, none⟩) 3 3) [(v1, p1), (v2, p2), (v3, p3)] := by
  refine ⟨by simp, ?_, _, 3, rfl, by simp, by simp, fun _ => ⟨_, 0, rfl, by simp, fun j hj => ?_⟩⟩
  · intro x hx
    simp only [List.mem_cons, List.not_mem_nil, or_false] at hx
    rcases hx with rfl | rfl | rfl
    · exact h1.call (below_alloc _ _)
    · exact h2.call (below_alloc _ _)
    · exact h3.call (below_alloc _ _)
  · match j, hj with
    | 0, _ => exact ⟨new_cell rfl rfl, new_cell rfl rfl, new_cell rfl rfl, new_cell rfl rfl, new_cell rfl rfl, new_cell rfl rfl⟩
    | 1, _ => exact ⟨new_cell rfl rfl, new_cell rfl rfl, new_cell rfl rfl, new_cell rfl rfl, new_cell rfl rfl, new_cell rfl rfl⟩
    | 2, _ => exact ⟨new_cell rfl rfl, new_cell rfl rfl, new_cell rfl rfl, new_cell rfl rfl, new_cell rfl rfl, new_cell rfl rfl⟩
/-- Decode of a right pipe's bytes. -/
theorem dec_yes (v : Value) (bs : List Nat) (p : Pq) (w : World) (hv : Rd .u8 w v (toI bs)) (hp : rightP p = true) (hf : PFits p) (he : put (nums p) = bs) :
    Calls Try.prog 9 #[v] w fun e w' => ∃ u, e = .returned (.tuple #[pv u p.n p.s p.a p.k p.f, .bool true]) ∧ w'.ownsRow w.heap.size 23 2 u p.os.length (opl p.os) ∧ (u = .slice none 0 0 ↔ p.os.length = 0) ∧ Below w.heap.size w w' := by
  refine (dec_any v bs w hv (by rw [← he]; exact put_bytes _)).mono ?_
  rintro e w' (⟨q, u, h1, h2, h3, rfl, h5, h6, h7⟩ | ⟨h1, _, _⟩)
  · obtain rfl : q = p := enc_inj h2 hf h1 hp (h3.trans he.symm)
    exact ⟨u, rfl, h5, h6, h7⟩
  · exact absurd he (h1 p hp hf)
/-- Decode of what is no right pipe's bytes. -/
theorem dec_no (v : Value) (bs : List Nat) (w : World) (hv : Rd .u8 w v (toI bs)) (hb : ∀ c ∈ bs, c < 256) (hn : NoPipe bs) :
    Calls Try.prog 9 #[v] w fun e w' => e = .returned (.tuple #[zp, .bool false]) ∧ Below w.heap.size w w' := by
  refine (dec_any v bs w hv hb).mono ?_
  rintro e w' (⟨q, u, h1, h2, h3, _⟩ | ⟨_, rfl, b⟩)
  · exact absurd h3 (hn q h1 h2)
  · exact ⟨rfl, b⟩
theorem own_some1 {w : World} {base : Nat} {e : TypeId} {v : Value} {n : Nat} {xs : List Value} (h : w.ownsRow base e 1 v n xs) : ∃ a c, v = .slice a n c := by
  obtain ⟨_, h | ⟨g, cap, cur, rfl, _⟩⟩ := h
  · rw [h.2, h.1]; exact ⟨_, _, rfl⟩
  · exact ⟨_, _, rfl⟩
theorem own_some2 {w : World} {base : Nat} {e : TypeId} {v : Value} {n : Nat} {xs : List Value} (h : w.ownsRow base e 2 v n xs) : ∃ a c, v = .slice a n c := by
  obtain ⟨_, h | ⟨g, cap, cur, rfl, _⟩⟩ := h
  · rw [h.2, h.1]; exact ⟨_, _, rfl⟩
  · exact ⟨_, _, rfl⟩
theorem Rd.call {k : IntKind} {w w' : World} {v : Value} {zs : List Int} (h : Rd k w v zs) (hb : Below w.heap.size w w') : Rd k w' v zs := h.below hb (Nat.le_refl _)
end Go.Proofs.Ytimeglhoiibhdaa
