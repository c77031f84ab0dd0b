/- Slices read as lists of integers; lists that the call itself lays; what is appended; cordonbook.Same. -/
import Derived.Test.YtnamjnopicghhaaLeaf
import Derived.Deep.QuietTactic
import Derived.BigQuiet
import Derived.OpenShut
import Derived.OwnWalk
import Derived.Laws.AppendOwnNone
namespace Go.Proofs.Ytnamjnopicghhaa
open Go.RowKit M
set_option linter.unusedVariables false

/-- The cells of a list of ints, of a list of bytes. -/
def iv (zs : List Int) : List Value := zs.map (Value.int .i64)
theorem iv_len (zs : List Int) : (iv zs).length = zs.length := by simp [iv]
theorem iv_append (a b : List Int) : iv (a ++ b) = iv a ++ iv b := by simp [iv]
theorem iv_one (zs : List Int) : ∀ u ∈ iv zs, u.oneCell' = true := ints_oneCell _ _
theorem iv_single (x : Int) : iv [x] = [.int .i64 x] := rfl
/-- A slice value whose elements are these integers. -/
def Rd (k : IntKind) (w : World) (v : Value) (zs : List Int) : Prop :=
  zs.length ≤ 9223372036854775807 ∧ ∃ ao cap, v = .slice ao zs.length cap ∧ zs.length ≤ cap ∧ cap ≤ 9223372036854775807 ∧ (zs.length ≠ 0 → ∃ b off, ao = some ⟨b, off, none⟩ ∧ ∀ j, j < zs.length → w.cell? ⟨b, off + j, none⟩ = some (.int k (zs.getD j 0)))
theorem rd_nil (k : IntKind) (w : World) : Rd k w (.slice none 0 0) [] := ⟨by simp, none, 0, rfl, by simp, by simp, fun h => absurd rfl h⟩
/-- A row of the call's own, read as a slice of integers. -/
theorem rd_own {w : World} {base : Nat} {v : Value} {zs : List Int} {k : IntKind} {e : TypeId} (h : w.ownsRow base e 1 v zs.length (zs.map (Value.int k))) : Rd k w v zs := by
  obtain ⟨_, h | ⟨g, cap, cur, rfl, hb, hh, hn, hm, hs, ht⟩⟩ := h
  · obtain ⟨rfl, h0⟩ := h
    have : zs = [] := List.eq_nil_of_length_eq_zero h0
    subst this
    exact rd_nil _ _
  · refine ⟨by unfold maxLen at hm; omega, some ⟨g, 0, none⟩, cap, rfl, hn, by unfold maxLen at hm; omega, fun _ => ⟨g, 0, rfl, fun j hj => ?_⟩⟩
    have h2 : w.ownsRow base e 1 (.slice (some ⟨g, 0, none⟩) zs.length cap) zs.length (zs.map (Value.int k)) := ⟨by simp, .inr ⟨g, cap, cur, rfl, hb, hh, hn, hm, hs, ht⟩⟩
    have := h2.cellAt j (by omega)
    rw [Nat.zero_add, this]
    simp [List.getD_eq_getElem?_getD, hj]
theorem rd_iv {w : World} {base : Nat} {v : Value} {zs : List Int} {e : TypeId} (h : w.ownsRow base e 1 v zs.length (iv zs)) : Rd .i64 w v zs := rd_own h
/-- What is read is read the same where nothing that was there has been written. -/
theorem Rd.below {k : IntKind} {w w' : World} {v : Value} {zs : List Int} {B : Nat} (h : Rd k w v zs) (hb : Below B w w') (hB : w.heap.size ≤ B) : Rd k w' v zs := by
  obtain ⟨h1, ao, cap, rfl, h2, h3, hc⟩ := h
  refine ⟨h1, ao, cap, rfl, h2, h3, fun hn => ?_⟩
  obtain ⟨b, off, rfl, hcell⟩ := hc hn
  refine ⟨b, off, rfl, fun j hj => ?_⟩
  have hlt : b < w.heap.size := World.block_lt_of_cell? w _ (hcell j hj)
  rw [hb.cell (p := ⟨b, off + j, none⟩) (Nat.lt_of_lt_of_le hlt hB)]
  exact hcell j hj
theorem own_below {w w' : World} {base : Nat} {e : TypeId} {size : Nat} {v : Value} {n : Nat} {xs : List Value} (h : w.ownsRow base e size v n xs) (hb : Below w.heap.size w w') : w'.ownsRow base e size v n xs := by
  obtain ⟨h1, h | ⟨g, cap, cur, rfl, h2, hh, r⟩⟩ := h
  · exact ⟨h1, .inl h⟩
  · have hg : g < w.heap.size := (Array.getElem?_eq_some_iff.1 hh).1
    exact ⟨h1, .inr ⟨g, cap, cur, rfl, h2, (hb.block g hg).trans hh, r⟩⟩
theorem rd_lit {k : IntKind} {e : TypeId} (w : World) (zs : List Int) (hl : zs.length ≤ 1000) : Rd k (w.alloc (.cells (zs.map (Value.int k)).toArray e)) (.slice (some ⟨w.heap.size, 0, none⟩) zs.length zs.length) zs := by
  have h := World.ownsRow_lit (base := w.heap.size) (e := e) (size := 1) w (zs.map (Value.int k)).toArray zs.length (Nat.le_refl _) (by unfold maxLen; omega) (by simp)
  exact rd_own (by simpa using h)
theorem below_alloc (w : World) (o : Obj) : Below w.heap.size w (w.alloc o) := (Below.refl _ _).alloc (Nat.le_refl _) o
theorem below_drewN {B : Nat} {a w : World} (h : Below B a w) : ∀ n, Below B a (w.drewN n)
  | 0 => h
  | n + 1 => (below_drewN h n).drew
theorem Try.info3 : (Try.prog.info? 3).map (fun i => (i.zero, i.size, i.bytes)) = some (some (.int .i64 0), 1, 8) := by kernel_rfl
theorem take_snoc' {α : Type} (l : List α) (d : α) (k : Nat) (h : k < l.length) : l.take (k + 1) = l.take k ++ [l.getD k d] := by
  rw [List.take_succ_eq_append_getElem h]
  simp [List.getD_eq_getElem?_getD, h]
/-- A part of what is read. -/
theorem Rd.drop {k : IntKind} {w : World} {b off len cap : Nat} {zs : List Int} (h : Rd k w (.slice (some ⟨b, off, none⟩) len cap) zs) (u : Nat) (hu : u ≤ zs.length) : Rd k w (.slice (some ⟨b, off + u, none⟩) (zs.length - u) (cap - u)) (zs.drop u) := by
  obtain ⟨h1, ao, cap', he, h2, h3, hc⟩ := h
  injection he with e1 e2 e3
  subst e1 e3
  have hl : (zs.drop u).length = zs.length - u := by simp
  refine ⟨by omega, _, _, by rw [hl], by omega, by omega, fun hn => ⟨b, off + u, rfl, fun j hj => ?_⟩⟩
  obtain ⟨b', off', hao, hcell⟩ := hc (by omega)
  injection hao with hao
  injection hao with e1 e2 e3
  subst e1 e2
  rw [Nat.add_assoc, hcell (u + j) (by omega)]
  simp [List.getD_eq_getElem?_getD]
theorem Rd.empty {k : IntKind} {w : World} {a : Option Addr} {cap : Nat} (h : cap ≤ 9223372036854775807) : Rd k w (.slice a 0 cap) [] := ⟨by simp, a, cap, rfl, by simp, h, fun h => absurd rfl h⟩
theorem own_some {w : World} {base : Nat} {v : Value} {l : List Value} {n : Nat} {e : TypeId} (h : w.ownsRow base e 1 v n l) (hn : n ≠ 0) : ∃ g cap, v = .slice (some ⟨g, 0, none⟩) n cap ∧ n ≤ cap ∧ cap ≤ maxLen ∧ base ≤ g ∧ g < w.heap.size := by
  obtain ⟨_, h0 | ⟨g, cap, cur, rfl, hb, hh, h1, hm, _⟩⟩ := h
  · exact absurd h0.2 hn
  · exact ⟨g, cap, rfl, h1, hm, hb, (Array.getElem?_eq_some_iff.1 hh).1⟩
theorem Rd.take {k : IntKind} {w : World} {a : Option Addr} {len cap : Nat} {zs : List Int} (h : Rd k w (.slice a len cap) zs) (u : Nat) (hu : u ≤ zs.length) : Rd k w (.slice a u cap) (zs.take u) := by
  obtain ⟨h1, ao, cap', he, h2, h3, hc⟩ := h
  injection he with e1 e2 e3
  subst e1 e3
  have hl : (zs.take u).length = u := by rw [List.length_take]; omega
  refine ⟨by omega, _, _, by rw [hl], by omega, h3, fun hn => ?_⟩
  obtain ⟨b, off, rfl, hcell⟩ := hc (by omega)
  refine ⟨b, off, rfl, fun j hj => ?_⟩
  rw [hl] at hj
  rw [hcell j (by omega), List.getD_eq_getElem?_getD, List.getD_eq_getElem?_getD, List.getElem?_take_of_lt hj]
/-- What is appended: nil, or a row of cells. -/
def Src (w : World) (u : Value) (m : Nat) (news : List Value) : Prop :=
  (u = .slice none 0 0 ∧ m = 0 ∧ news = []) ∨ ∃ ad c, u = .slice (some ad) m c ∧ news.length = m * 1 ∧ ∀ j x, news[j]? = some x → w.cell? (ad.add j) = some x
theorem Src.below {w w' : World} {u : Value} {m B : Nat} {news : List Value} (h : Src w u m news) (hb : Below B w w') (hB : w.heap.size ≤ B) : Src w' u m news := by
  rcases h with h | ⟨ad, c, rfl, hl, hc⟩
  · exact .inl h
  · refine .inr ⟨ad, c, rfl, hl, fun j x hj => ?_⟩
    have := hc j x hj
    rw [hb.cell (Nat.lt_of_lt_of_le (World.block_lt_of_cell? w _ this) hB)]
    exact this
theorem src_own {w : World} {base : Nat} {v : Value} {n : Nat} {l : List Value} {e : TypeId} (h : w.ownsRow base e 1 v n l) : Src w v n l := by
  have hl := h.1
  have h' := h
  obtain ⟨_, h0 | ⟨g, cap, cur, rfl, hb, hh, hn, hm, hs, ht⟩⟩ := h
  · obtain ⟨rfl, h0⟩ := h0
    subst h0
    exact .inl ⟨rfl, rfl, List.eq_nil_of_length_eq_zero (by simpa using hl)⟩
  · refine .inr ⟨_, _, rfl, hl, fun j u hj => ?_⟩
    have hjl := (List.getElem?_eq_some_iff.1 hj).1
    have := h'.cellAt j (by omega)
    rw [Addr.add_lit, Nat.zero_add, this, hj]
section
variable {P : Program} (w : World)
theorem run_append_src (base : Nat) (t ty e : TypeId) (i : TypeInfo) (z : Value) (bytes : Nat) (ht : P.underlying t = some (.slice e)) (hi : P.info? e = some i) (hz : i.zero = some z)
    (hsize : i.size = 1) (hby : i.bytes = bytes) (hzs : z.cells.size = 1)
    (v : Value) (n : Nat) (xs : List Value) (hown : w.ownsRow base e 1 v n xs) (u : Value) (m : Nat) (news : List Value) (hsrc : Src w u m news) (h1 : ∀ u ∈ news, u.oneCell' = true)
    (h63 : n + m ≤ maxLen) (hbytes : (n + m) * bytes ≤ 140737488355328) (hbase : base ≤ w.heap.size) :
    ∃ v' w', (Builtin.append_ #[t, t] ty #[v, u]).run P w = .ok v' w' ∧ w'.ownsRow base e 1 v' (n + m) (xs ++ news) ∧ Below base w w' := by
  rcases hsrc with ⟨rfl, rfl, rfl⟩ | ⟨ad, c, rfl, hl, hc⟩
  · exact ⟨v, w, run_append_owned_none (P := P) (w := w) base t ty e i 1 ht hi v n xs hown, by simpa using hown, Below.refl _ _⟩
  · obtain ⟨v', w', hr, h2, h3, _⟩ := run_append_own (P := P) w base t ty e i z 1 bytes ht hi hz hsize hby hzs (by decide) v n xs hown ad m c news hl hc h1 h63 hbytes hbase
    exact ⟨v', w', hr, h2, (Below.refl _ _).grown h3 hbase (fun k hk => (hown.lt k hk).1)⟩
theorem wpList_append_src {ops : Array Oper} {rest : List Oper} {o : Oper} {a : Act} {Q : Exit → Act → World → Prop} (hw : Region.wanted o (yielded ops a.tmps) = true) (s x : Operand) (t : TypeId)
    (ho : o.op = .call { callee := .builtin .append, args := #[s, x], argTypes := #[t, t] })
    (base : Nat) (e : TypeId) (i : TypeInfo) (z : Value) (bytes : Nat) (ht : P.underlying t = some (.slice e)) (hi : P.info? e = some i) (hz : i.zero = some z)
    (hsize : i.size = 1) (hby : i.bytes = bytes) (hzs : z.cells.size = 1)
    (v : Value) (n : Nat) (xs : List Value) (hs : a.eval s = v) (hown : w.ownsRow base e 1 v n xs) (u : Value) (m : Nat) (news : List Value) (hx : a.eval x = u) (hsrc : Src w u m news) (h1 : ∀ u ∈ news, u.oneCell' = true)
    (h63 : n + m ≤ maxLen) (hbytes : (n + m) * bytes ≤ 140737488355328) (hbase : base ≤ w.heap.size)
    (h : ∀ v' w', w'.ownsRow base e 1 v' (n + m) (xs ++ news) → Below base w w' → wpList P ops Q rest (a.put o.dst v') w') : wpList P ops Q (o :: rest) a w :=
  BigFrame.wpList_want hw fun K hK => by
    obtain ⟨v', w', hr, h2, h3⟩ := run_append_src (P := P) w base t o.type e i z bytes ht hi hz hsize hby hzs v n xs hown u m news hsrc h1 h63 hbytes hbase
    unfold Oper.wp execOp
    simp only [ho, resolve, invoke, builtin, Sem.run_bind, Sem.run_pure, Result.andThen_ok, List.map_toArray, List.map_cons, List.map_nil, hs, hx, hr]
    exact hK _ _ (h v' w' h2 h3)
end
end Go.Proofs.Ytnamjnopicghhaa
