/- Lists of clocks that the call itself lays: their cells, how they are read, and how they grow. -/
import Derived.Test.YtgpjjkfgobjfcaaFold
import Derived.Deep.Cut
import Derived.Deep.CutBlock
import Derived.Deep.DeepCutAuto
import Derived.Deep.QuietTactic
import Derived.BigQuiet
import Derived.OpenShut
import Derived.Laws.AppendOwnNone
import Derived.Deep.RegionHeld3
import Derived.Deep.DrawnRows
namespace Go.Proofs.Ytgpjjkfgobjfcaa
open Go.RowKit

theorem below_alloc (w : World) (o : Obj) : Below w.heap.size w (w.alloc o) := (Below.refl _ _).alloc (Nat.le_refl _) o
theorem new_cell {w : World} {b j : Nat} {cs : Array Value} {T : TypeId} {v : Value} (hb : b = w.heap.size) (h : cs[j]? = some v) : (w.alloc (.cells cs T)).cell? ⟨b, j, none⟩ = some v := by
  subst hb; simp [h]
def mc (m : Int) : List Value := [.int .i64 m, .int .i64 0, .int .i64 0]
/-- The cells of clocks with these marks, of which nothing was seen. -/
def mv (ms : List Int) : List Value := ms.flatMap mc
theorem mv_len (ms : List Int) : (mv ms).length = ms.length * 3 := by
  induction ms with
  | nil => rfl
  | cons x r ih => simp only [mv, List.flatMap_cons, List.length_append, List.length_cons] at *; rw [ih]; simp [mc]; omega
theorem mv_one (ms : List Int) : ∀ u ∈ mv ms, u.oneCell' = true := by
  intro u hu
  simp only [mv, List.mem_flatMap] at hu
  obtain ⟨e, _, he⟩ := hu
  simp only [mc, List.mem_cons, List.not_mem_nil, or_false] at he
  rcases he with rfl | rfl | rfl <;> rfl
theorem mv_append (a b : List Int) : mv (a ++ b) = mv a ++ mv b := by simp [mv]
theorem mv_at (ms : List Int) : ∀ (i r : Nat), r < 3 → i < ms.length → (mv ms)[i * 3 + r]? = (mc (ms.getD i 0))[r]? := by
  induction ms with
  | nil => intro i r _ hi; simp at hi
  | cons x s ih =>
    intro i r hr hi
    have hc : (mc x).length = 3 := rfl
    show (mc x ++ mv s)[i * 3 + r]? = _
    cases i with
    | zero => rw [List.getElem?_append_left (by omega)]; simp
    | succ i =>
      rw [List.getElem?_append_right (by omega), hc, show (i + 1) * 3 + r - 3 = i * 3 + r by omega, ih i r hr (by simpa using hi)]
      simp
theorem mv_take (ms : List Int) (C : Nat) : mv (ms.take C) = (mv ms).take (C * 3) := by
  induction ms generalizing C with
  | nil => simp [mv]
  | cons x s ih =>
    cases C with
    | zero => simp [mv]
    | succ C =>
      show mc x ++ mv (s.take C) = (mc x ++ mv s).take ((C + 1) * 3)
      rw [ih, List.take_append, show (mc x).length = 3 from rfl, List.take_of_length_le (l := mc x) (by show 3 ≤ _; omega), show (C + 1) * 3 - 3 = C * 3 by omega]
theorem mv_drop (ms : List Int) (C : Nat) : mv (ms.drop C) = (mv ms).drop (C * 3) := by
  induction ms generalizing C with
  | nil => simp [mv]
  | cons x s ih =>
    cases C with
    | zero => simp [mv]
    | succ C =>
      show mv (s.drop C) = (mc x ++ mv s).drop ((C + 1) * 3)
      rw [ih, List.drop_append, show (mc x).length = 3 from rfl, (List.drop_eq_nil_iff (l := mc x)).2 (by show 3 ≤ _; omega), show (C + 1) * 3 - 3 = C * 3 by omega]
      simp

theorem own_below {w w' : World} {base : Nat} {e : TypeId} {size : Nat} {v : Value} {n : Nat} {xs : List Value} {B : Nat} (h : w.ownsRow base e size v n xs) (hb : Below B w w') (hB : w.heap.size ≤ B) : w'.ownsRow base e size v n xs := by
  obtain ⟨h1, h | ⟨g, cap, cur, rfl, h2, hh, r⟩⟩ := h
  · exact ⟨h1, .inl h⟩
  · have hg : g < w.heap.size := (Array.getElem?_eq_some_iff.1 hh).1
    exact ⟨h1, .inr ⟨g, cap, cur, rfl, h2, (hb.block g (Nat.lt_of_lt_of_le hg hB)).trans hh, r⟩⟩
theorem own_shape {w : World} {base : Nat} {v : Value} {l : List Value} {n size : Nat} {e : TypeId} (h : w.ownsRow base e size v n l) : (v = .slice none 0 0 ∧ n = 0) ∨ ∃ g cap, v = .slice (some ⟨g, 0, none⟩) n cap ∧ n ≤ cap ∧ cap ≤ 9223372036854775807 := by
  obtain ⟨_, h0 | ⟨g, cap, cur, rfl, hb, hh, h1, hm, _⟩⟩ := h
  · exact .inl h0
  · exact .inr ⟨g, cap, rfl, h1, by unfold maxLen at hm; omega⟩

/-- What is appended: nil, or a row of cells. -/
def Src (w : World) (u : Value) (m : Nat) (news : List Value) : Prop :=
  (u = .slice none 0 0 ∧ m = 0 ∧ news = []) ∨ ∃ ad c, u = .slice (some ad) m c ∧ news.length = m * 3 ∧ ∀ j x, news[j]? = some x → w.cell? (ad.add j) = some x
theorem Src.below {w w' : World} {u : Value} {m B : Nat} {news : List Value} (h : Src w u m news) (hb : Below B w w') (hB : w.heap.size ≤ B) : Src w' u m news := by
  rcases h with h | ⟨ad, c, rfl, hl, hc⟩
  · exact .inl h
  · refine .inr ⟨ad, c, rfl, hl, fun j x hj => ?_⟩
    have := hc j x hj
    rw [hb.cell (Nat.lt_of_lt_of_le (World.block_lt_of_cell? w _ this) hB)]
    exact this
/-- A list of the call's own, as the program's functions read it. -/
theorem rd_own {w : World} {base : Nat} {v : Value} {ms : List Int} {e : TypeId} (h : w.ownsRow base e 3 v ms.length (mv ms)) : RdC w v ms := by
  have h' := h
  obtain ⟨_, h | ⟨g, cap, cur, rfl, hb, hh, hn, hm, hs, ht⟩⟩ := h
  · obtain ⟨rfl, h0⟩ := h
    have : ms = [] := List.eq_nil_of_length_eq_zero h0
    subst this
    exact ⟨by simp, none, 0, rfl, by simp, by simp, by simp⟩
  · have hcap := hm
    unfold maxLen at hcap
    refine ⟨by omega, _, cap, rfl, hn, hcap, fun _ => ⟨g, 0, rfl, (Array.getElem?_eq_some_iff.1 hh).1, fun j hj => ?_⟩⟩
    have hc : ∀ r, r < 3 → w.cell? ⟨g, 0 + j * 3 + r, none⟩ = (mc (ms.getD j 0))[r]? := by
      intro r hr
      rw [Nat.zero_add, h'.cellAt (j * 3 + r) (by omega), mv_at ms j r hr hj]
    exact ⟨hc 0 (by decide), hc 1 (by decide), hc 2 (by decide)⟩
/-- What comes of cutting a list of the call's own in two. -/
def Parts (ao : Option Addr) (n cp C : Nat) (u1 u2 : Value) : Prop :=
  (ao = none ∧ n = 0 ∧ cp = 0 ∧ C = 0 ∧ u1 = .slice none 0 0 ∧ u2 = .slice none 0 0) ∨
  ∃ g, ao = some ⟨g, 0, none⟩ ∧ n ≤ cp ∧ cp ≤ 9223372036854775807 ∧ C ≤ n ∧ u2 = .slice (some ⟨g, 0, none⟩) C cp ∧
    (C = cp ∧ u1 = .slice (some ⟨g, 0, none⟩) 0 0 ∨ C < cp ∧ u1 = .slice (some ⟨g, C * 3, none⟩) (n - C) (cp - C))
theorem parts_ex {w : World} {base : Nat} {ao : Option Addr} {cp C : Nat} {ms : List Int} {e : TypeId} (h : w.ownsRow base e 3 (.slice ao ms.length cp) ms.length (mv ms)) (hC : C ≤ ms.length) :
    ∃ u1 u2, Parts ao ms.length cp C u1 u2 ∧ Src w u1 (ms.drop C).length (mv (ms.drop C)) ∧ Src w u2 (ms.take C).length (mv (ms.take C)) := by
  rcases own_shape h with ⟨he, h0⟩ | ⟨g, cap, he, h1, h2⟩
  · injection he with e1 e2 e3
    subst e1 e3
    have : ms = [] := List.eq_nil_of_length_eq_zero h0
    subst this
    have : C = 0 := by simpa using hC
    subst this
    exact ⟨_, _, .inl ⟨rfl, rfl, rfl, rfl, rfl, rfl⟩, .inl ⟨rfl, rfl, rfl⟩, .inl ⟨rfl, rfl, rfl⟩⟩
  · injection he with e1 e2 e3
    subst e1 e3
    have hcell : ∀ j, j < ms.length * 3 → w.cell? ⟨g, j, none⟩ = (mv ms)[j]? := fun j hj => h.cellAt j hj
    have hml := mv_len ms
    have s2 : Src w (.slice (some ⟨g, 0, none⟩) C cp) (ms.take C).length (mv (ms.take C)) := by
      have hl : (ms.take C).length = C := by simp; omega
      rw [hl]
      refine .inr ⟨_, _, rfl, by rw [mv_len, hl], fun j u hj => ?_⟩
      rw [mv_take] at hj
      have hjl := (List.getElem?_eq_some_iff.1 hj).1
      rw [List.length_take] at hjl
      rw [List.getElem?_take_of_lt (by omega)] at hj
      rw [Addr.add_lit, Nat.zero_add, hcell j (by omega), hj]
    by_cases hc : C = cp
    · subst hc
      have hn : ms.drop C = [] := List.drop_of_length_le (by omega)
      refine ⟨.slice (some ⟨g, 0, none⟩) 0 0, _, .inr ⟨g, rfl, h1, h2, hC, rfl, .inl ⟨rfl, rfl⟩⟩, ?_, s2⟩
      rw [hn]
      exact .inr ⟨_, _, rfl, rfl, fun j u hj => by simp [mv] at hj⟩
    · refine ⟨.slice (some ⟨g, C * 3, none⟩) (ms.length - C) (cp - C), _, .inr ⟨g, rfl, h1, h2, hC, rfl, .inr ⟨by omega, rfl⟩⟩, ?_, s2⟩
      have hl : (ms.drop C).length = ms.length - C := by simp
      rw [hl]
      refine .inr ⟨_, _, rfl, by rw [mv_len, hl], fun j u hj => ?_⟩
      rw [mv_drop] at hj
      have hjl := (List.getElem?_eq_some_iff.1 hj).1
      rw [List.length_drop] at hjl
      rw [List.getElem?_drop] at hj
      rw [Addr.add_lit, hcell (C * 3 + j) (by omega), hj]

section
variable {P : Program} (w : World)
theorem run_append_src (base : Nat) (t ty e : TypeId) (i : TypeInfo) (z : Value) (bytes : Nat) (ht : P.underlying t = some (.slice e)) (hi : P.info? e = some i) (hz : i.zero = some z)
    (hsize : i.size = 3) (hby : i.bytes = bytes) (hzs : z.cells.size = 3)
    (v : Value) (n : Nat) (xs : List Value) (hown : w.ownsRow base e 3 v n xs) (u : Value) (m : Nat) (news : List Value) (hsrc : Src w u m news) (h1 : ∀ u ∈ news, u.oneCell' = true)
    (h63 : n + m ≤ maxLen) (hbytes : (n + m) * bytes ≤ 140737488355328) (hbase : base ≤ w.heap.size) :
    ∃ v' w', (Builtin.append_ #[t, t] ty #[v, u]).run P w = .ok v' w' ∧ w'.ownsRow base e 3 v' (n + m) (xs ++ news) ∧ Below base w w' ∧ ∀ g, g < w.heap.size → some g ≠ v.ownBlock → w'.heap[g]? = w.heap[g]? := by
  rcases hsrc with ⟨rfl, rfl, rfl⟩ | ⟨ad, c, rfl, hl, hc⟩
  · exact ⟨v, w, run_append_owned_none (P := P) (w := w) base t ty e i 3 ht hi v n xs hown, by simpa using hown, Below.refl _ _, fun _ _ _ => rfl⟩
  · obtain ⟨v', w', hr, h2, h3, _⟩ := run_append_own (P := P) w base t ty e i z 3 bytes ht hi hz hsize hby hzs (by decide) v n xs hown ad m c news hl hc h1 h63 hbytes hbase
    exact ⟨v', w', hr, h2, (Below.refl _ _).grown h3 hbase (fun k hk => (hown.lt k hk).1), fun g hg hne => h3.block g hg hne⟩
theorem wpList_append_src {ops : Array Oper} {rest : List Oper} {o : Oper} {a : Act} {Q : Exit → Act → World → Prop} (hw : Region.wanted o (yielded ops a.tmps) = true) (s x : Operand) (t : TypeId)
    (ho : o.op = .call { callee := .builtin .append, args := #[s, x], argTypes := #[t, t] })
    (base : Nat) (e : TypeId) (i : TypeInfo) (z : Value) (bytes : Nat) (ht : P.underlying t = some (.slice e)) (hi : P.info? e = some i) (hz : i.zero = some z)
    (hsize : i.size = 3) (hby : i.bytes = bytes) (hzs : z.cells.size = 3)
    (v : Value) (n : Nat) (xs : List Value) (hs : a.eval s = v) (hown : w.ownsRow base e 3 v n xs) (u : Value) (m : Nat) (news : List Value) (hx : a.eval x = u) (hsrc : Src w u m news) (h1 : ∀ u ∈ news, u.oneCell' = true)
    (h63 : n + m ≤ maxLen) (hbytes : (n + m) * bytes ≤ 140737488355328) (hbase : base ≤ w.heap.size)
    (h : ∀ v' w', w'.ownsRow base e 3 v' (n + m) (xs ++ news) → Below base w w' → wpList P ops Q rest (a.put o.dst v') w') : wpList P ops Q (o :: rest) a w :=
  BigFrame.wpList_want hw fun K hK => by
    obtain ⟨v', w', hr, h2, h3, _⟩ := run_append_src (P := P) w base t o.type e i z bytes ht hi hz hsize hby hzs v n xs hown u m news hsrc h1 h63 hbytes hbase
    unfold Oper.wp execOp
    simp only [ho, resolve, invoke, builtin, Sem.run_bind, Sem.run_pure, Result.andThen_ok, List.map_toArray, List.map_cons, List.map_nil, hs, hx, hr]
    exact hK _ _ (h v' w' h2 h3)
theorem step_append_src {ops : Array Oper} {o : Oper} {a : Act} {K : Act → World → Prop} {Q : Exit → Act → World → Prop} {E : Prop} {d : Nat} (hd : o.dst = some d) (hw : Region.wanted o (yielded ops a.tmps) = true) (s x : Operand) (t : TypeId)
    (ho : o.op = .call { callee := .builtin .append, args := #[s, x], argTypes := #[t, t] })
    (base : Nat) (e : TypeId) (i : TypeInfo) (z : Value) (bytes : Nat) (ht : P.underlying t = some (.slice e)) (hi : P.info? e = some i) (hz : i.zero = some z)
    (hsize : i.size = 3) (hby : i.bytes = bytes) (hzs : z.cells.size = 3)
    (v : Value) (n : Nat) (xs : List Value) (hs : a.eval s = v) (hown : w.ownsRow base e 3 v n xs) (u : Value) (m : Nat) (news : List Value) (hx : a.eval x = u) (hsrc : Src w u m news) (h1 : ∀ u ∈ news, u.oneCell' = true)
    (h63 : n + m ≤ maxLen) (hbytes : (n + m) * bytes ≤ 140737488355328) (hbase : base ≤ w.heap.size)
    (h : ∀ v' w', w'.ownsRow base e 3 v' (n + m) (xs ++ news) → Below base w w' → K (a.put (some d) v') w') :
    if Region.wanted o (yielded ops a.tmps) = true then Oper.wp P o a w K Q else E := by
  rw [if_pos hw]
  obtain ⟨v', w', hr, h2, h3, _⟩ := run_append_src (P := P) w base t o.type e i z bytes ht hi hz hsize hby hzs v n xs hown u m news hsrc h1 h63 hbytes hbase
  unfold Oper.wp execOp
  simp only [ho, resolve, invoke, builtin, Sem.run_bind, Sem.run_pure, Result.andThen_ok, List.map_toArray, List.map_cons, List.map_nil, hs, hx, hr]
  rw [← hd] at h
  exact h v' w' h2 h3
end
/-- An operation that yields is taken first: the slot by its number. -/
theorem take_at {P : Program} {ops : Array Oper} {Q : Exit → Act → World → Prop} {md : Region.Mode} {S : World → Prop} {i k : Nat} {oi : Oper} {v : Value} {fuel : Nat} {listed : Array Bool} {a : Act} {w : World} (hi : ops[i]? = some oi) (hd : oi.dst = some k)
    (hs : Region.noSelect ops = true) (hf : Region.free md ops listed i = true) (hr : (Region.ready md ops listed).contains i = true)
    (hQ : ∀ c a w, Q (.panic c) (a.put (some k) v) w → Q (.panic c) a w) (hy : YieldsIf P ops S oi v a) (hS : S w)
    (h : wpAnyH P md ops Q S fuel (listed.setIfInBounds i true) (a.put (some k) v) w) : wpAnyH P md ops Q S (fuel + 1) listed a w := by
  rw [← hd] at h hQ
  exact wpAnyH_take hi hs hf hr hQ hy hS h
theorem Try.info23 : (Try.prog.info? 23).map (fun i => (i.zero, i.size, i.bytes)) = some (some (.agg #[.int .i64 0, .int .i64 0, .int .i64 0]), 3, 24) := by kernel_rfl
/-- A list of one clock, made in place. -/
theorem own_one (w : World) (m : Int) : (w.alloc (.cells #[.int .i64 m, .int .i64 0, .int .i64 0] 23)).ownsRow w.heap.size 23 3 (.slice (some ⟨w.heap.size, 0, none⟩) 1 1) [m].length (mv [m]) :=
  World.ownsRow_lit w #[.int .i64 m, .int .i64 0, .int .i64 0] 1 (Nat.le_refl _) (by unfold maxLen; omega) (by simp)
theorem src_one (w : World) (m : Int) : Src (w.alloc (.cells #[.int .i64 m, .int .i64 0, .int .i64 0] 23)) (.slice (some ⟨w.heap.size, 0, none⟩) 1 1) 1 (mv [m]) := by
  refine .inr ⟨_, _, rfl, rfl, fun j u hj => ?_⟩
  have hl := (List.getElem?_eq_some_iff.1 hj).1
  rw [Addr.add_lit, Nat.zero_add]
  exact new_cell rfl (by rw [← hj]; simp [mv, mc])
end Go.Proofs.Ytgpjjkfgobjfcaa
