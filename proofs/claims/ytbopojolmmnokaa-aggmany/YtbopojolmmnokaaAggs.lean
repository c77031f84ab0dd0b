/- Slices of slices of ints that came in; lists of aggregates that the call itself lays: their cells, how they are read, how they grow, how they are cut in two. -/
import Derived.Test.YtbopojolmmnokaaCut
namespace Go.Proofs.Ytbopojolmmnokaa
open Go.RowKit M
set_option linter.unusedVariables false

theorem Try.cells29 : Try.prog.cellsOf 29 = 1 := by kernel_rfl
/-- A slice of slices of ints that came in, row by row. -/
def IsRows (w : World) (a : Option Addr) (len cap : Nat) (_ : Unit) : Prop :=
  len ≤ 9223372036854775807 ∧ len ≤ cap ∧ cap ≤ 9223372036854775807 ∧ ∀ r, r < len → ∃ b off a' l c zs, a = some ⟨b, off, none⟩ ∧ b < w.heap.size ∧ w.cell? ⟨b, off + r, none⟩ = some (.slice a' l c) ∧ IsInts w a' l c zs
section
variable {H : Type} {enc : TypeId × Value → H}
theorem open_rows {W : World} {fuel : Nat} {a : Option Addr} {len cap : Nat} {x : DataW H × List MemPlace}
    (h : DataW.trod enc Try.prog W 0 (fun _ => true) true fuel 43 [.slice a len cap] = some x) : ∃ es, IsRows W a len cap es := by
  refine ⟨(), ?_⟩
  rcases Deep.open_slice1 Try.underlying43 Try.cells29 h with ⟨hcs, _⟩ | ⟨ad, l, c, m, n, V, D, Pl, hcs, _, hl, hm, hmm, _, hx⟩
  · simp at hcs
    obtain ⟨rfl, rfl, rfl⟩ := hcs
    exact ⟨by decide, by decide, by decide, fun r hr => absurd hr (Nat.not_lt_zero _)⟩
  · simp at hcs
    obtain ⟨rfl, rfl, rfl⟩ := hcs
    simp at hmm
    subst hmm
    unfold maxLen at hm
    refine ⟨by omega, hl, by omega, fun r hr => ?_⟩
    obtain ⟨hc, ht⟩ := hx r (by omega)
    obtain ⟨h0, _⟩ := hx 0 (by omega)
    obtain ⟨b, off, rfl⟩ := plain_addr h0
    rw [Addr.add_lit] at hc
    have hb : b < W.heap.size := World.block_lt_of_cell? W _ hc
    rcases Deep.open_slice Try.underlying29 ht with ⟨hcs, _⟩ | ⟨a', l', c', m', n', D', Pl', hcs, _⟩
    · simp at hcs
      rw [hcs] at hc ht
      obtain ⟨zs, hz⟩ := open_ints ht
      exact ⟨b, off, _, _, _, zs, rfl, hb, hc, hz⟩
    · simp at hcs
      rw [hcs] at hc ht
      obtain ⟨zs, hz⟩ := open_ints ht
      exact ⟨b, off, _, _, _, zs, rfl, hb, hc, hz⟩
end
/-- The first K of a row that came in. -/
theorem rd_row {w : World} {a : Option Addr} {l c : Nat} {zs : List Int} (h : IsInts w a l c zs) (K : Nat) (hK : K ≤ l) :
    (zs.take K).length = K ∧ Rd .i64 w (.slice a K c) (zs.take K) ∧ (zs.take K ≠ [] → ∀ g, w.heap.size ≤ g → Apart g (.slice a K c)) ∧ l ≤ c ∧ c ≤ 9223372036854775807 ∧ (a = none → l = 0 ∧ c = 0) := by
  rcases h with ⟨rfl, rfl, rfl, rfl⟩ | ⟨x, rfl, h1, h2, h3, hc, _⟩
  · obtain rfl : K = 0 := by omega
    exact ⟨rfl, rd_nil _ _, fun h => absurd rfl h, by decide, by decide, fun _ => ⟨rfl, rfl⟩⟩
  · unfold maxLen at h2
    have hl : (zs.take K).length = K := by rw [List.length_take]; omega
    have hget : ∀ j, j < K → (zs.take K).getD j 0 = zs.getD j 0 := fun j hj => by
      rw [List.getD_eq_getElem?_getD, List.getD_eq_getElem?_getD, List.getElem?_take_of_lt hj]
    refine ⟨hl, ⟨by omega, _, c, by rw [hl], by omega, by omega, fun hn => ?_⟩, fun hn g hg => ?_, h1, by omega, fun h => by cases h⟩
    · obtain ⟨b, off, rfl⟩ := plain_addr (hc 0 (by omega))
      refine ⟨b, off, rfl, fun j hj => ?_⟩
      have := hc j (by omega)
      rw [Addr.add_lit] at this
      rw [this, hget j (by omega)]
    · have hK0 := len_pos hn
      obtain ⟨b, off, rfl⟩ := plain_addr (hc 0 (by omega))
      have := hc 0 (by omega)
      rw [Addr.add_lit] at this
      have hb : b < w.heap.size := World.block_lt_of_cell? w _ this
      exact apart_some (by omega)
set_option maxRecDepth 100000 in
theorem add_none (b : Nat) (a : Option Addr) (c : Nat) (w : World) :
    Calls Try.prog 10 #[.pointer (some ⟨b, 0, none⟩), .slice a 0 c] w fun e w' => e = .returned (.tuple #[]) ∧ w' = w := by
  go_enter Try.func10, Try.ntmps10
  go_wp2_with fail
  go_loop [8] (fun i => i = .int .i64 0) (fun _ => 0)
  case atStart => exact rfl
  case round =>
    obtain rfl := hrel
    go_wp2_with fail
    go_end0
    exact ⟨rfl, rfl⟩
/-- Add, of a row that may be empty and lie anywhere then. -/
theorem add_row (b : Nat) (k : Int) (l zs : List Int) (a : Option Addr) (K c : Nat) (w : World) (hc : Agl w b k l) (hr : Rd .i64 w (.slice a K c) zs) (hK : zs.length = K) (ha : zs ≠ [] → Apart b (.slice a K c)) (hl : l.length + zs.length ≤ 9223372036854775807) :
    Calls Try.prog 10 #[.pointer (some ⟨b, 0, none⟩), .slice a K c] w fun e w' => e = .returned (.tuple #[]) ∧ Agl w' b k (l ++ zs) ∧ But b w w' := by
  by_cases h : zs = []
  · subst h
    obtain rfl : 0 = K := hK
    refine (add_none b a c w).mono ?_
    rintro e w' ⟨rfl, rfl⟩
    exact ⟨rfl, by rw [List.append_nil]; exact hc, But.refl _ _⟩
  · exact add_any b k l zs _ w hc hr (ha h) hl

/- Lists of aggregates. -/
def pc (k : Int) (m : List Int) : List Value := [.int .i64 m.length, .int .i64 k, .int .i64 (val k m)]
/-- The cells of the aggregates of these lists. -/
def pv (k : Int) (Ls : List (List Int)) : List Value := Ls.flatMap (pc k)
theorem pv_len (k : Int) (Ls : List (List Int)) : (pv k Ls).length = Ls.length * 3 := by
  induction Ls with
  | nil => rfl
  | cons x r ih => simp only [pv, List.flatMap_cons, List.length_append, List.length_cons] at *; rw [ih]; simp [pc]; omega
theorem pv_one (k : Int) (Ls : List (List Int)) : ∀ u ∈ pv k Ls, u.oneCell' = true := by
  intro u hu
  simp only [pv, List.mem_flatMap] at hu
  obtain ⟨e, _, he⟩ := hu
  simp only [pc, List.mem_cons, List.not_mem_nil, or_false] at he
  rcases he with rfl | rfl | rfl <;> rfl
theorem pv_append (k : Int) (a b : List (List Int)) : pv k (a ++ b) = pv k a ++ pv k b := by simp [pv]
theorem pv_at (k : Int) (Ls : List (List Int)) : ∀ (i r : Nat), r < 3 → i < Ls.length → (pv k Ls)[i * 3 + r]? = (pc k (Ls.getD i []))[r]? := by
  induction Ls with
  | nil => intro i r _ hi; simp at hi
  | cons x s ih =>
    intro i r hr hi
    have hc : (pc k x).length = 3 := rfl
    show (pc k x ++ pv k s)[i * 3 + r]? = _
    cases i with
    | zero => rw [List.getElem?_append_left (by omega)]; simp
    | succ i =>
      rw [List.getElem?_append_right (by omega), hc, show (i + 1) * 3 + r - 3 = i * 3 + r by omega, ih i r hr (by simpa using hi)]
      simp
theorem pv_take (k : Int) (Ls : List (List Int)) (C : Nat) : pv k (Ls.take C) = (pv k Ls).take (C * 3) := by
  induction Ls generalizing C with
  | nil => simp [pv]
  | cons x s ih =>
    cases C with
    | zero => simp [pv]
    | succ C =>
      show pc k x ++ pv k (s.take C) = (pc k x ++ pv k s).take ((C + 1) * 3)
      rw [ih, List.take_append, show (pc k x).length = 3 from rfl, List.take_of_length_le (l := pc k x) (by show 3 ≤ _; omega), show (C + 1) * 3 - 3 = C * 3 by omega]
theorem pv_drop (k : Int) (Ls : List (List Int)) (C : Nat) : pv k (Ls.drop C) = (pv k Ls).drop (C * 3) := by
  induction Ls generalizing C with
  | nil => simp [pv]
  | cons x s ih =>
    cases C with
    | zero => simp [pv]
    | succ C =>
      show pv k (s.drop C) = (pc k x ++ pv k s).drop ((C + 1) * 3)
      rw [ih, List.drop_append, show (pc k x).length = 3 from rfl, (List.drop_eq_nil_iff (l := pc k x)).2 (by show 3 ≤ _; omega), show (C + 1) * 3 - 3 = C * 3 by omega]
      simp
theorem own_but {w w' : World} {base b : Nat} {e : TypeId} {size : Nat} {v : Value} {n : Nat} {xs : List Value} (h : w.ownsRow base e size v n xs) (hb : But b w w') (ha : Apart b v) : w'.ownsRow base e size v n xs := by
  obtain ⟨h1, h | ⟨g, cap, cur, rfl, h2, hh, r⟩⟩ := h
  · exact ⟨h1, .inl h⟩
  · have hg : g < w.heap.size := (Array.getElem?_eq_some_iff.1 hh).1
    exact ⟨h1, .inr ⟨g, cap, cur, rfl, h2, (hb.other g hg (ha _ _ _ _ rfl)).trans hh, r⟩⟩
theorem own_apart_low {w : World} {base g : Nat} {v : Value} {l : List Value} {n sz : Nat} {e : TypeId} (h : w.ownsRow base e sz v n l) (hg : g < base) : Apart g v := by
  obtain ⟨_, h0 | ⟨g', cap, cur, rfl, hb, hh, h1, hm, _⟩⟩ := h
  · rw [h0.1]; exact apart_nil _ _ _
  · exact apart_some (by omega)

/-- What is appended: nil, or a row of cells, three an element. -/
def Src3 (w : World) (u : Value) (m : Nat) (news : List Value) : Prop :=
  (u = .slice none 0 0 ∧ m = 0 ∧ news = []) ∨ ∃ ad c, u = .slice (some ad) m c ∧ news.length = m * 3 ∧ ∀ j x, news[j]? = some x → w.cell? (ad.add j) = some x
theorem Src3.below {w w' : World} {u : Value} {m B : Nat} {news : List Value} (h : Src3 w u m news) (hb : Below B w w') (hB : w.heap.size ≤ B) : Src3 w' u m news := by
  rcases h with h | ⟨ad, c, rfl, hl, hc⟩
  · exact .inl h
  · refine .inr ⟨ad, c, rfl, hl, fun j x hj => ?_⟩
    have := hc j x hj
    rw [hb.cell (Nat.lt_of_lt_of_le (World.block_lt_of_cell? w _ this) hB)]
    exact this
/-- The three cells of the j-th aggregate of a list of the call's own. -/
theorem own_agg {w : World} {base : Nat} {ao : Option Addr} {n cap : Nat} {k : Int} {Ls : List (List Int)} {e : TypeId} (h : w.ownsRow base e 3 (.slice ao n cap) n (pv k Ls)) (hn : Ls.length = n) (j : Nat) (hj : j < n) :
    ∃ g, ao = some ⟨g, 0, none⟩ ∧ n ≤ cap ∧ cap ≤ 9223372036854775807 ∧ w.cell? ⟨g, j * 3, none⟩ = some (.int .i64 (Ls.getD j []).length) ∧ w.cell? ⟨g, j * 3 + 1, none⟩ = some (.int .i64 k) ∧ w.cell? ⟨g, j * 3 + 2, none⟩ = some (.int .i64 (val k (Ls.getD j []))) := by
  have h' := h
  obtain ⟨_, h | ⟨g, cap', cur, he, hb, hh, h1, hm, _⟩⟩ := h
  · exact absurd h.2 (by omega)
  · injection he with e1 e2 e3
    subst e1 e3
    unfold maxLen at hm
    have hc : ∀ r, r < 3 → w.cell? ⟨g, j * 3 + r, none⟩ = (pc k (Ls.getD j []))[r]? := by
      intro r hr
      rw [h'.cellAt (j * 3 + r) (by omega), pv_at k Ls j r hr (by omega)]
    exact ⟨g, rfl, h1, by omega, hc 0 (by decide), hc 1 (by decide), hc 2 (by decide)⟩
def Parts3 (ao : Option Addr) (n cp C : Nat) (u1 u2 : Value) : Prop :=
  (ao = none ∧ n = 0 ∧ cp = 0 ∧ C = 0 ∧ u1 = .slice none 0 0 ∧ u2 = .slice none 0 0) ∨
  ∃ g, ao = some ⟨g, 0, none⟩ ∧ n ≤ cp ∧ cp ≤ 9223372036854775807 ∧ C ≤ n ∧ u2 = .slice (some ⟨g, 0, none⟩) C cp ∧
    (C = cp ∧ u1 = .slice (some ⟨g, 0, none⟩) 0 0 ∨ C < cp ∧ u1 = .slice (some ⟨g, C * 3, none⟩) (n - C) (cp - C))
theorem parts3_ex {w : World} {base : Nat} {ao : Option Addr} {n cp C : Nat} {k : Int} {ms : List (List Int)} {e : TypeId} (h : w.ownsRow base e 3 (.slice ao n cp) n (pv k ms)) (hn : ms.length = n) (hC : C ≤ n) :
    ∃ u1 u2, Parts3 ao n cp C u1 u2 ∧ Src3 w u1 (n - C) (pv k (ms.drop C)) ∧ Src3 w u2 C (pv k (ms.take C)) := by
  subst hn
  obtain ⟨ao', cp', he, hsh⟩ := own_shape h
  injection he with e1 e2 e3
  subst e1 e3
  rcases hsh with ⟨rfl, h0, rfl⟩ | ⟨g, rfl, h1, h2⟩
  · obtain rfl := List.eq_nil_of_length_eq_zero h0
    obtain rfl : C = 0 := by simpa using hC
    exact ⟨_, _, .inl ⟨rfl, rfl, rfl, rfl, rfl, rfl⟩, .inl ⟨rfl, rfl, rfl⟩, .inl ⟨rfl, rfl, rfl⟩⟩
  · have hcell : ∀ j, j < ms.length * 3 → w.cell? ⟨g, j, none⟩ = (pv k ms)[j]? := fun j hj => h.cellAt j hj
    have hml := pv_len k ms
    have s2 : Src3 w (.slice (some ⟨g, 0, none⟩) C cp) C (pv k (ms.take C)) := by
      have hl : (ms.take C).length = C := by simp; omega
      refine .inr ⟨_, _, rfl, by rw [pv_len, hl], fun j u hj => ?_⟩
      rw [pv_take] at hj
      have hjl := (List.getElem?_eq_some_iff.1 hj).1
      rw [List.length_take] at hjl
      rw [List.getElem?_take_of_lt (by omega)] at hj
      rw [Addr.add_lit, Nat.zero_add, hcell j (by omega), hj]
    by_cases hc : C = cp
    · subst hc
      have hn : ms.drop C = [] := List.drop_of_length_le (by omega)
      have e0 : ms.length - C = 0 := by omega
      refine ⟨.slice (some ⟨g, 0, none⟩) 0 0, _, .inr ⟨g, rfl, h1, h2, hC, rfl, .inl ⟨rfl, rfl⟩⟩, ?_, s2⟩
      rw [hn, e0]
      exact .inr ⟨_, _, rfl, rfl, fun j u hj => by simp [pv] at hj⟩
    · refine ⟨.slice (some ⟨g, C * 3, none⟩) (ms.length - C) (cp - C), _, .inr ⟨g, rfl, h1, h2, hC, rfl, .inr ⟨by omega, rfl⟩⟩, ?_, s2⟩
      have hl : (ms.drop C).length = ms.length - C := by simp
      refine .inr ⟨_, _, rfl, by rw [pv_len, hl], fun j u hj => ?_⟩
      rw [pv_drop] at hj
      have hjl := (List.getElem?_eq_some_iff.1 hj).1
      rw [List.length_drop] at hjl
      rw [List.getElem?_drop] at hj
      rw [Addr.add_lit, hcell (C * 3 + j) (by omega), hj]
theorem src_agg (w : World) (k : Int) (c v : Int) (m : List Int) (hc : (m.length : Int) = c) (hv : val k m = v) : Src3 (w.alloc (.cells #[.int .i64 c, .int .i64 k, .int .i64 v] 25)) (.slice (some ⟨w.heap.size, 0, none⟩) 1 1) 1 (pv k [m]) := by
  subst hc hv
  refine .inr ⟨_, _, rfl, by rw [pv_len]; rfl, fun j u hj => ?_⟩
  rw [Addr.add_lit, Nat.zero_add]
  have : (w.alloc (.cells #[.int .i64 m.length, .int .i64 k, .int .i64 (val k m)] 25)).cell? ⟨w.heap.size, j, none⟩ = #[Value.int .i64 m.length, .int .i64 k, .int .i64 (val k m)][j]? := by simp
  rw [this, ← hj]
  simp [pv, pc]
section
variable {P : Program} (w : World)
theorem run_append_src3 (base : Nat) (t ty e : TypeId) (i : TypeInfo) (z : Value) (bytes : Nat) (ht : P.underlying t = some (.slice e)) (hi : P.info? e = some i) (hz : i.zero = some z)
    (hsize : i.size = 3) (hby : i.bytes = bytes) (hzs : z.cells.size = 3)
    (v : Value) (n : Nat) (xs : List Value) (hown : w.ownsRow base e 3 v n xs) (u : Value) (m : Nat) (news : List Value) (hsrc : Src3 w u m news) (h1 : ∀ u ∈ news, u.oneCell' = true)
    (h63 : n + m ≤ maxLen) (hbytes : (n + m) * bytes ≤ 140737488355328) (hbase : base ≤ w.heap.size) :
    ∃ v' w', (Builtin.append_ #[t, t] ty #[v, u]).run P w = .ok v' w' ∧ w'.ownsRow base e 3 v' (n + m) (xs ++ news) ∧ Below base w w' := by
  rcases hsrc with ⟨rfl, rfl, rfl⟩ | ⟨ad, c, rfl, hl, hc⟩
  · exact ⟨v, w, run_append_owned_none (P := P) (w := w) base t ty e i 3 ht hi v n xs hown, by simpa using hown, Below.refl _ _⟩
  · obtain ⟨v', w', hr, h2, h3, _⟩ := run_append_own (P := P) w base t ty e i z 3 bytes ht hi hz hsize hby hzs (by decide) v n xs hown ad m c news hl hc h1 h63 hbytes hbase
    exact ⟨v', w', hr, h2, (Below.refl _ _).grown h3 hbase (fun k hk => (hown.lt k hk).1)⟩
theorem wpList_append_src3 {ops : Array Oper} {rest : List Oper} {o : Oper} {a : Act} {Q : Exit → Act → World → Prop} (hw : Region.wanted o (yielded ops a.tmps) = true) (s x : Operand) (t : TypeId)
    (ho : o.op = .call { callee := .builtin .append, args := #[s, x], argTypes := #[t, t] })
    (base : Nat) (e : TypeId) (i : TypeInfo) (z : Value) (bytes : Nat) (ht : P.underlying t = some (.slice e)) (hi : P.info? e = some i) (hz : i.zero = some z)
    (hsize : i.size = 3) (hby : i.bytes = bytes) (hzs : z.cells.size = 3)
    (v : Value) (n : Nat) (xs : List Value) (hs : a.eval s = v) (hown : w.ownsRow base e 3 v n xs) (u : Value) (m : Nat) (news : List Value) (hx : a.eval x = u) (hsrc : Src3 w u m news) (h1 : ∀ u ∈ news, u.oneCell' = true)
    (h63 : n + m ≤ maxLen) (hbytes : (n + m) * bytes ≤ 140737488355328) (hbase : base ≤ w.heap.size)
    (h : ∀ v' w', w'.ownsRow base e 3 v' (n + m) (xs ++ news) → Below base w w' → wpList P ops Q rest (a.put o.dst v') w') : wpList P ops Q (o :: rest) a w :=
  BigFrame.wpList_want hw fun K hK => by
    obtain ⟨v', w', hr, h2, h3⟩ := run_append_src3 (P := P) w base t o.type e i z bytes ht hi hz hsize hby hzs v n xs hown u m news hsrc h1 h63 hbytes hbase
    unfold Oper.wp execOp
    simp only [ho, resolve, invoke, builtin, Sem.run_bind, Sem.run_pure, Result.andThen_ok, List.map_toArray, List.map_cons, List.map_nil, hs, hx, hr]
    exact hK _ _ (h v' w' h2 h3)
theorem step_append_src3 {ops : Array Oper} {o : Oper} {a : Act} {K : Act → World → Prop} {Q : Exit → Act → World → Prop} {E : Prop} {d : Nat} (hd : o.dst = some d) (hw : Region.wanted o (yielded ops a.tmps) = true) (s x : Operand) (t : TypeId)
    (ho : o.op = .call { callee := .builtin .append, args := #[s, x], argTypes := #[t, t] })
    (base : Nat) (e : TypeId) (i : TypeInfo) (z : Value) (bytes : Nat) (ht : P.underlying t = some (.slice e)) (hi : P.info? e = some i) (hz : i.zero = some z)
    (hsize : i.size = 3) (hby : i.bytes = bytes) (hzs : z.cells.size = 3)
    (v : Value) (n : Nat) (xs : List Value) (hs : a.eval s = v) (hown : w.ownsRow base e 3 v n xs) (u : Value) (m : Nat) (news : List Value) (hx : a.eval x = u) (hsrc : Src3 w u m news) (h1 : ∀ u ∈ news, u.oneCell' = true)
    (h63 : n + m ≤ maxLen) (hbytes : (n + m) * bytes ≤ 140737488355328) (hbase : base ≤ w.heap.size)
    (h : ∀ v' w', w'.ownsRow base e 3 v' (n + m) (xs ++ news) → Below base w w' → K (a.put (some d) v') w') :
    if Region.wanted o (yielded ops a.tmps) = true then Oper.wp P o a w K Q else E := by
  rw [if_pos hw]
  obtain ⟨v', w', hr, h2, h3⟩ := run_append_src3 (P := P) w base t o.type e i z bytes ht hi hz hsize hby hzs v n xs hown u m news hsrc h1 h63 hbytes hbase
  unfold Oper.wp execOp
  simp only [ho, resolve, invoke, builtin, Sem.run_bind, Sem.run_pure, Result.andThen_ok, List.map_toArray, List.map_cons, List.map_nil, hs, hx, hr]
  rw [← hd] at h
  exact h v' w' h2 h3
end
theorem Try.info25 : (Try.prog.info? 25).map (fun i => (i.zero, i.size, i.bytes)) = some (some (.agg #[.int .i64 0, .int .i64 0, .int .i64 0]), 3, 24) := by kernel_rfl
end Go.Proofs.Ytbopojolmmnokaa
