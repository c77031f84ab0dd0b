/- The document's own Panes.Put. -/
import Derived.Test.YtnamjnopicghhaaSrc
import Derived.Test.YtnamjnopicghhaaRefClose
import Derived.Test.YtnamjnopicghhaaRefAdd
import Derived.Test.YtnamjnopicghhaaRefStarts
namespace Go.Proofs.Ytnamjnopicghhaa
open Go.RowKit M
set_option linter.unusedVariables false
set_option linter.unusedSimpArgs false
attribute [local go_sem ↓] Go.wp_at_zero Go.wp_at_succ

namespace M
def curP (s k : Int) (L : List Pn) : Pn := if fnd s k L = true then pAt L (pos s k L) else fresh s k
def beh (s k : Int) (L : List Pn) : List Pn := if fnd s k L = true then L.drop (pos s k L + 1) else L.drop (pos s k L)
theorem upd_split (K s k x : Int) (l : Nat) : ∀ L : List Pn, upd K s k x l L = L.take (pos s k L) ++ tk K x l (curP s k L) :: beh s k L
  | [] => rfl
  | p :: r => by
    unfold upd curP beh pos fnd
    by_cases hb : bef s k p = true
    · have ih := upd_split K s k x l r
      unfold curP beh at ih
      rw [if_pos hb, if_pos hb, if_pos hb, ih, List.take_succ_cons, pAt_cons, List.drop_succ_cons, List.drop_succ_cons]
      rfl
    · rw [if_neg hb, if_neg hb, if_neg hb]
      by_cases ha : isAt s k p = true
      · rw [if_pos ha, if_pos ha, if_pos ha]; rfl
      · rw [if_neg ha, if_neg ha, if_neg ha]; rfl
theorem pos_bef (s k : Int) : ∀ (L : List Pn) (j : Nat), j < pos s k L → bef s k (pAt L j) = true
  | [], j, h => by simp [pos] at h
  | p :: r, j, h => by
    unfold pos at h
    split at h
    · rename_i hb
      cases j with
      | zero => rw [pAt_zero]; exact hb
      | succ j => rw [pAt_cons]; exact pos_bef s k r j (by omega)
    · omega
theorem pos_not (s k : Int) : ∀ (L : List Pn), pos s k L < L.length → bef s k (pAt L (pos s k L)) = false
  | [], h => by simp at h
  | p :: r, h => by
    unfold pos at h ⊢
    split at h
    · rename_i hb
      rw [if_pos hb, pAt_cons]; exact pos_not s k r (by simpa using h)
    · rename_i hb
      rw [if_neg hb, pAt_zero]; simpa using hb
end M
theorem Qb.lt {w : World} {b : Nat} {n sl K : Int} {v : Value} (h : Qb w b n sl K v) : b < w.heap.size := (Array.getElem?_eq_some_iff.1 h).1
theorem Qk.lt {w : World} {b : Nat} {p : Pn} (h : Qk w b p) : b < w.heap.size := (Array.getElem?_eq_some_iff.1 h).1
theorem Qk.keep {w w' : World} {b : Nat} {p : Pn} (h : Qk w b p) (hb : w'.heap[b]? = w.heap[b]?) : Qk w' b p := hb.trans h
theorem Qk.free {w : World} {b : Nat} {p : Pn} (h : Qk w b p) (i : Nat) : w.frozen? ⟨b, i, none⟩ = false := by unfold Qk at h; simp [World.frozen?, h]
theorem Qb.free {w : World} {b : Nat} {n sl K : Int} {v : Value} (h : Qb w b n sl K v) (i : Nat) : w.frozen? ⟨b, i, none⟩ = false := by unfold Qb at h; simp [World.frozen?, h]
theorem qb_new (w : World) (n sl K : Int) (v : Value) : Qb (w.alloc (.cells #[.int .i64 n, .int .i64 sl, .int .i64 K, v] 94)) w.heap.size n sl K v := by
  show (w.heap.push _)[w.heap.size]? = _
  simp
theorem own_alloc_below {w w' : World} {base : Nat} {e : TypeId} {size : Nat} {v : Value} {n : Nat} {xs : List Value} (h : w.ownsRow base e size v n xs) (hb : Below w.heap.size w w') : w'.ownsRow base e size v n xs := by
  obtain ⟨h1, h | ⟨g, cap, cur, rfl, h2, hh, r⟩⟩ := h
  · exact ⟨h1, .inl h⟩
  · have hg : g < w.heap.size := (Array.getElem?_eq_some_iff.1 hh).1
    exact ⟨h1, .inr ⟨g, cap, cur, rfl, h2, (hb.block g hg).trans hh, r⟩⟩
theorem own_chn {w w' : World} {B b : Nat} {e : TypeId} {size : Nat} {v : Value} {n : Nat} {xs : List Value} (h : w.ownsRow B e size v n xs) (hc : Ch b b w w') (hne : ∀ k, v.ownBlock = some k → k ≠ b) : w'.ownsRow B e size v n xs := by
  obtain ⟨h1, h | ⟨g, cap, cur, rfl, h2, hh, r⟩⟩ := h
  · exact ⟨h1, .inl h⟩
  · have hg : g < w.heap.size := (Array.getElem?_eq_some_iff.1 hh).1
    have := hne g rfl
    exact ⟨h1, .inr ⟨g, cap, cur, rfl, h2, (hc.other g hg this this).trans hh, r⟩⟩
theorem own_off {w : World} {B b : Nat} {e T : TypeId} {size : Nat} {v : Value} {n : Nat} {xs : List Value} {cs : Array Value} (h : w.ownsRow B e size v n xs) (hb : w.heap[b]? = some (.cells cs T (0, 0))) (ht : e ≠ T) : ∀ k, v.ownBlock = some k → k ≠ b := by
  intro k hk
  obtain ⟨_, ⟨rfl, _⟩ | ⟨g, cap, cur, rfl, _, hh, _⟩⟩ := h
  · cases hk
  · simp only [Value.ownBlock, Option.some.injEq] at hk
    subst hk
    intro e2
    subst e2
    rw [hh] at hb
    simp at hb
    exact ht hb.2
theorem rstarts_own (t n s : Int) (w : World) :
    Calls Try.prog 73 #[.int .i64 t, .int .i64 n, .int .i64 s] w fun e w' => ∃ u, e = .returned u ∧ w'.ownsRow w.heap.size 3 1 u (starts t n s).length (iv (starts t n s)) ∧ Below w.heap.size w w' := by
  by_cases h : rightB n s = true
  · by_cases h0 : 0 ≤ t ∧ t ≤ 1099511627776
    · refine (rstarts_some t n s w h h0.1 h0.2).mono ?_
      rintro e w' ⟨u, rfl, o, b⟩
      refine ⟨u, rfl, ?_, b⟩
      have e : (sts t n s).length = cnt t n s := seg_len _ _ _
      rw [starts_of h h0.1 h0.2, e]
      exact o
    · refine (rstarts_out t n s w h (by omega)).mono ?_
      rintro e w' ⟨rfl, he⟩
      obtain rfl := he.symm
      refine ⟨_, rfl, ?_, Below.refl _ _⟩
      rw [starts_no' (by unfold okT; exact decide_eq_false h0)]; exact World.ownsRow_nil _ _ _ _
  · have h' : rightB n s = false := by simpa using h
    refine (rstarts_none t n s w h').mono ?_
    rintro e w' ⟨rfl, he⟩
    obtain rfl := he.symm
    refine ⟨_, rfl, ?_, Below.refl _ _⟩
    rw [starts_no h']; exact World.ownsRow_nil _ _ _ _
theorem Qk.tk {w : World} {b : Nat} {p : Pn} (h : Qk w b p) (c v : Int) (l : Nat) : Qk (((w.setCell ⟨b, 2, none⟩ (.int .i64 c)).setCell ⟨b, 3, none⟩ (.int .i64 v)).setCell ⟨b, 4, none⟩ (.int .u64 (l : Int))) b ⟨p.s, p.k, c, v, l⟩ := by
  unfold Qk at *
  simp [World.setCell, Array.getElem?_modify, h]
theorem Qk.set5 {w : World} {b : Nat} {p : Pn} (h : Qk w b p) (q : Pn) : Qk (((((w.setCell ⟨b, 0, none⟩ (.int .i64 q.s)).setCell ⟨b, 1, none⟩ (.int .i64 q.k)).setCell ⟨b, 2, none⟩ (.int .i64 q.c)).setCell ⟨b, 3, none⟩ (.int .i64 q.v)).setCell ⟨b, 4, none⟩ (.int .u64 (q.l : Int))) b q := by
  unfold Qk at *
  simp [World.setCell, Array.getElem?_modify, h]
theorem qcs_drop : ∀ (L : List Pn) (i : Nat), (qcs L).drop (i * 5) = qcs (L.drop i)
  | [], i => by simp [qcs]
  | x :: s, 0 => by simp
  | x :: s, i + 1 => by
    have hc : (qcell x).length = 5 := rfl
    rw [qcs_cons, List.drop_succ_cons, ← qcs_drop s i, List.drop_append, hc, List.drop_of_length_le (by omega), show (i + 1) * 5 - 5 = i * 5 by omega, List.nil_append]
theorem qcs_take : ∀ (L : List Pn) (i : Nat), (qcs L).take (i * 5) = qcs (L.take i)
  | [], i => by simp [qcs]
  | x :: s, 0 => by simp [qcs]
  | x :: s, i + 1 => by
    have hc : (qcell x).length = 5 := rfl
    rw [qcs_cons, List.take_succ_cons, qcs_cons, ← qcs_take s i, List.take_append, hc, List.take_of_length_le (by omega), show (i + 1) * 5 - 5 = i * 5 by omega]
/-- What lies behind the first ones of a list. -/
theorem src_drop {w : World} {B gr M vc c : Nat} {L : List Pn} (h : w.ownsRow B 141 5 (.slice (some ⟨gr, 0, none⟩) M vc) M (qcs L)) (hM : L.length = M) (k : Nat) (hk : k ≤ M) (off : Nat) (hoff : k < M → off = k * 5) (m : Nat) (hm : M - k = m) : SrcN 5 w (.slice (some ⟨gr, off, none⟩) m c) m (qcs (L.drop k)) := by
  refine .inr ⟨_, _, rfl, by rw [qcs_len, List.length_drop]; omega, fun j x hj => ?_⟩
  have hl := (List.getElem?_eq_some_iff.1 hj).1
  rw [qcs_len, List.length_drop] at hl
  rw [← qcs_drop, List.getElem?_drop] at hj
  have := h.cellAt (k * 5 + j) (by omega)
  rw [Addr.add_lit, hoff (by omega), this, hj]
theorem src_take {w : World} {B gr M vc c : Nat} {L : List Pn} (h : w.ownsRow B 141 5 (.slice (some ⟨gr, 0, none⟩) M vc) M (qcs L)) (hM : L.length = M) (k : Nat) (hk : k ≤ M) : SrcN 5 w (.slice (some ⟨gr, 0, none⟩) k c) k (qcs (L.take k)) := by
  refine .inr ⟨_, _, rfl, by rw [qcs_len, List.length_take]; omega, fun j x hj => ?_⟩
  have hl := (List.getElem?_eq_some_iff.1 hj).1
  rw [qcs_len, List.length_take] at hl
  rw [← qcs_take, List.getElem?_take, if_pos (by omega)] at hj
  have := h.cellAt j (by omega)
  rw [Addr.add_lit, Nat.zero_add, this, hj]
theorem curP_c {s k : Int} {L : List Pn} {N : Int} (h : ∀ p ∈ L, 0 ≤ p.c ∧ p.c ≤ N ∧ p.l < 18446744073709551616) (hN : 0 ≤ N) : 0 ≤ (curP s k L).c ∧ (curP s k L).c ≤ N ∧ (curP s k L).l < 18446744073709551616 := by
  unfold curP
  split
  · rename_i hf; exact h _ (pAt_mem L _ (fnd_lt s k L hf))
  · exact ⟨by simp [fresh], by simpa [fresh] using hN, by simp [fresh]⟩
theorem share4 {G : World → Value → Nat → Nat → Prop} {C : Prop} (R : World → Value → Nat → Nat → Prop) (main : (∀ W v t l, R W v t l → G W v t l) → C) (key : ∀ W v t l, R W v t l → G W v t l) : C := main key
theorem wrap64_small {a : Int} (h0 : 0 ≤ a) (h1 : a ≤ 1000000) : wrap64 a = a := by
  unfold wrap64; omega
theorem wrap64_one : wrap64 1 = 1 := wrap64_small (by decide) (by decide)
theorem ch_step {b : Nat} {V W W' : World} (h : Ch b b V W) (hb : Below V.heap.size W W') : Ch b b V W' :=
  ⟨hb.os.trans h.os, hb.tape.trans h.tape, hb.output.trans h.output, Nat.le_trans h.size hb.size, fun g hl hx hy => (hb.block g hl).trans (h.other g hl hx hy)⟩
theorem size_allocQ (w : World) (o : Obj) : (w.alloc o).heap.size = w.heap.size + 1 := by
  show (w.heap.push _).size = _
  exact Array.size_push _
theorem beh_le (s k : Int) (L : List Pn) : (beh s k L).length ≤ L.length := by
  unfold beh
  split <;> rw [List.length_drop] <;> omega
theorem own_emptyQ (w : World) (B g : Nat) (hB : B ≤ w.heap.size) (hg : w.heap.size = g) : (w.alloc (.cells #[] 141)).ownsRow B 141 5 (.slice (some ⟨g, 0, none⟩) 0 0) 0 [] := by
  subst hg
  exact own_base (World.ownsRow_lit w #[] 0 (Nat.le_refl _) (by unfold maxLen; omega) (by simp)) hB
/-- A pane in a block of its own. -/
def Lit1 (w : World) (b : Nat) (p : Pn) : Prop := w.heap[b]? = some (.cells #[.int .i64 p.s, .int .i64 p.k, .int .i64 p.c, .int .i64 p.v, .int .u64 p.l] 141 (0, 0))
theorem Lit1.src {w : World} {b : Nat} {p : Pn} (h : Lit1 w b p) : SrcN 5 w (.slice (some ⟨b, 0, none⟩) 1 1) 1 (qcs [p]) := by
  refine .inr ⟨_, _, rfl, by rw [qcs_len]; rfl, fun j x hj => ?_⟩
  unfold Lit1 at h
  have hc := src_cells h j x
  rw [qcs_single] at hj
  exact hc hj
theorem lit1_new (w : World) (p : Pn) (g : Nat) (hg : w.heap.size = g) : Lit1 (w.alloc (.cells #[.int .i64 p.s, .int .i64 p.k, .int .i64 p.c, .int .i64 p.v, .int .u64 p.l] 141)) g p := by
  subst hg
  show (w.heap.push _)[w.heap.size]? = _
  simp
theorem Lit1.lt {w : World} {b : Nat} {p : Pn} (h : Lit1 w b p) : b < w.heap.size := (Array.getElem?_eq_some_iff.1 h).1
theorem step_append_srcN {P : Program} {w : World} {ops : Array Oper} {o : Oper} {a : Act} {K : Act → World → Prop} {Q : Exit → Act → World → Prop} {E : Prop} {kd : Nat} (hgd : o.guard = none) (hd : o.dst = some kd) (s x : Operand) (t : TypeId)
    (ho : o.op = .call { callee := .builtin .append, args := #[s, x], argTypes := #[t, t] })
    (sz base : Nat) (e : TypeId) (i : TypeInfo) (z : Value) (bytes : Nat) (ht : P.underlying t = some (.slice e)) (hi : P.info? e = some i) (hz : i.zero = some z)
    (hsize : i.size = sz) (hby : i.bytes = bytes) (hzs : z.cells.size = sz) (hsz : 0 < sz)
    (v : Value) (n : Nat) (xs : List Value) (hs : a.eval s = v) (hown : w.ownsRow base e sz v n xs) (u : Value) (m : Nat) (news : List Value) (hx : a.eval x = u) (hsrc : SrcN sz w u m news) (h1 : ∀ u ∈ news, u.oneCell' = true)
    (h63 : n + m ≤ maxLen) (hbytes : (n + m) * bytes ≤ 140737488355328) (hbase : base ≤ w.heap.size)
    (h : ∀ v' w', w'.ownsRow base e sz v' (n + m) (xs ++ news) → Below base w w' → w.grownBy w' v.ownBlock → K (a.put (some kd) v') w') :
    if Region.wanted o (yielded ops a.tmps) = true then Oper.wp P o a w K Q else E := by
  have hw : Region.wanted o (yielded ops a.tmps) = true := by simp [Region.wanted, hgd]
  rw [if_pos hw]
  rw [← hd] at h
  obtain ⟨v', w', hr, h2, h3, h4⟩ := run_append_srcN (P := P) w sz base t o.type e i z bytes ht hi hz hsize hby hzs hsz v n xs hown u m news hsrc h1 h63 hbytes hbase
  unfold Oper.wp execOp
  simp only [ho, resolve, invoke, builtin, Sem.run_bind, Sem.run_pure, Result.andThen_ok, List.map_toArray, List.map_cons, List.map_nil, hs, hx, hr]
  exact h v' w' h2 h3 h4
theorem own_shape {w : World} {B : Nat} {v : Value} {L : List Pn} (h : w.ownsRow B 141 5 v L.length (qcs L)) :
    (v = .slice none 0 0 ∧ L = []) ∨ ∃ gr cap, v = .slice (some ⟨gr, 0, none⟩) L.length cap ∧ L.length ≤ cap ∧ cap ≤ 9223372036854775807 ∧ gr < w.heap.size ∧ (∃ cs, w.heap[gr]? = some (.cells cs 141 (0, 0))) ∧ ∀ j, j < L.length → QwAt w gr (j * 5) (pAt L j) := by
  have h' := h
  obtain ⟨_, h | ⟨g, cap, cur, rfl, hb, hh, hn, hm, hs, ht⟩⟩ := h
  · exact .inl ⟨h.1, List.eq_nil_of_length_eq_zero h.2⟩
  · unfold maxLen at hm
    refine .inr ⟨g, cap, rfl, hn, hm, (Array.getElem?_eq_some_iff.1 hh).1, ⟨_, hh⟩, fun j hj => ?_⟩
    have hc : ∀ r, r < 5 → w.cell? ⟨g, j * 5 + r, none⟩ = (qcell (pAt L j))[r]? := fun r hr => by
      rw [h'.cellAt (j * 5 + r) (by omega), qcs_at L j r hr hj]
    exact ⟨hc 0 (by decide), hc 1 (by decide), hc 2 (by decide), hc 3 (by decide), hc 4 (by decide)⟩
set_option maxHeartbeats 8000000 in
set_option maxRecDepth 100000 in
theorem rput_is (n sl K : Int) (v : Value) (L : List Pn) (et ek ex : Int) (el : Nat) (B : Nat) (w : World) (hv : w.ownsRow B 141 5 v L.length (qcs L)) (hB : B ≤ w.heap.size) (hl : L.length ≤ 100000) (hcn : ∀ p ∈ L, 0 ≤ p.c ∧ p.c ≤ 900 ∧ p.l < 18446744073709551616) (hel : el < 18446744073709551616) :
    Calls Try.prog 60 #[.agg #[.int .i64 n, .int .i64 sl, .int .i64 K, v], evv ⟨et, ek, ex, el⟩] w fun r w' => ∃ u, r = .returned (.agg #[.int .i64 n, .int .i64 sl, .int .i64 K, u]) ∧ w'.ownsRow B 141 5 u (putE n sl K L ⟨et, ek, ex, el⟩).length (qcs (putE n sl K L ⟨et, ek, ex, el⟩)) ∧ Below w.heap.size w w' := by
  obtain ⟨i9, hi9, hy0, hy1, hy2⟩ := info_parts Try.info141
  obtain ⟨ss, hss⟩ : ∃ ss, Hid (starts et n sl = ss) := ⟨_, rfl⟩
  have hsl : ss.length ≤ 8 := by rw [← hss.out]; exact starts_len et n sl
  have hput : Hid (putE n sl K L ⟨et, ek, ex, el⟩ = putS K ek ex el L ss) := by
    have h : putE n sl K L ⟨et, ek, ex, el⟩ = putS K ek ex el L ss := by unfold putE; rw [hss.out]
    exact h
  have hcn' : Hid (∀ p ∈ L, 0 ≤ p.c ∧ p.c ≤ 900 ∧ p.l < 18446744073709551616) := hcn
  clear hcn
  rw [hput.out]
  obtain ⟨va, vc, rfl⟩ : ∃ a c, v = .slice a L.length c := by
    obtain ⟨_, h | ⟨g, cap, cur, rfl, _⟩⟩ := hv
    · rw [h.2, h.1]; exact ⟨_, _, rfl⟩
    · exact ⟨_, _, rfl⟩
  have hv' : Hid (w.ownsRow B 141 5 (.slice va L.length vc) L.length (qcs L)) := hv
  clear hv
  go_enter Try.func60, Try.ntmps60
  dsimp only [evv]
  go_upto_region 1 with fail
  refine world_gen (fun W => Qb W w.heap.size n sl K (.slice va L.length vc) ∧ Evk W (w.heap.size + 1) ⟨et, ek, ex, el⟩ ∧ Qb W (w.heap.size + 1 + 1) 0 0 0 (.slice none 0 0) ∧ Below w.heap.size w W)
    ⟨((qb_new w n sl K _).keep ((below_alloc (w.alloc _) _).block _ (by simp))).keep ((below_alloc ((w.alloc _).alloc _) _).block _ (by simp; omega)), by simpa using (evk_new (w.alloc _) ⟨et, ek, ex, el⟩).below (below_alloc _ _), by simpa using qb_new ((w.alloc _).alloc _) 0 0 0 (.slice none 0 0), ((below_alloc _ _).alloc (by simp) _).alloc (by simp; omega) _⟩ ?_
  rintro W0 ⟨q0', e0', r0', b0⟩
  have q0 : Hid (Qb W0 w.heap.size n sl K (.slice va L.length vc)) := q0'
  have e0 : Hid (Evk W0 (w.heap.size + 1) ⟨et, ek, ex, el⟩) := e0'
  have r0 : Hid (Qb W0 (w.heap.size + 1 + 1) 0 0 0 (.slice none 0 0)) := r0'
  clear q0' e0' r0'
  obtain ⟨g0, hg0⟩ : ∃ g, Hid (w.heap.size = g) := ⟨_, rfl⟩
  obtain ⟨g1, hg1⟩ : ∃ g, Hid (w.heap.size + 1 = g) := ⟨_, rfl⟩
  obtain ⟨g2, hg2⟩ : ∃ g, Hid (w.heap.size + 1 + 1 = g) := ⟨_, rfl⟩
  rw [hg2.out] at r0 ⊢
  rw [hg1.out] at e0 ⊢
  rw [hg0.out] at q0 ⊢
  have n01 : g1 ≠ g0 := by have := hg0.out; have := hg1.out; omega
  have n02 : g2 ≠ g0 := by have := hg0.out; have := hg2.out; omega
  have hg0w : w.heap.size ≤ g0 := Nat.le_of_eq hg0.out
  obtain ⟨c0, c1, c2, c3⟩ := q0.out.c
  obtain ⟨d0, d1, d2, d3⟩ := e0.out.c
  simp only at d0 d1 d2 d3
  go_wp2_with fail
  refine (rstarts_own et n sl _).mono ?_
  rintro e w1 ⟨u, rfl, so, b1⟩
  rw [hss.out] at so
  obtain ⟨ua, uc, rfl⟩ : ∃ a c, u = .slice a ss.length c := by
    obtain ⟨_, h | ⟨g, cap, cur, rfl, _⟩⟩ := so
    · rw [h.2, h.1]; exact ⟨_, _, rfl⟩
    · exact ⟨_, _, rfl⟩
  obtain ⟨m, hm⟩ : ∃ m, Hid (ss.length = m) := ⟨_, rfl⟩
  rw [hm.out] at so hsl ⊢
  have q1 : Hid (Qb w1 g0 n sl K (.slice va L.length vc)) := q0.out.keep (b1.block _ q0.out.lt)
  have e1 : Hid (Evk w1 g1 ⟨et, ek, ex, el⟩) := e0.out.below b1
  have r1 : Hid (Qb w1 g2 0 0 0 (.slice none 0 0)) := r0.out.keep (b1.block _ r0.out.lt)
  have bb1 : Below w.heap.size w w1 := b0.trans (b1.mono b0.size)
  have ov1 : Hid (w1.ownsRow B 141 5 (.slice va L.length vc) L.length (qcs L)) := own_alloc_below hv'.out bb1
  have so' : Hid (w1.ownsRow W0.heap.size 3 1 (.slice ua m uc) m (iv ss)) := so
  clear so q0 e0 r0 b0 b1 c0 c1 c2 c3 d0 d1 d2 d3 hv'
  go_wp2_with fail
  go_loopw [18] (fun i wr => ∃ (j : Nat) (Lj : List Pn) (va : Option Addr) (vc : Nat), j ≤ m ∧ i = .int .i64 j ∧ Hid (Lj = putS K ek ex el L (ss.take j)) ∧ Lj.length ≤ 100000 + j ∧ Hid (∀ p ∈ Lj, 0 ≤ p.c ∧ p.c ≤ 900 + (j : Int) ∧ p.l < 18446744073709551616) ∧ Hid (Qb wr g0 n sl K (.slice va Lj.length vc)) ∧ Hid (Evk wr g1 ⟨et, ek, ex, el⟩) ∧ Hid (Qb wr g2 0 0 0 (.slice none 0 0)) ∧ Hid (wr.ownsRow B 141 5 (.slice va Lj.length vc) Lj.length (qcs Lj)) ∧ Below w.heap.size w wr ∧ Hid (wr.ownsRow W0.heap.size 3 1 (.slice ua m uc) m (iv ss))) (fun i _ => m - (intOf i).toNat)
  case atStart => exact ⟨0, L, va, vc, Nat.zero_le _, rfl, rfl, by omega, (fun p hp => by have := hcn'.out p hp; exact ⟨by omega, by omega, this.2.2⟩), q1, e1, r1, ov1, bb1, so'⟩
  case round =>
    clear q1 e1 r1 ov1 bb1 so'
    obtain ⟨j, Lj, va, vc, hj, rfl, hLj, hlen, hcnt, q1, e1, r1, ov1, bb1, so1⟩ := hrel
    by_cases hlt : j < m
    case neg =>
      obtain rfl : j = m := by omega
      obtain ⟨c0, c1, c2, c3⟩ := q1.out.c
      obtain ⟨d0, d1, d2, d3⟩ := r1.out.c
      have f0 := r1.out.free 0
      have f1 := r1.out.free 1
      have f2 := r1.out.free 2
      have f3 := r1.out.free 3
      go_wp2_with fail
      have z := r1.out.set (n := n) (sl := sl) (K := K) (u := .slice va Lj.length vc)
      obtain ⟨z0, z1, z2, z3⟩ := z.c
      have hLe : Hid (Lj = putS K ek ex el L ss) := by have h := hLj.out; rw [List.take_of_length_le (Nat.le_of_eq hm.out)] at h; exact h
      refine bodyPost_ret (v := .agg #[.int .i64 n, .int .i64 sl, .int .i64 K, .slice va Lj.length vc]) (by simp [results, Try.results60, go_sem, z0, z1, z2, z3]) rfl ⟨_, rfl, ?_, ?_⟩
      · rw [← hLe.out]
        have hne := own_off ov1.out r1.out (by decide)
        exact own_chn ov1.out ((((Ch.refl g2 g2 wr).set (p := ⟨g2, 0, none⟩) (.inl rfl) _).set (p := ⟨g2, 1, none⟩) (.inl rfl) _).set (p := ⟨g2, 2, none⟩) (.inl rfl) _ |>.set (p := ⟨g2, 3, none⟩) (.inl rfl) _) hne
      · have hle : w.heap.size ≤ g2 := by have := hg2.out; omega
        exact (((bb1.setCell (p := ⟨g2, 0, none⟩) hle _).setCell (p := ⟨g2, 1, none⟩) hle _).setCell (p := ⟨g2, 2, none⟩) hle _).setCell (p := ⟨g2, 3, none⟩) hle _
    obtain ⟨gs, hgsu⟩ : ∃ gs, ua = some ⟨gs, 0, none⟩ := by
      obtain ⟨_, h | ⟨g, cap, cur, h1, _⟩⟩ := so1.out
      · have := h.2; omega
      · injection h1 with h1; exact ⟨g, h1⟩
    subst hgsu
    have sc := so1.out.cellAt j (by omega)
    obtain ⟨s, hs⟩ : ∃ s, Hid (ss.getD j 0 = s) := ⟨_, rfl⟩
    have sc1 : wr.cell? ⟨gs, j, none⟩ = some (.int .i64 s) := by
      rw [sc, ← hs.out]
      have hjl : j < ss.length := by rw [hm.out]; exact hlt
      simp [iv, List.getD_eq_getElem?_getD, hjl]
    clear sc
    obtain ⟨P, hP⟩ : ∃ P, Hid (pos s ek Lj = P) := ⟨_, rfl⟩
    have hPle : P ≤ Lj.length := by rw [← hP.out]; exact pos_le s ek Lj
    have hnx : Hid (putS K ek ex el L (ss.take (j + 1)) = upd K s ek ex el Lj) := by
      have h : putS K ek ex el L (ss.take (j + 1)) = upd K s ek ex el Lj := by
        have hjl : j < ss.length := by rw [hm.out]; exact hlt
        rw [hLj.out, List.take_succ_eq_append_getElem hjl]
        unfold putS
        rw [List.foldl_append]
        have e : ss[j] = s := by rw [← hs.out]; simp [List.getD_eq_getElem?_getD, hjl]
        simp [e]
      exact h
    have n0v := own_off ov1.out q1.out (by decide)
    rcases own_shape ov1.out with ⟨hve, hLe⟩ | ⟨gr, vc', hve, hcap1, hcap2, hgrl, ⟨cs, hgrb⟩, hcl0⟩
    · injection hve with hv1 hv2 hv3
      subst hv1 hv3
      subst hLe
      rw [List.length_nil] at q1 ov1
      have hP0 : P = 0 := by simpa using hPle
      subst hP0
      obtain ⟨c0, c1, c2, c3⟩ := q1.out.c
      obtain ⟨d0, d1, d2, d3⟩ := e1.out.c
      simp only at d0 d1 d2 d3
      go_upto_block 2 with fail
      go_cut [7] (fun i wx => i = .int .i64 0 ∧ Below wr.heap.size wr wx)
      case first =>
        go_wp2_with fail
        go_loopw [7] (fun i wx => i = .int .i64 0 ∧ ∃ q, wx = wr.drewN q) (fun _ _ => 0)
        case atStart => exact ⟨rfl, 0, rfl⟩
        case round =>
          obtain ⟨rfl, q, rfl⟩ := hrel
          go_wp2_with fail
          go_quiet (fail)
          go_wp2_with fail
          go_meet
          exact ⟨rfl, below_drewN (below_drewN (Below.refl _ _) _) _⟩
      case rest =>
        obtain ⟨rfl, bx⟩ := hcut
        obtain ⟨X, hXe⟩ : ∃ X, X = wc := ⟨_, rfl⟩
        subst hXe
        have q2 : Hid (Qb X g0 n sl K (.slice none 0 0)) := q1.out.keep (bx.block _ q1.out.lt)
        have e2 : Hid (Evk X g1 ⟨et, ek, ex, el⟩) := e1.out.below bx
        have ov2 : Hid (X.ownsRow B 141 5 (.slice none 0 0) 0 (qcs [])) := own_alloc_below ov1.out bx
        have hbx := bx.size
        clear c0 c1 c2 c3 d0 d1 d2 d3
        obtain ⟨d0, d1, d2, d3⟩ := e2.out.c
        simp only at d0 d1 d2 d3
        go_upto_region 9 with fail
        refine world_gen (fun Y => Hid (Qk Y X.heap.size (fresh s ek)) ∧ Below X.heap.size X Y) ⟨qk_new X (fresh s ek), below_alloc _ _⟩ ?_
        rintro Y ⟨x3, bY⟩
        obtain ⟨gx, hgx⟩ : ∃ g, Hid (X.heap.size = g) := ⟨_, rfl⟩
        rw [hgx.out] at x3 bY ⊢
        have hgxY : gx < Y.heap.size := x3.out.lt
        have bY' : Below X.heap.size X Y := hgx.out ▸ bY
        have hXg : X.heap.size ≤ gx := Nat.le_of_eq hgx.out
        have hXY := bY'.size
        have q3 : Hid (Qb Y g0 n sl K (.slice none 0 0)) := q2.out.keep (bY'.block _ q2.out.lt)
        have e3 : Hid (Evk Y g1 ⟨et, ek, ex, el⟩) := e2.out.below bY'
        have ov3 : Hid (Y.ownsRow B 141 5 (.slice none 0 0) 0 (qcs [])) := own_alloc_below ov2.out bY'
        clear d0 d1 d2 d3
        obtain ⟨c0, c1, c2, c3⟩ := q3.out.c
        obtain ⟨d0, d1, d2, d3⟩ := e3.out.c
        simp only at d0 d1 d2 d3
        obtain ⟨F, hF⟩ : ∃ F, Hid (fnd s ek [] = F) := ⟨_, rfl⟩
        go_cut [89] (fun t wx => t = .bool F ∧ Below Y.heap.size Y wx)
        case first =>
          have hFf : F = false := by rw [← hF.out]; rfl
          go_wp2_with fail
          go_quiet (fail)
          go_wp2_with fail
          go_meet
          exact ⟨by rw [hFf], below_drewN (Below.refl _ _) _⟩
        case rest =>
          obtain ⟨rfl, bz⟩ := hcut
          obtain ⟨Z, hZe⟩ : ∃ Z, Z = wc := ⟨_, rfl⟩
          subst hZe
          have x4 : Hid (Qk Z gx (fresh s ek)) := x3.out.keep (bz.block _ hgxY)
          have q4 : Hid (Qb Z g0 n sl K (.slice none 0 0)) := q3.out.keep (bz.block _ q3.out.lt)
          have e4 : Hid (Evk Z g1 ⟨et, ek, ex, el⟩) := e3.out.below bz
          have ov4 : Hid (Z.ownsRow B 141 5 (.slice none 0 0) 0 (qcs [])) := own_alloc_below ov3.out bz
          have bXZ : Below X.heap.size X Z := bY'.trans (bz.mono bY'.size)
          have hgxZ : gx < Z.heap.size := x4.out.lt
          clear c0 c1 c2 c3 d0 d1 d2 d3
          obtain ⟨c0, c1, c2, c3⟩ := q4.out.c
          go_upto_if 89 with fail
          go_cut [9] (fun r wx => Hid (wx.ownsRow Z.heap.size 141 5 r (beh s ek []).length (qcs (beh s ek []))) ∧ Hid (Qk wx gx (curP s ek [])) ∧ Below X.heap.size X wx)
          case first =>
            have hFf : F = false := by rw [← hF.out]; rfl
            subst hFf
            go_wp2_with (at_builtin; refine wpList_append_srcN _ (by rfl) _ _ 92 rfl 5 Z.heap.size 141 i9 rzero 40 Try.underlying92 hi9 hy0 hy1 hy2 rfl (by decide) (.slice none 0 0) 0 [] rfl (World.ownsRow_nil _ _ _ _) (.slice none 0 0) 0 (qcs ([] : List Pn)) rfl (.inl ⟨rfl, rfl, rfl⟩) (qcs_one _) (by unfold maxLen; omega) (by omega) (Nat.le_refl _) ?_; intro r' W5 o5 b5)
            go_meet
            have o6 : W5.ownsRow Z.heap.size 141 5 r' (beh s ek []).length (qcs (beh s ek [])) := by simpa [beh, fnd] using o5
            have x6 : Qk W5 gx (curP s ek []) := by simpa [curP, fnd] using x4.out.keep (b5.block _ hgxZ)
            exact ⟨o6, x6, bXZ.trans (b5.mono bXZ.size)⟩
          case rest =>
            obtain ⟨rr5, x5, bX5⟩ := hcut
            obtain ⟨V, hVe⟩ : ∃ V, V = wc := ⟨_, rfl⟩
            subst hVe
            obtain ⟨ra, rl, rc, hre⟩ : ∃ a l c, u9 = .slice a l c := by
              obtain ⟨_, h | ⟨g, cap, cur, h1, _⟩⟩ := rr5.out
              · exact ⟨_, _, _, h.1⟩
              · exact ⟨_, _, _, h1⟩
            subst hre
            have hgxV : gx < V.heap.size := x5.out.lt
            obtain ⟨⟨zs, zk, zc, zv, zl⟩, hcu⟩ : ∃ p, Hid (curP s ek [] = p) := ⟨_, rfl⟩
            have hcc := curP_c (s := s) (k := ek) hcnt.out (by omega)
            rw [hcu.out] at x5 hcc
            obtain ⟨hc0, hc1, hc2⟩ := hcc
            simp only at hc0 hc1 hc2
            obtain ⟨v', hv'⟩ : ∃ v', Hid (jv K zc zv (inp K ex) = v') := ⟨_, rfl⟩
            have hor : bits BinOp.or IntKind.u64 (zl : Int) (el : Int) = ((zl ||| el : Nat) : Int) := u64_or_nat zl el hc2 hel
            obtain ⟨zl', hzl⟩ : ∃ z, zl ||| el = z := ⟨_, rfl⟩
            rw [hzl] at hor
            clear c0 c1 c2 c3
            go_upto_region 13 with fail
            go_cut [8] (fun t wx => t = .pointer (some ⟨gx, 0, none⟩) ∧ Hid (Qk wx gx ⟨zs, zk, zc + 1, v', zl'⟩) ∧ Hid (wx.ownsRow Z.heap.size 141 5 (.slice ra rl rc) (beh s ek []).length (qcs (beh s ek []))) ∧ Below X.heap.size X wx)
            case first =>
              refine wp_region_held_drew (S := fun w' => Below X.heap.size X w') (by kernel_rfl) bX5.drew (fun hHeld => ?_)
              obtain ⟨V1, hV1⟩ : ∃ V1, V1 = V.drew := ⟨_, rfl⟩
              have x6 : Qk V1 gx ⟨zs, zk, zc, zv, zl⟩ := by rw [hV1]; exact x5.out
              have rr6 : V1.ownsRow Z.heap.size 141 5 (.slice ra rl rc) (beh s ek []).length (qcs (beh s ek [])) := by rw [hV1]; exact rr5.out
              rw [← hV1] at hHeld ⊢
              have hB1 := hHeld
              clear hV1
              refine take_at (i := 0) (v := .pointer (some ⟨gx, 2, none⟩)) rfl rfl (by kernel_rfl) (by kernel_rfl) (by kernel_rfl) (fun _ _ _ h => h) (Or.inl ⟨by rfl, fun X _ => by go_simp⟩) hHeld ?_
              try simp only [Act.put, List.setIfInBounds_toArray, List.set_cons_zero, List.set_cons_succ]
              refine take_at (i := 2) (v := .pointer (some ⟨g0, 2, none⟩)) rfl rfl (by kernel_rfl) (by kernel_rfl) (by kernel_rfl) (fun _ _ _ h => h) (Or.inl ⟨by rfl, fun X _ => by go_simp⟩) hHeld ?_
              try simp only [Act.put, List.setIfInBounds_toArray, List.set_cons_zero, List.set_cons_succ]
              refine take_at (i := 3) (v := .int .i64 K) rfl rfl (by kernel_rfl) (by kernel_rfl) (by kernel_rfl) (fun _ _ _ h => h) (Or.inl ⟨by rfl, fun X hX => by obtain ⟨k0, k1, k2, k3⟩ := (q2.out.keep (hX.block _ q2.out.lt)).c; go_simp⟩) hHeld ?_
              try simp only [Act.put, List.setIfInBounds_toArray, List.set_cons_zero, List.set_cons_succ]
              refine take_at (i := 4) (v := .pointer (some ⟨g1, 2, none⟩)) rfl rfl (by kernel_rfl) (by kernel_rfl) (by kernel_rfl) (fun _ _ _ h => h) (Or.inl ⟨by rfl, fun X _ => by go_simp⟩) hHeld ?_
              try simp only [Act.put, List.setIfInBounds_toArray, List.set_cons_zero, List.set_cons_succ]
              refine take_at (i := 5) (v := .int .i64 ex) rfl rfl (by kernel_rfl) (by kernel_rfl) (by kernel_rfl) (fun _ _ _ h => h) (Or.inl ⟨by rfl, fun X hX => by obtain ⟨k0, k1, k2, k3⟩ := (e2.out.below hX).c; simp only at k0 k1 k2 k3; go_simp⟩) hHeld ?_
              try simp only [Act.put, List.setIfInBounds_toArray, List.set_cons_zero, List.set_cons_succ]
              refine take_at (i := 7) (v := .pointer (some ⟨gx, 4, none⟩)) rfl rfl (by kernel_rfl) (by kernel_rfl) (by kernel_rfl) (fun _ _ _ h => h) (Or.inl ⟨by rfl, fun X _ => by go_simp⟩) hHeld ?_
              try simp only [Act.put, List.setIfInBounds_toArray, List.set_cons_zero, List.set_cons_succ]
              refine take_at (i := 9) (v := .pointer (some ⟨g1, 3, none⟩)) rfl rfl (by kernel_rfl) (by kernel_rfl) (by kernel_rfl) (fun _ _ _ h => h) (Or.inl ⟨by rfl, fun X _ => by go_simp⟩) hHeld ?_
              try simp only [Act.put, List.setIfInBounds_toArray, List.set_cons_zero, List.set_cons_succ]
              refine take_at (i := 10) (v := .int .u64 (el : Int)) rfl rfl (by kernel_rfl) (by kernel_rfl) (by kernel_rfl) (fun _ _ _ h => h) (Or.inl ⟨by rfl, fun X hX => by obtain ⟨k0, k1, k2, k3⟩ := (e2.out.below hX).c; simp only at k0 k1 k2 k3; go_simp⟩) hHeld ?_
              try simp only [Act.put, List.setIfInBounds_toArray, List.set_cons_zero, List.set_cons_succ]
              obtain ⟨w0, w1', w2, w3, w4⟩ := x6.c
              simp only at w0 w1' w2 w3 w4
              refine wpAnyH_ready (rs := [1, 8]) (by kernel_rfl) (by simp) ?_
              refine (AllReadyH.cons rfl (fun K' hK => ?_) (AllReadyH.cons rfl (fun K' hK => ?_) AllReadyH.nil))
              · rw [if_pos (by rfl)]
                go_simp
                refine hK.out _ _ (hHeld) (fun hHeld => ?_)
                clear hK K'
                try simp only [Act.put, List.setIfInBounds_toArray, List.set_cons_zero, List.set_cons_succ]
                refine wpAnyH_ready (rs := [6, 8]) (by kernel_rfl) (by simp) ?_
                refine (AllReadyH.cons rfl (fun K' hK => ?_) (AllReadyH.cons rfl (fun K' hK => ?_) AllReadyH.nil))
                · rw [if_pos (by rfl)]
                  go_wp2_with fail
                  refine (radd_any zc K zv ex v' _ hv'.out hc0 (by omega)).mono ?_
                  rintro e V6 ⟨rfl, b6⟩
                  go_wp2_with fail
                  have hB6 := hB1.trans (b6.mono hB1.size)
                  have x7 := x6.keep (b6.block _ x6.lt)
                  have rr7 := own_alloc_below rr6 b6
                  clear w0 w1' w2 w3 w4
                  obtain ⟨w0, w1', w2, w3, w4⟩ := x7.c
                  simp only at w0 w1' w2 w3 w4
                  refine hK.out _ _ (hB6) (fun hHeld => ?_)
                  clear hK K'
                  try simp only [Act.put, List.setIfInBounds_toArray, List.set_cons_zero, List.set_cons_succ]
                  refine wpAnyH_ready (rs := [8]) (by kernel_rfl) (by simp) ?_
                  refine (AllReadyH.cons rfl (fun K' hK => ?_) AllReadyH.nil)
                  rw [if_pos (by rfl)]
                  go_simp
                  refine hK.out _ _ (hHeld) (fun hHeld => ?_)
                  clear hK K'
                  try simp only [Act.put, List.setIfInBounds_toArray, List.set_cons_zero, List.set_cons_succ]
                  refine take_at (i := 11) (v := .int .u64 (zl' : Int)) rfl rfl (by kernel_rfl) (by kernel_rfl) (by kernel_rfl) (fun _ _ _ h => h) (Or.inl ⟨by rfl, fun X _ => by go_simp⟩) hHeld ?_
                  try simp only [Act.put, List.setIfInBounds_toArray, List.set_cons_zero, List.set_cons_succ]
                  refine take_at (i := 12) (v := .pointer (some ⟨gx, 2, none⟩)) rfl rfl (by kernel_rfl) (by kernel_rfl) (by kernel_rfl) (fun _ _ _ h => h) (Or.inl ⟨by rfl, fun X _ => by go_simp⟩) hHeld ?_
                  try simp only [Act.put, List.setIfInBounds_toArray, List.set_cons_zero, List.set_cons_succ]
                  have f2 := x7.free 2
                  have f3 := x7.free 3
                  have f4 := x7.free 4
                  refine wpAnyH_ready (rs := [13]) (by kernel_rfl) (by simp) ?_
                  refine (AllReadyH.cons rfl (fun K' hK => ?_) AllReadyH.nil)
                  rw [if_pos (by rfl)]
                  go_simp
                  refine hK.out _ _ ((hB6.setCell (p := ⟨gx, 2, none⟩) hXg _).setCell (p := ⟨gx, 3, none⟩) hXg _) (fun hHeld => ?_)
                  clear hK K'
                  try simp only [Act.put, List.setIfInBounds_toArray, List.set_cons_zero, List.set_cons_succ]
                  refine take_at (i := 14) (v := .pointer (some ⟨gx, 4, none⟩)) rfl rfl (by kernel_rfl) (by kernel_rfl) (by kernel_rfl) (fun _ _ _ h => h) (Or.inl ⟨by rfl, fun X _ => by go_simp⟩) hHeld ?_
                  try simp only [Act.put, List.setIfInBounds_toArray, List.set_cons_zero, List.set_cons_succ]
                  refine wpAnyH_ready (rs := [15]) (by kernel_rfl) (by simp) ?_
                  refine (AllReadyH.cons rfl (fun K' hK => ?_) AllReadyH.nil)
                  rw [if_pos (by rfl)]
                  go_simp
                  refine hK.out _ _ (((hB6.setCell (p := ⟨gx, 2, none⟩) hXg _).setCell (p := ⟨gx, 3, none⟩) hXg _).setCell (p := ⟨gx, 4, none⟩) hXg _) (fun hHeld => ?_)
                  clear hK K'
                  try simp only [Act.put, List.setIfInBounds_toArray, List.set_cons_zero, List.set_cons_succ]
                  refine wpAnyH_done (by kernel_rfl) ?_ _
                  go_wp2_with fail
                  go_meet
                  exact ⟨rfl, x7.tk _ _ _, own_set (own_set (own_set rr7 (a := ⟨gx, 2, none⟩) (show gx < Z.heap.size from hgxZ) _) (a := ⟨gx, 3, none⟩) (show gx < Z.heap.size from hgxZ) _) (a := ⟨gx, 4, none⟩) (show gx < Z.heap.size from hgxZ) _, hHeld⟩
                · rw [if_pos (by rfl)]
                  go_simp
                  refine hK.out _ _ (hHeld) (fun hHeld => ?_)
                  clear hK K'
                  try simp only [Act.put, List.setIfInBounds_toArray, List.set_cons_zero, List.set_cons_succ]
                  refine take_at (i := 11) (v := .int .u64 (zl' : Int)) rfl rfl (by kernel_rfl) (by kernel_rfl) (by kernel_rfl) (fun _ _ _ h => h) (Or.inl ⟨by rfl, fun X _ => by go_simp⟩) hHeld ?_
                  try simp only [Act.put, List.setIfInBounds_toArray, List.set_cons_zero, List.set_cons_succ]
                  refine wpAnyH_ready (rs := [6]) (by kernel_rfl) (by simp) ?_
                  refine (AllReadyH.cons rfl (fun K' hK => ?_) AllReadyH.nil)
                  rw [if_pos (by rfl)]
                  go_wp2_with fail
                  refine (radd_any zc K zv ex v' _ hv'.out hc0 (by omega)).mono ?_
                  rintro e V6 ⟨rfl, b6⟩
                  go_wp2_with fail
                  have hB6 := hB1.trans (b6.mono hB1.size)
                  have x7 := x6.keep (b6.block _ x6.lt)
                  have rr7 := own_alloc_below rr6 b6
                  clear w0 w1' w2 w3 w4
                  obtain ⟨w0, w1', w2, w3, w4⟩ := x7.c
                  simp only at w0 w1' w2 w3 w4
                  refine hK.out _ _ (hB6) (fun hHeld => ?_)
                  clear hK K'
                  try simp only [Act.put, List.setIfInBounds_toArray, List.set_cons_zero, List.set_cons_succ]
                  refine take_at (i := 12) (v := .pointer (some ⟨gx, 2, none⟩)) rfl rfl (by kernel_rfl) (by kernel_rfl) (by kernel_rfl) (fun _ _ _ h => h) (Or.inl ⟨by rfl, fun X _ => by go_simp⟩) hHeld ?_
                  try simp only [Act.put, List.setIfInBounds_toArray, List.set_cons_zero, List.set_cons_succ]
                  have f2 := x7.free 2
                  have f3 := x7.free 3
                  have f4 := x7.free 4
                  refine wpAnyH_ready (rs := [13]) (by kernel_rfl) (by simp) ?_
                  refine (AllReadyH.cons rfl (fun K' hK => ?_) AllReadyH.nil)
                  rw [if_pos (by rfl)]
                  go_simp
                  refine hK.out _ _ ((hB6.setCell (p := ⟨gx, 2, none⟩) hXg _).setCell (p := ⟨gx, 3, none⟩) hXg _) (fun hHeld => ?_)
                  clear hK K'
                  try simp only [Act.put, List.setIfInBounds_toArray, List.set_cons_zero, List.set_cons_succ]
                  refine take_at (i := 14) (v := .pointer (some ⟨gx, 4, none⟩)) rfl rfl (by kernel_rfl) (by kernel_rfl) (by kernel_rfl) (fun _ _ _ h => h) (Or.inl ⟨by rfl, fun X _ => by go_simp⟩) hHeld ?_
                  try simp only [Act.put, List.setIfInBounds_toArray, List.set_cons_zero, List.set_cons_succ]
                  refine wpAnyH_ready (rs := [15]) (by kernel_rfl) (by simp) ?_
                  refine (AllReadyH.cons rfl (fun K' hK => ?_) AllReadyH.nil)
                  rw [if_pos (by rfl)]
                  go_simp
                  refine hK.out _ _ (((hB6.setCell (p := ⟨gx, 2, none⟩) hXg _).setCell (p := ⟨gx, 3, none⟩) hXg _).setCell (p := ⟨gx, 4, none⟩) hXg _) (fun hHeld => ?_)
                  clear hK K'
                  try simp only [Act.put, List.setIfInBounds_toArray, List.set_cons_zero, List.set_cons_succ]
                  refine wpAnyH_done (by kernel_rfl) ?_ _
                  go_wp2_with fail
                  go_meet
                  exact ⟨rfl, x7.tk _ _ _, own_set (own_set (own_set rr7 (a := ⟨gx, 2, none⟩) (show gx < Z.heap.size from hgxZ) _) (a := ⟨gx, 3, none⟩) (show gx < Z.heap.size from hgxZ) _) (a := ⟨gx, 4, none⟩) (show gx < Z.heap.size from hgxZ) _, hHeld⟩
              · rw [if_pos (by rfl)]
                go_simp
                refine hK.out _ _ (hHeld) (fun hHeld => ?_)
                clear hK K'
                try simp only [Act.put, List.setIfInBounds_toArray, List.set_cons_zero, List.set_cons_succ]
                refine take_at (i := 11) (v := .int .u64 (zl' : Int)) rfl rfl (by kernel_rfl) (by kernel_rfl) (by kernel_rfl) (fun _ _ _ h => h) (Or.inl ⟨by rfl, fun X _ => by go_simp⟩) hHeld ?_
                try simp only [Act.put, List.setIfInBounds_toArray, List.set_cons_zero, List.set_cons_succ]
                refine wpAnyH_ready (rs := [1]) (by kernel_rfl) (by simp) ?_
                refine (AllReadyH.cons rfl (fun K' hK => ?_) AllReadyH.nil)
                rw [if_pos (by rfl)]
                go_simp
                refine hK.out _ _ (hHeld) (fun hHeld => ?_)
                clear hK K'
                try simp only [Act.put, List.setIfInBounds_toArray, List.set_cons_zero, List.set_cons_succ]
                refine wpAnyH_ready (rs := [6]) (by kernel_rfl) (by simp) ?_
                refine (AllReadyH.cons rfl (fun K' hK => ?_) AllReadyH.nil)
                rw [if_pos (by rfl)]
                go_wp2_with fail
                refine (radd_any zc K zv ex v' _ hv'.out hc0 (by omega)).mono ?_
                rintro e V6 ⟨rfl, b6⟩
                go_wp2_with fail
                have hB6 := hB1.trans (b6.mono hB1.size)
                have x7 := x6.keep (b6.block _ x6.lt)
                have rr7 := own_alloc_below rr6 b6
                clear w0 w1' w2 w3 w4
                obtain ⟨w0, w1', w2, w3, w4⟩ := x7.c
                simp only at w0 w1' w2 w3 w4
                refine hK.out _ _ (hB6) (fun hHeld => ?_)
                clear hK K'
                try simp only [Act.put, List.setIfInBounds_toArray, List.set_cons_zero, List.set_cons_succ]
                refine take_at (i := 12) (v := .pointer (some ⟨gx, 2, none⟩)) rfl rfl (by kernel_rfl) (by kernel_rfl) (by kernel_rfl) (fun _ _ _ h => h) (Or.inl ⟨by rfl, fun X _ => by go_simp⟩) hHeld ?_
                try simp only [Act.put, List.setIfInBounds_toArray, List.set_cons_zero, List.set_cons_succ]
                have f2 := x7.free 2
                have f3 := x7.free 3
                have f4 := x7.free 4
                refine wpAnyH_ready (rs := [13]) (by kernel_rfl) (by simp) ?_
                refine (AllReadyH.cons rfl (fun K' hK => ?_) AllReadyH.nil)
                rw [if_pos (by rfl)]
                go_simp
                refine hK.out _ _ ((hB6.setCell (p := ⟨gx, 2, none⟩) hXg _).setCell (p := ⟨gx, 3, none⟩) hXg _) (fun hHeld => ?_)
                clear hK K'
                try simp only [Act.put, List.setIfInBounds_toArray, List.set_cons_zero, List.set_cons_succ]
                refine take_at (i := 14) (v := .pointer (some ⟨gx, 4, none⟩)) rfl rfl (by kernel_rfl) (by kernel_rfl) (by kernel_rfl) (fun _ _ _ h => h) (Or.inl ⟨by rfl, fun X _ => by go_simp⟩) hHeld ?_
                try simp only [Act.put, List.setIfInBounds_toArray, List.set_cons_zero, List.set_cons_succ]
                refine wpAnyH_ready (rs := [15]) (by kernel_rfl) (by simp) ?_
                refine (AllReadyH.cons rfl (fun K' hK => ?_) AllReadyH.nil)
                rw [if_pos (by rfl)]
                go_simp
                refine hK.out _ _ (((hB6.setCell (p := ⟨gx, 2, none⟩) hXg _).setCell (p := ⟨gx, 3, none⟩) hXg _).setCell (p := ⟨gx, 4, none⟩) hXg _) (fun hHeld => ?_)
                clear hK K'
                try simp only [Act.put, List.setIfInBounds_toArray, List.set_cons_zero, List.set_cons_succ]
                refine wpAnyH_done (by kernel_rfl) ?_ _
                go_wp2_with fail
                go_meet
                exact ⟨rfl, x7.tk _ _ _, own_set (own_set (own_set rr7 (a := ⟨gx, 2, none⟩) (show gx < Z.heap.size from hgxZ) _) (a := ⟨gx, 3, none⟩) (show gx < Z.heap.size from hgxZ) _) (a := ⟨gx, 4, none⟩) (show gx < Z.heap.size from hgxZ) _, hHeld⟩
            case rest =>
              obtain ⟨rfl, x6, rr6, bX6⟩ := hcut
              obtain ⟨T, hTe⟩ : ∃ T, T = wc := ⟨_, rfl⟩
              subst hTe
              clear x5 rr5 bX5
              have q6 : Hid (Qb T g0 n sl K (.slice none 0 0)) := q2.out.keep (bX6.block _ q2.out.lt)
              have ov6 : Hid (T.ownsRow B 141 5 (.slice none 0 0) 0 (qcs [])) := own_alloc_below ov2.out bX6
              have hg0X : g0 < X.heap.size := q2.out.lt
              have nR : ∀ k, (Value.slice ra rl rc).ownBlock = some k → k ≠ g0 := own_off rr6.out q6.out (by decide)
              have nV := own_off ov6.out q6.out (by decide)
              have hgxT : gx < T.heap.size := x6.out.lt
              have hXT := bX6.size
              have e6 : Hid (Evk T g1 ⟨et, ek, ex, el⟩) := e2.out.below bX6
              have r6 : Hid (Qb T g2 0 0 0 (.slice none 0 0)) := r1.out.keep ((bX6.block _ (Nat.lt_of_lt_of_le r1.out.lt hbx)).trans (bx.block _ r1.out.lt))
              have so6 : Hid (T.ownsRow W0.heap.size 3 1 (.slice (some ⟨gs, 0, none⟩) m uc) m (iv ss)) := own_alloc_below (own_alloc_below so1.out bx) bX6
              have nS := own_off so6.out q6.out (by decide)
              have bbT : Below w.heap.size w T := (bb1.trans (bx.mono bb1.size)).trans (bX6.mono (Nat.le_trans bb1.size hbx))
              have hBT : B ≤ T.heap.size := Nat.le_trans hB bbT.size
              have hgxg : gx ≠ g0 := by omega
              have hupd : Hid (upd K s ek ex el [] = [].take 0 ++ [⟨zs, zk, zc + 1, v', zl'⟩] ++ beh s ek []) := by
                have h : upd K s ek ex el [] = [].take 0 ++ [⟨zs, zk, zc + 1, v', zl'⟩] ++ beh s ek [] := by
                  rw [upd_split, hcu.out, show pos s ek ([] : List Pn) = 0 from rfl]
                  have e : tk K ex el ⟨zs, zk, zc, zv, zl⟩ = ⟨zs, zk, zc + 1, v', zl'⟩ := by
                    unfold tk
                    simp only [hv'.out, hzl, Pn.mk.injEq, and_true, true_and]
                    exact wrap64_small (by omega) (by omega)
                  rw [e]; simp
                exact h
              have hcnt2 : Hid (∀ p ∈ upd K s ek ex el [], 0 ≤ p.c ∧ p.c ≤ 900 + ((j + 1 : Nat) : Int) ∧ p.l < 18446744073709551616) := by
                intro p hp
                rcases mem_upd K s ek ex el [] p hp with h | h | ⟨q, hq, h⟩
                · rw [h]; exact ⟨by simp [tk, fresh, wrap64_one], by simp [tk, fresh, wrap64_one]; omega, by simpa [tk, fresh] using hel⟩
                · have := hcnt.out p h; exact ⟨by omega, by omega, this.2.2⟩
                · have h2 := hcnt.out q hq
                  rw [h]
                  have hw : wrap64 (q.c + 1) = q.c + 1 := wrap64_small (by omega) (by omega)
                  refine ⟨?_, ?_, or_lt h2.2.2 hel⟩
                  · show 0 ≤ wrap64 (q.c + 1)
                    rw [hw]; omega
                  · show wrap64 (q.c + 1) ≤ _
                    rw [hw]; omega
              have hlen2 := upd_len K s ek ex el []
              have hbl := beh_le s ek []
              have hL0 : ([] : List Pn).length = 0 := rfl
              go_upto_region 14 with fail
              refine wp_region_held_drew (S := fun w' => Ch g0 g0 T w') (by kernel_rfl) (Ch.refl _ _ _).drew (fun hHeld => ?_)
              have hb0 : Below T.heap.size T T.drew := (Below.refl _ _).drew
              obtain ⟨V1, hV1⟩ : ∃ V1, V1 = T.drew := ⟨_, rfl⟩
              rw [← hV1] at hHeld hb0 ⊢
              clear hV1
              refine take_at (i := 1) (v := .pointer (some ⟨g0, 3, none⟩)) rfl rfl (by kernel_rfl) (by kernel_rfl) (by kernel_rfl) (fun _ _ _ h => h) (Or.inl ⟨by rfl, fun X _ => by go_simp⟩) hHeld ?_
              try simp only [Act.put, List.setIfInBounds_toArray, List.set_cons_zero, List.set_cons_succ]
              refine take_at (i := 3) (v := .int .i64 0) rfl rfl (by kernel_rfl) (by kernel_rfl) (by kernel_rfl) (fun _ _ _ h => h) (Or.inl ⟨by rfl, fun X _ => by go_simp⟩) hHeld ?_
              try simp only [Act.put, List.setIfInBounds_toArray, List.set_cons_zero, List.set_cons_succ]
              refine take_at (i := 6) (v := .agg #[.int .i64 zs, .int .i64 zk, .int .i64 (zc + 1), .int .i64 v', .int .u64 (zl' : Int)]) rfl rfl (by kernel_rfl) (by kernel_rfl) (by kernel_rfl) (fun _ _ _ h => h) (Or.inl ⟨by rfl, fun X hX => by obtain ⟨k0, k1, k2, k3, k4⟩ := (x6.out.keep (hX.other gx hgxT hgxg hgxg)).c; simp only at k0 k1 k2 k3 k4; go_simp⟩) hHeld ?_
              try simp only [Act.put, List.setIfInBounds_toArray, List.set_cons_zero, List.set_cons_succ]
              refine take_at (i := 9) (v := .slice ra rl rc) rfl rfl (by kernel_rfl) (by kernel_rfl) (by kernel_rfl) (fun _ _ _ h => h) (Or.inl ⟨by rfl, fun X _ => by go_simp⟩) hHeld ?_
              try simp only [Act.put, List.setIfInBounds_toArray, List.set_cons_zero, List.set_cons_succ]
              apply share4 (R := fun Wz vz tz lz => Below T.heap.size T Wz ∧ Wz.ownsRow T.heap.size 141 5 vz (0 + 0) ([] ++ qcs ([] : List Pn)) ∧ Lit1 Wz lz ⟨zs, zk, zc + 1, v', zl'⟩)
              case main =>
                intro key
                refine wpAnyH_ready (rs := [0, 2, 7]) (by kernel_rfl) (by simp) ?_
                refine (AllReadyH.cons rfl (fun K' hK => ?_) (AllReadyH.cons rfl (fun K' hK => ?_) (AllReadyH.cons rfl (fun K' hK => ?_) AllReadyH.nil)))
                · rw [if_pos (by rfl)]
                  go_simp
                  have hb1 : Below T.heap.size T (V1.alloc (.cells #[] 141)) := hb0.alloc hb0.size _
                  have ow1 := own_emptyQ V1 T.heap.size V1.heap.size hb0.size rfl
                  refine hK.out _ _ (Ch.ofBelow hb1) (fun hHeld => ?_)
                  clear hK K'
                  try simp only [Act.put, List.setIfInBounds_toArray, List.set_cons_zero, List.set_cons_succ]
                  refine wpAnyH_ready (rs := [2, 7]) (by kernel_rfl) (by simp) ?_
                  refine (AllReadyH.cons rfl (fun K' hK => ?_) (AllReadyH.cons rfl (fun K' hK => ?_) AllReadyH.nil))
                  · rw [if_pos (by rfl)]
                    obtain ⟨k0, k1, k2, k3⟩ := (q6.out.keep (hb1.block _ (Nat.lt_of_lt_of_le hg0X hXT))).c
                    go_simp
                    clear k0 k1 k2 k3
                    refine hK.out _ _ (hHeld) (fun hHeld => ?_)
                    clear hK K'
                    try simp only [Act.put, List.setIfInBounds_toArray, List.set_cons_zero, List.set_cons_succ]
                    refine take_at (i := 4) (v := .slice none 0 0) rfl rfl (by kernel_rfl) (by kernel_rfl) (by kernel_rfl) (fun _ _ _ h => h) (Or.inl ⟨by rfl, fun X _ => by go_simp⟩) hHeld ?_
                    try simp only [Act.put, List.setIfInBounds_toArray, List.set_cons_zero, List.set_cons_succ]
                    refine wpAnyH_ready (rs := [5, 7]) (by kernel_rfl) (by simp) ?_
                    refine (AllReadyH.cons rfl (fun K' hK => ?_) (AllReadyH.cons rfl (fun K' hK => ?_) AllReadyH.nil))
                    · refine step_append_srcN rfl rfl (.tmp 122) (.tmp 126) 92 rfl 5 T.heap.size 141 i9 rzero 40 Try.underlying92 hi9 hy0 hy1 hy2 rfl (by decide) (.slice (some ⟨V1.heap.size, 0, none⟩) 0 0) 0 [] rfl ow1 (.slice none 0 0) 0 (qcs ([] : List Pn)) rfl (.inl ⟨rfl, rfl, rfl⟩) (qcs_one _) (by unfold maxLen; omega) (by omega) hb1.size ?_
                      intro v5 W5 own5 b5 g5
                      have hb3 : Below T.heap.size T W5 := hb1.trans b5
                      refine hK.out _ _ (Ch.ofBelow hb3) (fun hHeld => ?_)
                      clear hK K'
                      try simp only [Act.put, List.setIfInBounds_toArray, List.set_cons_zero, List.set_cons_succ]
                      refine wpAnyH_ready (rs := [7]) (by kernel_rfl) (by simp) ?_
                      refine (AllReadyH.cons rfl (fun K' hK => ?_) AllReadyH.nil)
                      rw [if_pos (by rfl)]
                      go_simp
                      have hb4 : Below T.heap.size T (W5.alloc (.cells #[.int .i64 zs, .int .i64 zk, .int .i64 (zc + 1), .int .i64 v', .int .u64 (zl' : Int)] 141)) := hb3.alloc hb3.size _
                      have lt4 := lit1_new W5 ⟨zs, zk, zc + 1, v', zl'⟩ W5.heap.size rfl
                      have ow4 := own5.alloc (.cells #[.int .i64 zs, .int .i64 zk, .int .i64 (zc + 1), .int .i64 v', .int .u64 (zl' : Int)] 141)
                      refine hK.out _ _ (Ch.ofBelow hb4) (fun hHeld => ?_)
                      clear hK K'
                      try simp only [Act.put, List.setIfInBounds_toArray, List.set_cons_zero, List.set_cons_succ]
                      have hRz := And.intro hb4 (And.intro ow4 lt4)
                      revert hRz
                      generalize (W5.alloc (.cells #[.int .i64 zs, .int .i64 zk, .int .i64 (zc + 1), .int .i64 v', .int .u64 (zl' : Int)] 141)) = Wz
                      generalize W5.heap.size = lz
                      generalize V1.heap.size = tz
                      intro hRz
                      exact key Wz v5 tz lz hRz
                    · rw [if_pos (by rfl)]
                      go_simp
                      have hb5 : Below T.heap.size T ((V1.alloc (.cells #[] 141)).alloc (.cells #[.int .i64 zs, .int .i64 zk, .int .i64 (zc + 1), .int .i64 v', .int .u64 (zl' : Int)] 141)) := hb1.alloc hb1.size _
                      have lt5 := lit1_new (V1.alloc (.cells #[] 141)) ⟨zs, zk, zc + 1, v', zl'⟩ (V1.heap.size + 1) (size_allocQ _ _)
                      have ow5 := ow1.alloc (.cells #[.int .i64 zs, .int .i64 zk, .int .i64 (zc + 1), .int .i64 v', .int .u64 (zl' : Int)] 141)
                      refine hK.out _ _ (Ch.ofBelow hb5) (fun hHeld => ?_)
                      clear hK K'
                      try simp only [Act.put, List.setIfInBounds_toArray, List.set_cons_zero, List.set_cons_succ]
                      refine wpAnyH_ready (rs := [5]) (by kernel_rfl) (by simp) ?_
                      refine (AllReadyH.cons rfl (fun K' hK => ?_) AllReadyH.nil)
                      refine step_append_srcN rfl rfl (.tmp 122) (.tmp 126) 92 rfl 5 T.heap.size 141 i9 rzero 40 Try.underlying92 hi9 hy0 hy1 hy2 rfl (by decide) (.slice (some ⟨V1.heap.size, 0, none⟩) 0 0) 0 [] rfl ow5 (.slice none 0 0) 0 (qcs ([] : List Pn)) rfl (.inl ⟨rfl, rfl, rfl⟩) (qcs_one _) (by unfold maxLen; omega) (by omega) hb5.size ?_
                      intro v5 W5 own5 b5 g5
                      have hb6 : Below T.heap.size T W5 := hb5.trans b5
                      have lt6 : Lit1 W5 ((V1.heap.size + 1)) _ := (g5.block _ lt5.lt (by simp [Value.ownBlock])).trans lt5
                      refine hK.out _ _ (Ch.ofBelow hb6) (fun hHeld => ?_)
                      clear hK K'
                      try simp only [Act.put, List.setIfInBounds_toArray, List.set_cons_zero, List.set_cons_succ]
                      have hRz := And.intro hb6 (And.intro own5 lt6)
                      revert hRz
                      generalize (V1.heap.size + 1) = lz
                      generalize V1.heap.size = tz
                      intro hRz
                      exact key W5 v5 tz lz hRz
                  · rw [if_pos (by rfl)]
                    go_simp
                    have hb7 : Below T.heap.size T ((V1.alloc (.cells #[] 141)).alloc (.cells #[.int .i64 zs, .int .i64 zk, .int .i64 (zc + 1), .int .i64 v', .int .u64 (zl' : Int)] 141)) := hb1.alloc hb1.size _
                    have lt7 := lit1_new (V1.alloc (.cells #[] 141)) ⟨zs, zk, zc + 1, v', zl'⟩ (V1.heap.size + 1) (size_allocQ _ _)
                    have ow7 := ow1.alloc (.cells #[.int .i64 zs, .int .i64 zk, .int .i64 (zc + 1), .int .i64 v', .int .u64 (zl' : Int)] 141)
                    refine hK.out _ _ (Ch.ofBelow hb7) (fun hHeld => ?_)
                    clear hK K'
                    try simp only [Act.put, List.setIfInBounds_toArray, List.set_cons_zero, List.set_cons_succ]
                    refine wpAnyH_ready (rs := [2]) (by kernel_rfl) (by simp) ?_
                    refine (AllReadyH.cons rfl (fun K' hK => ?_) AllReadyH.nil)
                    rw [if_pos (by rfl)]
                    obtain ⟨k0, k1, k2, k3⟩ := (q6.out.keep (hb7.block _ (Nat.lt_of_lt_of_le hg0X hXT))).c
                    go_simp
                    clear k0 k1 k2 k3
                    refine hK.out _ _ (hHeld) (fun hHeld => ?_)
                    clear hK K'
                    try simp only [Act.put, List.setIfInBounds_toArray, List.set_cons_zero, List.set_cons_succ]
                    refine take_at (i := 4) (v := .slice none 0 0) rfl rfl (by kernel_rfl) (by kernel_rfl) (by kernel_rfl) (fun _ _ _ h => h) (Or.inl ⟨by rfl, fun X _ => by go_simp⟩) hHeld ?_
                    try simp only [Act.put, List.setIfInBounds_toArray, List.set_cons_zero, List.set_cons_succ]
                    refine wpAnyH_ready (rs := [5]) (by kernel_rfl) (by simp) ?_
                    refine (AllReadyH.cons rfl (fun K' hK => ?_) AllReadyH.nil)
                    refine step_append_srcN rfl rfl (.tmp 122) (.tmp 126) 92 rfl 5 T.heap.size 141 i9 rzero 40 Try.underlying92 hi9 hy0 hy1 hy2 rfl (by decide) (.slice (some ⟨V1.heap.size, 0, none⟩) 0 0) 0 [] rfl ow7 (.slice none 0 0) 0 (qcs ([] : List Pn)) rfl (.inl ⟨rfl, rfl, rfl⟩) (qcs_one _) (by unfold maxLen; omega) (by omega) hb7.size ?_
                    intro v5 W5 own5 b5 g5
                    have hb9 : Below T.heap.size T W5 := hb7.trans b5
                    have lt9 : Lit1 W5 ((V1.heap.size + 1)) _ := (g5.block _ lt7.lt (by simp [Value.ownBlock])).trans lt7
                    refine hK.out _ _ (Ch.ofBelow hb9) (fun hHeld => ?_)
                    clear hK K'
                    try simp only [Act.put, List.setIfInBounds_toArray, List.set_cons_zero, List.set_cons_succ]
                    have hRz := And.intro hb9 (And.intro own5 lt9)
                    revert hRz
                    generalize (V1.heap.size + 1) = lz
                    generalize V1.heap.size = tz
                    intro hRz
                    exact key W5 v5 tz lz hRz
                · rw [if_pos (by rfl)]
                  obtain ⟨k0, k1, k2, k3⟩ := (q6.out.keep (hb0.block _ (Nat.lt_of_lt_of_le hg0X hXT))).c
                  go_simp
                  clear k0 k1 k2 k3
                  refine hK.out _ _ (hHeld) (fun hHeld => ?_)
                  clear hK K'
                  try simp only [Act.put, List.setIfInBounds_toArray, List.set_cons_zero, List.set_cons_succ]
                  refine take_at (i := 4) (v := .slice none 0 0) rfl rfl (by kernel_rfl) (by kernel_rfl) (by kernel_rfl) (fun _ _ _ h => h) (Or.inl ⟨by rfl, fun X _ => by go_simp⟩) hHeld ?_
                  try simp only [Act.put, List.setIfInBounds_toArray, List.set_cons_zero, List.set_cons_succ]
                  refine wpAnyH_ready (rs := [0, 7]) (by kernel_rfl) (by simp) ?_
                  refine (AllReadyH.cons rfl (fun K' hK => ?_) (AllReadyH.cons rfl (fun K' hK => ?_) AllReadyH.nil))
                  · rw [if_pos (by rfl)]
                    go_simp
                    have hb11 : Below T.heap.size T (V1.alloc (.cells #[] 141)) := hb0.alloc hb0.size _
                    have ow11 := own_emptyQ V1 T.heap.size V1.heap.size hb0.size rfl
                    refine hK.out _ _ (Ch.ofBelow hb11) (fun hHeld => ?_)
                    clear hK K'
                    try simp only [Act.put, List.setIfInBounds_toArray, List.set_cons_zero, List.set_cons_succ]
                    refine wpAnyH_ready (rs := [5, 7]) (by kernel_rfl) (by simp) ?_
                    refine (AllReadyH.cons rfl (fun K' hK => ?_) (AllReadyH.cons rfl (fun K' hK => ?_) AllReadyH.nil))
                    · refine step_append_srcN rfl rfl (.tmp 122) (.tmp 126) 92 rfl 5 T.heap.size 141 i9 rzero 40 Try.underlying92 hi9 hy0 hy1 hy2 rfl (by decide) (.slice (some ⟨V1.heap.size, 0, none⟩) 0 0) 0 [] rfl ow11 (.slice none 0 0) 0 (qcs ([] : List Pn)) rfl (.inl ⟨rfl, rfl, rfl⟩) (qcs_one _) (by unfold maxLen; omega) (by omega) hb11.size ?_
                      intro v5 W5 own5 b5 g5
                      have hb12 : Below T.heap.size T W5 := hb11.trans b5
                      refine hK.out _ _ (Ch.ofBelow hb12) (fun hHeld => ?_)
                      clear hK K'
                      try simp only [Act.put, List.setIfInBounds_toArray, List.set_cons_zero, List.set_cons_succ]
                      refine wpAnyH_ready (rs := [7]) (by kernel_rfl) (by simp) ?_
                      refine (AllReadyH.cons rfl (fun K' hK => ?_) AllReadyH.nil)
                      rw [if_pos (by rfl)]
                      go_simp
                      have hb13 : Below T.heap.size T (W5.alloc (.cells #[.int .i64 zs, .int .i64 zk, .int .i64 (zc + 1), .int .i64 v', .int .u64 (zl' : Int)] 141)) := hb12.alloc hb12.size _
                      have lt13 := lit1_new W5 ⟨zs, zk, zc + 1, v', zl'⟩ W5.heap.size rfl
                      have ow13 := own5.alloc (.cells #[.int .i64 zs, .int .i64 zk, .int .i64 (zc + 1), .int .i64 v', .int .u64 (zl' : Int)] 141)
                      refine hK.out _ _ (Ch.ofBelow hb13) (fun hHeld => ?_)
                      clear hK K'
                      try simp only [Act.put, List.setIfInBounds_toArray, List.set_cons_zero, List.set_cons_succ]
                      have hRz := And.intro hb13 (And.intro ow13 lt13)
                      revert hRz
                      generalize (W5.alloc (.cells #[.int .i64 zs, .int .i64 zk, .int .i64 (zc + 1), .int .i64 v', .int .u64 (zl' : Int)] 141)) = Wz
                      generalize W5.heap.size = lz
                      generalize V1.heap.size = tz
                      intro hRz
                      exact key Wz v5 tz lz hRz
                    · rw [if_pos (by rfl)]
                      go_simp
                      have hb14 : Below T.heap.size T ((V1.alloc (.cells #[] 141)).alloc (.cells #[.int .i64 zs, .int .i64 zk, .int .i64 (zc + 1), .int .i64 v', .int .u64 (zl' : Int)] 141)) := hb11.alloc hb11.size _
                      have lt14 := lit1_new (V1.alloc (.cells #[] 141)) ⟨zs, zk, zc + 1, v', zl'⟩ (V1.heap.size + 1) (size_allocQ _ _)
                      have ow14 := ow11.alloc (.cells #[.int .i64 zs, .int .i64 zk, .int .i64 (zc + 1), .int .i64 v', .int .u64 (zl' : Int)] 141)
                      refine hK.out _ _ (Ch.ofBelow hb14) (fun hHeld => ?_)
                      clear hK K'
                      try simp only [Act.put, List.setIfInBounds_toArray, List.set_cons_zero, List.set_cons_succ]
                      refine wpAnyH_ready (rs := [5]) (by kernel_rfl) (by simp) ?_
                      refine (AllReadyH.cons rfl (fun K' hK => ?_) AllReadyH.nil)
                      refine step_append_srcN rfl rfl (.tmp 122) (.tmp 126) 92 rfl 5 T.heap.size 141 i9 rzero 40 Try.underlying92 hi9 hy0 hy1 hy2 rfl (by decide) (.slice (some ⟨V1.heap.size, 0, none⟩) 0 0) 0 [] rfl ow14 (.slice none 0 0) 0 (qcs ([] : List Pn)) rfl (.inl ⟨rfl, rfl, rfl⟩) (qcs_one _) (by unfold maxLen; omega) (by omega) hb14.size ?_
                      intro v5 W5 own5 b5 g5
                      have hb15 : Below T.heap.size T W5 := hb14.trans b5
                      have lt15 : Lit1 W5 ((V1.heap.size + 1)) _ := (g5.block _ lt14.lt (by simp [Value.ownBlock])).trans lt14
                      refine hK.out _ _ (Ch.ofBelow hb15) (fun hHeld => ?_)
                      clear hK K'
                      try simp only [Act.put, List.setIfInBounds_toArray, List.set_cons_zero, List.set_cons_succ]
                      have hRz := And.intro hb15 (And.intro own5 lt15)
                      revert hRz
                      generalize (V1.heap.size + 1) = lz
                      generalize V1.heap.size = tz
                      intro hRz
                      exact key W5 v5 tz lz hRz
                  · rw [if_pos (by rfl)]
                    go_simp
                    have hb16 : Below T.heap.size T (V1.alloc (.cells #[.int .i64 zs, .int .i64 zk, .int .i64 (zc + 1), .int .i64 v', .int .u64 (zl' : Int)] 141)) := hb0.alloc hb0.size _
                    have lt16 := lit1_new V1 ⟨zs, zk, zc + 1, v', zl'⟩ V1.heap.size rfl
                    refine hK.out _ _ (Ch.ofBelow hb16) (fun hHeld => ?_)
                    clear hK K'
                    try simp only [Act.put, List.setIfInBounds_toArray, List.set_cons_zero, List.set_cons_succ]
                    refine wpAnyH_ready (rs := [0]) (by kernel_rfl) (by simp) ?_
                    refine (AllReadyH.cons rfl (fun K' hK => ?_) AllReadyH.nil)
                    rw [if_pos (by rfl)]
                    go_simp
                    have hb17 : Below T.heap.size T ((V1.alloc (.cells #[.int .i64 zs, .int .i64 zk, .int .i64 (zc + 1), .int .i64 v', .int .u64 (zl' : Int)] 141)).alloc (.cells #[] 141)) := hb16.alloc hb16.size _
                    have ow17 := own_emptyQ (V1.alloc (.cells #[.int .i64 zs, .int .i64 zk, .int .i64 (zc + 1), .int .i64 v', .int .u64 (zl' : Int)] 141)) T.heap.size (V1.heap.size + 1) hb16.size (size_allocQ _ _)
                    have lt17 : Lit1 ((V1.alloc (.cells #[.int .i64 zs, .int .i64 zk, .int .i64 (zc + 1), .int .i64 v', .int .u64 (zl' : Int)] 141)).alloc (.cells #[] 141)) V1.heap.size _ := ((below_alloc (V1.alloc (.cells #[.int .i64 zs, .int .i64 zk, .int .i64 (zc + 1), .int .i64 v', .int .u64 (zl' : Int)] 141)) _).block _ lt16.lt).trans lt16
                    refine hK.out _ _ (Ch.ofBelow hb17) (fun hHeld => ?_)
                    clear hK K'
                    try simp only [Act.put, List.setIfInBounds_toArray, List.set_cons_zero, List.set_cons_succ]
                    refine wpAnyH_ready (rs := [5]) (by kernel_rfl) (by simp) ?_
                    refine (AllReadyH.cons rfl (fun K' hK => ?_) AllReadyH.nil)
                    refine step_append_srcN rfl rfl (.tmp 122) (.tmp 126) 92 rfl 5 T.heap.size 141 i9 rzero 40 Try.underlying92 hi9 hy0 hy1 hy2 rfl (by decide) (.slice (some ⟨(V1.heap.size + 1), 0, none⟩) 0 0) 0 [] rfl ow17 (.slice none 0 0) 0 (qcs ([] : List Pn)) rfl (.inl ⟨rfl, rfl, rfl⟩) (qcs_one _) (by unfold maxLen; omega) (by omega) hb17.size ?_
                    intro v5 W5 own5 b5 g5
                    have hb18 : Below T.heap.size T W5 := hb17.trans b5
                    have lt18 : Lit1 W5 (V1.heap.size) _ := (g5.block _ lt17.lt (by simp [Value.ownBlock])).trans lt17
                    refine hK.out _ _ (Ch.ofBelow hb18) (fun hHeld => ?_)
                    clear hK K'
                    try simp only [Act.put, List.setIfInBounds_toArray, List.set_cons_zero, List.set_cons_succ]
                    have hRz := And.intro hb18 (And.intro own5 lt18)
                    revert hRz
                    generalize (V1.heap.size + 1) = tz
                    generalize V1.heap.size = lz
                    intro hRz
                    exact key W5 v5 tz lz hRz
                · rw [if_pos (by rfl)]
                  go_simp
                  have hb19 : Below T.heap.size T (V1.alloc (.cells #[.int .i64 zs, .int .i64 zk, .int .i64 (zc + 1), .int .i64 v', .int .u64 (zl' : Int)] 141)) := hb0.alloc hb0.size _
                  have lt19 := lit1_new V1 ⟨zs, zk, zc + 1, v', zl'⟩ V1.heap.size rfl
                  refine hK.out _ _ (Ch.ofBelow hb19) (fun hHeld => ?_)
                  clear hK K'
                  try simp only [Act.put, List.setIfInBounds_toArray, List.set_cons_zero, List.set_cons_succ]
                  refine wpAnyH_ready (rs := [0, 2]) (by kernel_rfl) (by simp) ?_
                  refine (AllReadyH.cons rfl (fun K' hK => ?_) (AllReadyH.cons rfl (fun K' hK => ?_) AllReadyH.nil))
                  · rw [if_pos (by rfl)]
                    go_simp
                    have hb20 : Below T.heap.size T ((V1.alloc (.cells #[.int .i64 zs, .int .i64 zk, .int .i64 (zc + 1), .int .i64 v', .int .u64 (zl' : Int)] 141)).alloc (.cells #[] 141)) := hb19.alloc hb19.size _
                    have ow20 := own_emptyQ (V1.alloc (.cells #[.int .i64 zs, .int .i64 zk, .int .i64 (zc + 1), .int .i64 v', .int .u64 (zl' : Int)] 141)) T.heap.size (V1.heap.size + 1) hb19.size (size_allocQ _ _)
                    have lt20 : Lit1 ((V1.alloc (.cells #[.int .i64 zs, .int .i64 zk, .int .i64 (zc + 1), .int .i64 v', .int .u64 (zl' : Int)] 141)).alloc (.cells #[] 141)) V1.heap.size _ := ((below_alloc (V1.alloc (.cells #[.int .i64 zs, .int .i64 zk, .int .i64 (zc + 1), .int .i64 v', .int .u64 (zl' : Int)] 141)) _).block _ lt19.lt).trans lt19
                    refine hK.out _ _ (Ch.ofBelow hb20) (fun hHeld => ?_)
                    clear hK K'
                    try simp only [Act.put, List.setIfInBounds_toArray, List.set_cons_zero, List.set_cons_succ]
                    refine wpAnyH_ready (rs := [2]) (by kernel_rfl) (by simp) ?_
                    refine (AllReadyH.cons rfl (fun K' hK => ?_) AllReadyH.nil)
                    rw [if_pos (by rfl)]
                    obtain ⟨k0, k1, k2, k3⟩ := (q6.out.keep (hb20.block _ (Nat.lt_of_lt_of_le hg0X hXT))).c
                    go_simp
                    clear k0 k1 k2 k3
                    refine hK.out _ _ (hHeld) (fun hHeld => ?_)
                    clear hK K'
                    try simp only [Act.put, List.setIfInBounds_toArray, List.set_cons_zero, List.set_cons_succ]
                    refine take_at (i := 4) (v := .slice none 0 0) rfl rfl (by kernel_rfl) (by kernel_rfl) (by kernel_rfl) (fun _ _ _ h => h) (Or.inl ⟨by rfl, fun X _ => by go_simp⟩) hHeld ?_
                    try simp only [Act.put, List.setIfInBounds_toArray, List.set_cons_zero, List.set_cons_succ]
                    refine wpAnyH_ready (rs := [5]) (by kernel_rfl) (by simp) ?_
                    refine (AllReadyH.cons rfl (fun K' hK => ?_) AllReadyH.nil)
                    refine step_append_srcN rfl rfl (.tmp 122) (.tmp 126) 92 rfl 5 T.heap.size 141 i9 rzero 40 Try.underlying92 hi9 hy0 hy1 hy2 rfl (by decide) (.slice (some ⟨(V1.heap.size + 1), 0, none⟩) 0 0) 0 [] rfl ow20 (.slice none 0 0) 0 (qcs ([] : List Pn)) rfl (.inl ⟨rfl, rfl, rfl⟩) (qcs_one _) (by unfold maxLen; omega) (by omega) hb20.size ?_
                    intro v5 W5 own5 b5 g5
                    have hb22 : Below T.heap.size T W5 := hb20.trans b5
                    have lt22 : Lit1 W5 (V1.heap.size) _ := (g5.block _ lt20.lt (by simp [Value.ownBlock])).trans lt20
                    refine hK.out _ _ (Ch.ofBelow hb22) (fun hHeld => ?_)
                    clear hK K'
                    try simp only [Act.put, List.setIfInBounds_toArray, List.set_cons_zero, List.set_cons_succ]
                    have hRz := And.intro hb22 (And.intro own5 lt22)
                    revert hRz
                    generalize (V1.heap.size + 1) = tz
                    generalize V1.heap.size = lz
                    intro hRz
                    exact key W5 v5 tz lz hRz
                  · rw [if_pos (by rfl)]
                    obtain ⟨k0, k1, k2, k3⟩ := (q6.out.keep (hb19.block _ (Nat.lt_of_lt_of_le hg0X hXT))).c
                    go_simp
                    clear k0 k1 k2 k3
                    refine hK.out _ _ (hHeld) (fun hHeld => ?_)
                    clear hK K'
                    try simp only [Act.put, List.setIfInBounds_toArray, List.set_cons_zero, List.set_cons_succ]
                    refine take_at (i := 4) (v := .slice none 0 0) rfl rfl (by kernel_rfl) (by kernel_rfl) (by kernel_rfl) (fun _ _ _ h => h) (Or.inl ⟨by rfl, fun X _ => by go_simp⟩) hHeld ?_
                    try simp only [Act.put, List.setIfInBounds_toArray, List.set_cons_zero, List.set_cons_succ]
                    refine wpAnyH_ready (rs := [0]) (by kernel_rfl) (by simp) ?_
                    refine (AllReadyH.cons rfl (fun K' hK => ?_) AllReadyH.nil)
                    rw [if_pos (by rfl)]
                    go_simp
                    have hb24 : Below T.heap.size T ((V1.alloc (.cells #[.int .i64 zs, .int .i64 zk, .int .i64 (zc + 1), .int .i64 v', .int .u64 (zl' : Int)] 141)).alloc (.cells #[] 141)) := hb19.alloc hb19.size _
                    have ow24 := own_emptyQ (V1.alloc (.cells #[.int .i64 zs, .int .i64 zk, .int .i64 (zc + 1), .int .i64 v', .int .u64 (zl' : Int)] 141)) T.heap.size (V1.heap.size + 1) hb19.size (size_allocQ _ _)
                    have lt24 : Lit1 ((V1.alloc (.cells #[.int .i64 zs, .int .i64 zk, .int .i64 (zc + 1), .int .i64 v', .int .u64 (zl' : Int)] 141)).alloc (.cells #[] 141)) V1.heap.size _ := ((below_alloc (V1.alloc (.cells #[.int .i64 zs, .int .i64 zk, .int .i64 (zc + 1), .int .i64 v', .int .u64 (zl' : Int)] 141)) _).block _ lt19.lt).trans lt19
                    refine hK.out _ _ (Ch.ofBelow hb24) (fun hHeld => ?_)
                    clear hK K'
                    try simp only [Act.put, List.setIfInBounds_toArray, List.set_cons_zero, List.set_cons_succ]
                    refine wpAnyH_ready (rs := [5]) (by kernel_rfl) (by simp) ?_
                    refine (AllReadyH.cons rfl (fun K' hK => ?_) AllReadyH.nil)
                    refine step_append_srcN rfl rfl (.tmp 122) (.tmp 126) 92 rfl 5 T.heap.size 141 i9 rzero 40 Try.underlying92 hi9 hy0 hy1 hy2 rfl (by decide) (.slice (some ⟨(V1.heap.size + 1), 0, none⟩) 0 0) 0 [] rfl ow24 (.slice none 0 0) 0 (qcs ([] : List Pn)) rfl (.inl ⟨rfl, rfl, rfl⟩) (qcs_one _) (by unfold maxLen; omega) (by omega) hb24.size ?_
                    intro v5 W5 own5 b5 g5
                    have hb25 : Below T.heap.size T W5 := hb24.trans b5
                    have lt25 : Lit1 W5 (V1.heap.size) _ := (g5.block _ lt24.lt (by simp [Value.ownBlock])).trans lt24
                    refine hK.out _ _ (Ch.ofBelow hb25) (fun hHeld => ?_)
                    clear hK K'
                    try simp only [Act.put, List.setIfInBounds_toArray, List.set_cons_zero, List.set_cons_succ]
                    have hRz := And.intro hb25 (And.intro own5 lt25)
                    revert hRz
                    generalize (V1.heap.size + 1) = tz
                    generalize V1.heap.size = lz
                    intro hRz
                    exact key W5 v5 tz lz hRz
              case key =>
                rintro W5 v5 tz lz ⟨hbz, own5, ltz⟩
                clear hHeld
                have hHeld : Ch g0 g0 T W5 := Ch.ofBelow hbz
                refine wpAnyH_ready (rs := [8]) (by kernel_rfl) (by simp) ?_
                refine (AllReadyH.cons rfl (fun K' hK => ?_) AllReadyH.nil)
                refine step_append_srcN rfl rfl (.tmp 127) (.tmp 129) 92 rfl 5 T.heap.size 141 i9 rzero 40 Try.underlying92 hi9 hy0 hy1 hy2 rfl (by decide) v5 (0 + 0) ([] ++ qcs ([] : List Pn)) rfl own5 (.slice (some ⟨lz, 0, none⟩) 1 1) 1 (qcs [⟨zs, zk, zc + 1, v', zl'⟩]) rfl ltz.src (qcs_one _) (by unfold maxLen; omega) (by omega) hbz.size ?_
                intro v8 W8 own8 b8 g8
                have hbe : Below T.heap.size T W8 := hbz.trans b8
                refine hK.out _ _ (Ch.ofBelow hbe) (fun hHeld => ?_)
                clear hK K'
                try simp only [Act.put, List.setIfInBounds_toArray, List.set_cons_zero, List.set_cons_succ]
                refine wpAnyH_ready (rs := [10]) (by kernel_rfl) (by simp) ?_
                refine (AllReadyH.cons rfl (fun K' hK => ?_) AllReadyH.nil)
                refine step_append_srcN rfl rfl (.tmp 130) (.tmp 131) 92 rfl 5 T.heap.size 141 i9 rzero 40 Try.underlying92 hi9 hy0 hy1 hy2 rfl (by decide) v8 (0 + 0 + 1) ([] ++ qcs ([] : List Pn) ++ qcs [⟨zs, zk, zc + 1, v', zl'⟩]) rfl own8 (.slice ra rl rc) (beh s ek []).length (qcs (beh s ek [])) rfl (srcN_own (own_alloc_below rr6.out hbe)) (qcs_one _) (by unfold maxLen; omega) (by omega) hbe.size ?_
                intro v10 W10 own10 b10 g10
                have hbf : Below T.heap.size T W10 := hbe.trans b10
                refine hK.out _ _ (Ch.ofBelow hbf) (fun hHeld => ?_)
                clear hK K'
                try simp only [Act.put, List.setIfInBounds_toArray, List.set_cons_zero, List.set_cons_succ]
                refine take_at (i := 11) (v := .pointer (some ⟨g0, 3, none⟩)) rfl rfl (by kernel_rfl) (by kernel_rfl) (by kernel_rfl) (fun _ _ _ h => h) (Or.inl ⟨by rfl, fun X _ => by go_simp⟩) hHeld ?_
                try simp only [Act.put, List.setIfInBounds_toArray, List.set_cons_zero, List.set_cons_succ]
                have qf := q6.out.keep (hbf.block _ (Nat.lt_of_lt_of_le hg0X hXT))
                obtain ⟨k0, k1, k2, k3⟩ := qf.c
                have kf := qf.free 3
                have own11 : W10.ownsRow T.heap.size 141 5 v10 (upd K s ek ex el []).length (qcs (upd K s ek ex el [])) := by
                  rw [hupd.out, qcs_append, qcs_append]
                  have hl : ([].take 0 ++ [(⟨zs, zk, zc + 1, v', zl'⟩ : Pn)] ++ beh s ek []).length = 0 + 0 + 1 + (beh s ek []).length := by
                    simp only [List.length_append, List.length_take, List.length_cons, List.length_nil]
                    omega
                  rw [hl]
                  simpa using own10
                obtain ⟨a, l, c, hvv⟩ : ∃ a l c, v10 = .slice a l c := by
                  obtain ⟨_, h | ⟨g, cap, cur, h1, _⟩⟩ := own11
                  · exact ⟨_, _, _, h.1⟩
                  · exact ⟨_, _, _, h1⟩
                subst hvv
                obtain rfl : l = (upd K s ek ex el []).length := by
                  obtain ⟨_, h | ⟨g, cap, cur, h1, _⟩⟩ := own11
                  · have h1 := h.1; injection h1 with _ h2; rw [h2, h.2]
                  · injection h1
                have chf : Ch g0 g0 T (W10.setCell ⟨g0, 3, none⟩ (.slice a (upd K s ek ex el []).length c)) := (Ch.ofBelow (b := g0) (o := g0) hbf).set (p := ⟨g0, 3, none⟩) (.inl rfl) _
                refine wpAnyH_ready (rs := [12]) (by kernel_rfl) (by simp) ?_
                refine (AllReadyH.cons rfl (fun K' hK => ?_) AllReadyH.nil)
                rw [if_pos (by rfl)]
                go_simp
                refine hK.out _ _ (chf) (fun hHeld => ?_)
                clear hK K'
                try simp only [Act.put, List.setIfInBounds_toArray, List.set_cons_zero, List.set_cons_succ]
                refine wpAnyH_done (by kernel_rfl) ?_ _
                go_wp2_with fail
                go_roundw
                case rel =>
                  exact ⟨j + 1, upd K s ek ex el [], a, c, by omega, by go_num, hnx.out.symm, by (first | omega | (simp only [List.length_nil] at hlen2 hlen; omega)), hcnt2.out, qf.set3, e6.out.ch chf n01 n01, r6.out.keep (chf.other _ r6.out.lt n02 n02), own_base (own_set own11 (a := ⟨g0, 3, none⟩) (show g0 < T.heap.size by omega) _) hBT, bbT.trans (chf.below hg0w hg0w bbT.size), own_chn so6.out chf nS⟩
                case measure => simp [intOf]; omega
    · injection hve with hv1 hv2 hv3
      subst hv1 hv3
      obtain ⟨M, hM⟩ : ∃ M, Hid (Lj.length = M) := ⟨_, rfl⟩
      have hcl : Hid (∀ a, a < M → QwAt wr gr (a * 5) (pAt Lj a)) := fun a ha => hcl0 a (by rw [hM.out]; exact ha)
      clear hcl0
      rw [hM.out] at hcap1 hPle q1 ov1 hlen
      obtain ⟨c0, c1, c2, c3⟩ := q1.out.c
      obtain ⟨d0, d1, d2, d3⟩ := e1.out.c
      simp only at d0 d1 d2 d3
      go_upto_block 2 with fail
      go_cut [7] (fun i wx => i = .int .i64 (P : Int) ∧ Below wr.heap.size wr wx)
      case first =>
        go_wp2_with fail
        go_loopw [7] (fun i wx => ∃ a q : Nat, a ≤ P ∧ i = .int .i64 a ∧ wx = wr.drewN q) (fun i _ => P - (intOf i).toNat)
        case atStart => exact ⟨0, 0, Nat.zero_le _, rfl, rfl⟩
        case round =>
          obtain ⟨a, q, ha, rfl, rfl⟩ := hrel
          by_cases haP : a < P
          · have hbf := pos_bef s ek Lj a (by rw [hP.out]; exact haP)
            obtain ⟨x0, x1, _⟩ := hcl.out a (by omega)
            obtain ⟨ps, hps⟩ : ∃ z, Hid ((pAt Lj a).s = z) := ⟨_, rfl⟩
            obtain ⟨pk, hpk⟩ : ∃ z, Hid ((pAt Lj a).k = z) := ⟨_, rfl⟩
            rw [hps.out] at x0
            rw [hpk.out] at x1
            have hbf2 : ps < s ∨ (ps = s ∧ pk < ek) := by rw [← hps.out, ← hpk.out]; exact (bef_iff s ek _).1 hbf
            have h1 : decide ((a : Int) < (M : Int)) = true := decide_eq_true (by omega)
            have haM : (a : Int) < (M : Int) := by omega
            have ha0 : (0 : Int) ≤ (a : Int) := by omega
            clear hbf
            by_cases hq1 : ps < s
            · have h2 : decide (ps < s) = true := decide_eq_true hq1
              clear hbf2
              go_wp2_with fail
              go_quiet (fail)
              go_wp2_with fail
              go_roundw
              case rel => exact ⟨a + 1, q + nq, by omega, by go_num, rfl⟩
              case measure => simp [intOf]; omega
            · obtain ⟨rfl, hq2⟩ : ps = s ∧ pk < ek := by omega
              have h2 : decide (ps < ps) = false := decide_eq_false (by omega)
              have h3 : (ps == ps) = true := by simp
              have h4 : decide (pk < ek) = true := decide_eq_true hq2
              clear hbf2
              go_wp2_with fail
              go_quiet (fail)
              go_wp2_with fail
              go_roundw
              case rel => exact ⟨a + 1, q + nq, by omega, by go_num, rfl⟩
              case measure => simp [intOf]; omega
          · obtain rfl : a = P := by omega
            by_cases haM : a < M
            · have hbf := pos_not s ek Lj (by rw [hP.out, hM.out]; exact haM)
              rw [hP.out] at hbf
              obtain ⟨x0, x1, _⟩ := hcl.out a haM
              obtain ⟨ps, hps⟩ : ∃ z, Hid ((pAt Lj a).s = z) := ⟨_, rfl⟩
              obtain ⟨pk, hpk⟩ : ∃ z, Hid ((pAt Lj a).k = z) := ⟨_, rfl⟩
              rw [hps.out] at x0
              rw [hpk.out] at x1
              have hbf2 : ¬ (ps < s ∨ (ps = s ∧ pk < ek)) := by rw [← hps.out, ← hpk.out, ← bef_iff, hbf]; decide
              have h1 : decide ((a : Int) < (M : Int)) = true := decide_eq_true (by omega)
              have haM1 : (a : Int) < (M : Int) := by omega
              have ha0 : (0 : Int) ≤ (a : Int) := by omega
              have h2 : decide (ps < s) = false := decide_eq_false (by omega)
              clear hbf
              by_cases hq1 : ps = s
              · have h3 : (ps == s) = true := by simpa using hq1
                have h4 : decide (pk < ek) = false := decide_eq_false (by omega)
                clear hbf2
                go_wp2_with fail
                go_quiet (fail)
                go_wp2_with fail
                go_meet
                exact ⟨rfl, below_drewN (below_drewN (Below.refl _ _) _) _⟩
              · have h3 : (ps == s) = false := by simpa using hq1
                clear hbf2
                go_wp2_with fail
                go_quiet (fail)
                go_wp2_with fail
                go_meet
                exact ⟨rfl, below_drewN (below_drewN (Below.refl _ _) _) _⟩
            · have h1 : decide ((a : Int) < (M : Int)) = false := decide_eq_false (by omega)
              go_wp2_with fail
              go_quiet (fail)
              go_wp2_with fail
              go_meet
              exact ⟨rfl, below_drewN (below_drewN (Below.refl _ _) _) _⟩
      case rest =>
        obtain ⟨rfl, bx⟩ := hcut
        obtain ⟨X, hXe⟩ : ∃ X, X = wc := ⟨_, rfl⟩
        subst hXe
        have q2 : Hid (Qb X g0 n sl K (.slice (some ⟨gr, 0, none⟩) M vc)) := q1.out.keep (bx.block _ q1.out.lt)
        have e2 : Hid (Evk X g1 ⟨et, ek, ex, el⟩) := e1.out.below bx
        have ov2 : Hid (X.ownsRow B 141 5 (.slice (some ⟨gr, 0, none⟩) M vc) M (qcs Lj)) := own_alloc_below ov1.out bx
        have hbx := bx.size
        clear c0 c1 c2 c3 d0 d1 d2 d3
        obtain ⟨d0, d1, d2, d3⟩ := e2.out.c
        simp only at d0 d1 d2 d3
        go_upto_region 9 with fail
        refine world_gen (fun Y => Hid (Qk Y X.heap.size (fresh s ek)) ∧ Below X.heap.size X Y) ⟨qk_new X (fresh s ek), below_alloc _ _⟩ ?_
        rintro Y ⟨x3, bY⟩
        obtain ⟨gx, hgx⟩ : ∃ g, Hid (X.heap.size = g) := ⟨_, rfl⟩
        rw [hgx.out] at x3 bY ⊢
        have hgxY : gx < Y.heap.size := x3.out.lt
        have bY' : Below X.heap.size X Y := hgx.out ▸ bY
        have hXg : X.heap.size ≤ gx := Nat.le_of_eq hgx.out
        have hXY := bY'.size
        have q3 : Hid (Qb Y g0 n sl K (.slice (some ⟨gr, 0, none⟩) M vc)) := q2.out.keep (bY'.block _ q2.out.lt)
        have e3 : Hid (Evk Y g1 ⟨et, ek, ex, el⟩) := e2.out.below bY'
        have ov3 : Hid (Y.ownsRow B 141 5 (.slice (some ⟨gr, 0, none⟩) M vc) M (qcs Lj)) := own_alloc_below ov2.out bY'
        clear d0 d1 d2 d3
        obtain ⟨c0, c1, c2, c3⟩ := q3.out.c
        obtain ⟨d0, d1, d2, d3⟩ := e3.out.c
        simp only at d0 d1 d2 d3
        obtain ⟨F, hF⟩ : ∃ F, Hid (fnd s ek Lj = F) := ⟨_, rfl⟩
        go_cut [89] (fun t wx => t = .bool F ∧ Below Y.heap.size Y wx)
        case first =>
          by_cases haM : P < M
          case neg =>
            have hFf : F = false := by rw [← hF.out]; exact fnd_out s ek Lj (by rw [hP.out, hM.out]; omega)
            have h1 : decide ((P : Int) < (M : Int)) = false := decide_eq_false (by omega)
            go_wp2_with fail
            go_quiet (fail)
            go_wp2_with fail
            go_meet
            exact ⟨by rw [hFf], below_drewN (Below.refl _ _) _⟩
          obtain ⟨x0, x1, _⟩ := (hcl.out P haM).keep ((bY'.block gr (by omega)).trans (bx.block gr hgrl))
          have hFa : F = isAt s ek (pAt Lj P) := by rw [← hF.out, fnd_at s ek Lj (by rw [hP.out, hM.out]; exact haM), hP.out]
          obtain ⟨ps, hps⟩ : ∃ z, Hid ((pAt Lj P).s = z) := ⟨_, rfl⟩
          obtain ⟨pk, hpk⟩ : ∃ z, Hid ((pAt Lj P).k = z) := ⟨_, rfl⟩
          rw [hps.out] at x0
          rw [hpk.out] at x1
          have hFi : F = decide (ps = s ∧ pk = ek) := by rw [hFa, isAt, hps.out, hpk.out]
          clear hFa
          have h1 : decide ((P : Int) < (M : Int)) = true := decide_eq_true (by omega)
          have haM1 : (P : Int) < (M : Int) := by omega
          have ha0 : (0 : Int) ≤ (P : Int) := by omega
          by_cases hq1 : ps = s
          case neg =>
            have hFf : F = false := by rw [hFi]; exact decide_eq_false (fun h => hq1 h.1)
            clear hFi
            have h3 : (ps == s) = false := by simpa using hq1
            go_wp2_with fail
            go_quiet (fail)
            go_wp2_with fail
            go_meet
            exact ⟨by rw [hFf], below_drewN (Below.refl _ _) _⟩
          by_cases hq2 : pk = ek
          case neg =>
            have hFf : F = false := by rw [hFi]; exact decide_eq_false (fun h => hq2 h.2)
            clear hFi
            have h3 : (ps == s) = true := by simpa using hq1
            have h4 : (pk == ek) = false := by simpa using hq2
            go_wp2_with fail
            go_quiet (fail)
            go_wp2_with fail
            go_meet
            exact ⟨by rw [hFf], below_drewN (Below.refl _ _) _⟩
          have hFf : F = true := by rw [hFi]; exact decide_eq_true ⟨hq1, hq2⟩
          clear hFi
          have h3 : (ps == s) = true := by simpa using hq1
          have h4 : (pk == ek) = true := by simpa using hq2
          go_wp2_with fail
          go_quiet (fail)
          go_wp2_with fail
          go_meet
          exact ⟨by rw [hFf], below_drewN (Below.refl _ _) _⟩
        case rest =>
          obtain ⟨rfl, bz⟩ := hcut
          obtain ⟨Z, hZe⟩ : ∃ Z, Z = wc := ⟨_, rfl⟩
          subst hZe
          have x4 : Hid (Qk Z gx (fresh s ek)) := x3.out.keep (bz.block _ hgxY)
          have q4 : Hid (Qb Z g0 n sl K (.slice (some ⟨gr, 0, none⟩) M vc)) := q3.out.keep (bz.block _ q3.out.lt)
          have e4 : Hid (Evk Z g1 ⟨et, ek, ex, el⟩) := e3.out.below bz
          have ov4 : Hid (Z.ownsRow B 141 5 (.slice (some ⟨gr, 0, none⟩) M vc) M (qcs Lj)) := own_alloc_below ov3.out bz
          have bXZ : Below X.heap.size X Z := bY'.trans (bz.mono bY'.size)
          have hgxZ : gx < Z.heap.size := x4.out.lt
          clear c0 c1 c2 c3 d0 d1 d2 d3
          obtain ⟨c0, c1, c2, c3⟩ := q4.out.c
          go_upto_if 89 with fail
          go_cut [9] (fun r wx => Hid (wx.ownsRow Z.heap.size 141 5 r (beh s ek Lj).length (qcs (beh s ek Lj))) ∧ Hid (Qk wx gx (curP s ek Lj)) ∧ Below X.heap.size X wx)
          case first =>
            cases F
            · have hP0 : (0 : Int) ≤ (P : Int) := by omega
              have hPM : (P : Int) ≤ (M : Int) := by omega
              have hMV : (M : Int) ≤ (vc : Int) := by omega
              by_cases hvp : vc = P
              · have hMP : P = M := by omega
                subst hMP
                have hVP : P = vc := by omega
                subst hVP
                go_wp2_with (at_builtin; refine wpList_append_srcN _ (by rfl) _ _ 92 rfl 5 Z.heap.size 141 i9 rzero 40 Try.underlying92 hi9 hy0 hy1 hy2 rfl (by decide) (.slice none 0 0) 0 [] rfl (World.ownsRow_nil _ _ _ _) (.slice (some ⟨gr, 0, none⟩) 0 0) 0 (qcs (Lj.drop P)) rfl (src_drop ov4.out hM.out P (Nat.le_refl _) 0 (by omega) 0 (by omega)) (qcs_one _) (by unfold maxLen; omega) (by omega) (Nat.le_refl _) ?_; intro r' W5 o5 b5)
                go_meet
                have hbe : beh s ek Lj = Lj.drop P := by unfold beh; rw [hF.out, if_neg (by decide), hP.out]
                have hcu : curP s ek Lj = fresh s ek := by unfold curP; rw [hF.out, if_neg (by decide)]
                have hln : (Lj.drop P).length = 0 := by rw [List.length_drop, hM.out]; omega
                refine ⟨?_, by rw [hcu]; exact x4.out.keep (b5.block _ hgxZ), bXZ.trans (b5.mono bXZ.size)⟩
                rw [hbe, hln]
                simpa [Hid] using o5
              · obtain ⟨D, rfl⟩ : ∃ D, M = P + D := ⟨M - P, by omega⟩
                obtain ⟨C, rfl⟩ : ∃ C, vc = P + C := ⟨vc - P, by omega⟩
                have hC0 : ¬ C = 0 := by omega
                have hC1 : ¬ (P + C = P) := by omega
                go_wp2_with (at_builtin; refine wpList_append_srcN _ (by rfl) _ _ 92 rfl 5 Z.heap.size 141 i9 rzero 40 Try.underlying92 hi9 hy0 hy1 hy2 rfl (by decide) (.slice none 0 0) 0 [] rfl (World.ownsRow_nil _ _ _ _) (.slice (some ⟨gr, P * 5, none⟩) D C) D (qcs (Lj.drop P)) rfl (src_drop ov4.out hM.out P (by omega) (P * 5) (fun _ => rfl) D (by omega)) (qcs_one _) (by unfold maxLen; omega) (by omega) (Nat.le_refl _) ?_; intro r' W5 o5 b5)
                go_meet
                have hbe : beh s ek Lj = Lj.drop P := by unfold beh; rw [hF.out, if_neg (by decide), hP.out]
                have hcu : curP s ek Lj = fresh s ek := by unfold curP; rw [hF.out, if_neg (by decide)]
                have hln : (Lj.drop P).length = D := by rw [List.length_drop, hM.out]; omega
                refine ⟨?_, by rw [hcu]; exact x4.out.keep (b5.block _ hgxZ), bXZ.trans (b5.mono bXZ.size)⟩
                rw [hbe, hln]
                simpa [Hid] using o5
            · have hPM : P < M := by have h := fnd_lt s ek Lj hF.out; rw [hP.out, hM.out] at h; exact h
              obtain ⟨y0, y1, y2, y3, y4⟩ := (hcl.out P hPM).keep (((bz.block gr (by omega)).trans (bY'.block gr (by omega))).trans (bx.block gr hgrl))
              obtain ⟨z0, z1, z2, z3, z4⟩ := x4.out.c
              have f0 := x4.out.free 0
              have f1 := x4.out.free 1
              have f2 := x4.out.free 2
              have f3 := x4.out.free 3
              have f4 := x4.out.free 4
              obtain ⟨P1, hP1'⟩ : ∃ P1, Hid (P + 1 = P1) := ⟨_, rfl⟩
              have hI : (P : Int) + 1 = (P1 : Int) := by have := hP1'.out; omega
              have hPP : P < P1 := by have := hP1'.out; omega
              have hP1M : P1 ≤ M := by have := hP1'.out; omega
              obtain ⟨⟨qs, qk, qc, qv, ql⟩, hpp⟩ : ∃ p, Hid (pAt Lj P = p) := ⟨_, rfl⟩
              rw [hpp.out] at y0 y1 y2 y3 y4
              simp only at y0 y1 y2 y3 y4
              have hP0 : (0 : Int) ≤ (P : Int) := by omega
              have hPM1 : (P : Int) < (M : Int) := by omega
              have hI1 : (P1 : Int) ≤ (M : Int) := by omega
              have hMV : (M : Int) ≤ (vc : Int) := by omega
              have hP10 : (0 : Int) ≤ (P1 : Int) := by omega
              have hne : gr ≠ gx := by omega
              have x5 := x4.out.set5 ⟨qs, qk, qc, qv, ql⟩
              have ov5 := own_chn ov4.out (((((Ch.refl gx gx Z).set (p := ⟨gx, 0, none⟩) (.inl rfl) (.int .i64 qs)).set (p := ⟨gx, 1, none⟩) (.inl rfl) (.int .i64 qk)).set (p := ⟨gx, 2, none⟩) (.inl rfl) (.int .i64 qc)).set (p := ⟨gx, 3, none⟩) (.inl rfl) (.int .i64 qv) |>.set (p := ⟨gx, 4, none⟩) (.inl rfl) (.int .u64 (ql : Int))) (fun k hk => by simp [Value.ownBlock] at hk; omega)
              have bX5 := ((((bXZ.setCell (p := ⟨gx, 0, none⟩) hXg (.int .i64 qs)).setCell (p := ⟨gx, 1, none⟩) hXg (.int .i64 qk)).setCell (p := ⟨gx, 2, none⟩) hXg (.int .i64 qc)).setCell (p := ⟨gx, 3, none⟩) hXg (.int .i64 qv)).setCell (p := ⟨gx, 4, none⟩) hXg (.int .u64 (ql : Int))
              have hg0x : g0 ≠ gx := by have := q2.out.lt; have := hgx.out; omega
              have q5 := q4.out.keep ((Below.heap_setCell ((((Z.setCell ⟨gx, 0, none⟩ (.int .i64 qs)).setCell ⟨gx, 1, none⟩ (.int .i64 qk)).setCell ⟨gx, 2, none⟩ (.int .i64 qc)).setCell ⟨gx, 3, none⟩ (.int .i64 qv)) ⟨gx, 4, none⟩ (.int .u64 (ql : Int)) g0 hg0x).trans ((Below.heap_setCell _ _ _ _ hg0x).trans ((Below.heap_setCell _ _ _ _ hg0x).trans ((Below.heap_setCell _ _ _ _ hg0x).trans (Below.heap_setCell _ _ _ _ hg0x)))))
              have hZ5 : Z.heap.size ≤ (((((Z.setCell ⟨gx, 0, none⟩ (.int .i64 qs)).setCell ⟨gx, 1, none⟩ (.int .i64 qk)).setCell ⟨gx, 2, none⟩ (.int .i64 qc)).setCell ⟨gx, 3, none⟩ (.int .i64 qv)).setCell ⟨gx, 4, none⟩ (.int .u64 (ql : Int))).heap.size := by simp [World.setCell]
              go_upto_region 11 with fail
              refine world_gen (fun W => Hid (Qk W gx ⟨qs, qk, qc, qv, ql⟩) ∧ Hid (Qb W g0 n sl K (.slice (some ⟨gr, 0, none⟩) M vc)) ∧ Hid (W.ownsRow B 141 5 (.slice (some ⟨gr, 0, none⟩) M vc) M (qcs Lj)) ∧ Below X.heap.size X W ∧ Z.heap.size ≤ W.heap.size) ⟨x5, q5, ov5, bX5, hZ5⟩ ?_
              clear x5 q5 ov5 bX5 hZ5 c0 c1 c2 c3 y0 y1 y2 y3 y4 z0 z1 z2 z3 z4 f0 f1 f2 f3 f4
              rintro U ⟨x5, q5, ov5, bX5, hZU⟩
              obtain ⟨c0, c1, c2, c3⟩ := q5.out.c
              by_cases hvp : vc = P1
              · have hMP : P1 = M := by omega
                subst hMP
                have hVP : P1 = vc := by omega
                subst hVP
                go_wp2_with (at_builtin; refine wpList_append_srcN _ (by rfl) _ _ 92 rfl 5 Z.heap.size 141 i9 rzero 40 Try.underlying92 hi9 hy0 hy1 hy2 rfl (by decide) (.slice none 0 0) 0 [] rfl (World.ownsRow_nil _ _ _ _) (.slice (some ⟨gr, 0, none⟩) 0 0) 0 (qcs (Lj.drop P1)) rfl (src_drop ov5.out hM.out P1 (Nat.le_refl _) 0 (by omega) 0 (by omega)) (qcs_one _) (by unfold maxLen; omega) (by omega) hZU ?_; intro r' W5 o5 b5)
                go_meet
                have hbe : beh s ek Lj = Lj.drop P1 := by unfold beh; rw [hF.out, if_pos rfl, hP.out, hP1'.out]
                have hcu : curP s ek Lj = ⟨qs, qk, qc, qv, ql⟩ := by unfold curP; rw [hF.out, if_pos rfl, hP.out, hpp.out]
                have hln : (Lj.drop P1).length = 0 := by rw [List.length_drop, hM.out]; omega
                refine ⟨?_, by rw [hcu]; exact x5.out.keep (b5.block _ hgxZ), bX5.trans (b5.mono bXZ.size)⟩
                rw [hbe, hln]
                simpa [Hid] using o5
              · obtain ⟨D, rfl⟩ : ∃ D, M = P1 + D := ⟨M - P1, by omega⟩
                obtain ⟨C, rfl⟩ : ∃ C, vc = P1 + C := ⟨vc - P1, by omega⟩
                have hC0 : ¬ C = 0 := by omega
                have hC1 : ¬ (P1 + C = P1) := by omega
                go_wp2_with (at_builtin; refine wpList_append_srcN _ (by rfl) _ _ 92 rfl 5 Z.heap.size 141 i9 rzero 40 Try.underlying92 hi9 hy0 hy1 hy2 rfl (by decide) (.slice none 0 0) 0 [] rfl (World.ownsRow_nil _ _ _ _) (.slice (some ⟨gr, P1 * 5, none⟩) D C) D (qcs (Lj.drop P1)) rfl (src_drop ov5.out hM.out P1 (by omega) (P1 * 5) (fun _ => rfl) D (by omega)) (qcs_one _) (by unfold maxLen; omega) (by omega) hZU ?_; intro r' W5 o5 b5)
                go_meet
                have hbe : beh s ek Lj = Lj.drop P1 := by unfold beh; rw [hF.out, if_pos rfl, hP.out, hP1'.out]
                have hcu : curP s ek Lj = ⟨qs, qk, qc, qv, ql⟩ := by unfold curP; rw [hF.out, if_pos rfl, hP.out, hpp.out]
                have hln : (Lj.drop P1).length = D := by rw [List.length_drop, hM.out]; omega
                refine ⟨?_, by rw [hcu]; exact x5.out.keep (b5.block _ hgxZ), bX5.trans (b5.mono bXZ.size)⟩
                rw [hbe, hln]
                simpa [Hid] using o5
          case rest =>
            obtain ⟨rr5, x5, bX5⟩ := hcut
            obtain ⟨V, hVe⟩ : ∃ V, V = wc := ⟨_, rfl⟩
            subst hVe
            obtain ⟨ra, rl, rc, hre⟩ : ∃ a l c, u9 = .slice a l c := by
              obtain ⟨_, h | ⟨g, cap, cur, h1, _⟩⟩ := rr5.out
              · exact ⟨_, _, _, h.1⟩
              · exact ⟨_, _, _, h1⟩
            subst hre
            have hgxV : gx < V.heap.size := x5.out.lt
            obtain ⟨⟨zs, zk, zc, zv, zl⟩, hcu⟩ : ∃ p, Hid (curP s ek Lj = p) := ⟨_, rfl⟩
            have hcc := curP_c (s := s) (k := ek) hcnt.out (by omega)
            rw [hcu.out] at x5 hcc
            obtain ⟨hc0, hc1, hc2⟩ := hcc
            simp only at hc0 hc1 hc2
            obtain ⟨v', hv'⟩ : ∃ v', Hid (jv K zc zv (inp K ex) = v') := ⟨_, rfl⟩
            have hor : bits BinOp.or IntKind.u64 (zl : Int) (el : Int) = ((zl ||| el : Nat) : Int) := u64_or_nat zl el hc2 hel
            obtain ⟨zl', hzl⟩ : ∃ z, zl ||| el = z := ⟨_, rfl⟩
            rw [hzl] at hor
            clear c0 c1 c2 c3
            go_upto_region 13 with fail
            go_cut [8] (fun t wx => t = .pointer (some ⟨gx, 0, none⟩) ∧ Hid (Qk wx gx ⟨zs, zk, zc + 1, v', zl'⟩) ∧ Hid (wx.ownsRow Z.heap.size 141 5 (.slice ra rl rc) (beh s ek Lj).length (qcs (beh s ek Lj))) ∧ Below X.heap.size X wx)
            case first =>
              refine wp_region_held_drew (S := fun w' => Below X.heap.size X w') (by kernel_rfl) bX5.drew (fun hHeld => ?_)
              obtain ⟨V1, hV1⟩ : ∃ V1, V1 = V.drew := ⟨_, rfl⟩
              have x6 : Qk V1 gx ⟨zs, zk, zc, zv, zl⟩ := by rw [hV1]; exact x5.out
              have rr6 : V1.ownsRow Z.heap.size 141 5 (.slice ra rl rc) (beh s ek Lj).length (qcs (beh s ek Lj)) := by rw [hV1]; exact rr5.out
              rw [← hV1] at hHeld ⊢
              have hB1 := hHeld
              clear hV1
              refine take_at (i := 0) (v := .pointer (some ⟨gx, 2, none⟩)) rfl rfl (by kernel_rfl) (by kernel_rfl) (by kernel_rfl) (fun _ _ _ h => h) (Or.inl ⟨by rfl, fun X _ => by go_simp⟩) hHeld ?_
              try simp only [Act.put, List.setIfInBounds_toArray, List.set_cons_zero, List.set_cons_succ]
              refine take_at (i := 2) (v := .pointer (some ⟨g0, 2, none⟩)) rfl rfl (by kernel_rfl) (by kernel_rfl) (by kernel_rfl) (fun _ _ _ h => h) (Or.inl ⟨by rfl, fun X _ => by go_simp⟩) hHeld ?_
              try simp only [Act.put, List.setIfInBounds_toArray, List.set_cons_zero, List.set_cons_succ]
              refine take_at (i := 3) (v := .int .i64 K) rfl rfl (by kernel_rfl) (by kernel_rfl) (by kernel_rfl) (fun _ _ _ h => h) (Or.inl ⟨by rfl, fun X hX => by obtain ⟨k0, k1, k2, k3⟩ := (q2.out.keep (hX.block _ q2.out.lt)).c; go_simp⟩) hHeld ?_
              try simp only [Act.put, List.setIfInBounds_toArray, List.set_cons_zero, List.set_cons_succ]
              refine take_at (i := 4) (v := .pointer (some ⟨g1, 2, none⟩)) rfl rfl (by kernel_rfl) (by kernel_rfl) (by kernel_rfl) (fun _ _ _ h => h) (Or.inl ⟨by rfl, fun X _ => by go_simp⟩) hHeld ?_
              try simp only [Act.put, List.setIfInBounds_toArray, List.set_cons_zero, List.set_cons_succ]
              refine take_at (i := 5) (v := .int .i64 ex) rfl rfl (by kernel_rfl) (by kernel_rfl) (by kernel_rfl) (fun _ _ _ h => h) (Or.inl ⟨by rfl, fun X hX => by obtain ⟨k0, k1, k2, k3⟩ := (e2.out.below hX).c; simp only at k0 k1 k2 k3; go_simp⟩) hHeld ?_
              try simp only [Act.put, List.setIfInBounds_toArray, List.set_cons_zero, List.set_cons_succ]
              refine take_at (i := 7) (v := .pointer (some ⟨gx, 4, none⟩)) rfl rfl (by kernel_rfl) (by kernel_rfl) (by kernel_rfl) (fun _ _ _ h => h) (Or.inl ⟨by rfl, fun X _ => by go_simp⟩) hHeld ?_
              try simp only [Act.put, List.setIfInBounds_toArray, List.set_cons_zero, List.set_cons_succ]
              refine take_at (i := 9) (v := .pointer (some ⟨g1, 3, none⟩)) rfl rfl (by kernel_rfl) (by kernel_rfl) (by kernel_rfl) (fun _ _ _ h => h) (Or.inl ⟨by rfl, fun X _ => by go_simp⟩) hHeld ?_
              try simp only [Act.put, List.setIfInBounds_toArray, List.set_cons_zero, List.set_cons_succ]
              refine take_at (i := 10) (v := .int .u64 (el : Int)) rfl rfl (by kernel_rfl) (by kernel_rfl) (by kernel_rfl) (fun _ _ _ h => h) (Or.inl ⟨by rfl, fun X hX => by obtain ⟨k0, k1, k2, k3⟩ := (e2.out.below hX).c; simp only at k0 k1 k2 k3; go_simp⟩) hHeld ?_
              try simp only [Act.put, List.setIfInBounds_toArray, List.set_cons_zero, List.set_cons_succ]
              obtain ⟨w0, w1', w2, w3, w4⟩ := x6.c
              simp only at w0 w1' w2 w3 w4
              refine wpAnyH_ready (rs := [1, 8]) (by kernel_rfl) (by simp) ?_
              refine (AllReadyH.cons rfl (fun K' hK => ?_) (AllReadyH.cons rfl (fun K' hK => ?_) AllReadyH.nil))
              · rw [if_pos (by rfl)]
                go_simp
                refine hK.out _ _ (hHeld) (fun hHeld => ?_)
                clear hK K'
                try simp only [Act.put, List.setIfInBounds_toArray, List.set_cons_zero, List.set_cons_succ]
                refine wpAnyH_ready (rs := [6, 8]) (by kernel_rfl) (by simp) ?_
                refine (AllReadyH.cons rfl (fun K' hK => ?_) (AllReadyH.cons rfl (fun K' hK => ?_) AllReadyH.nil))
                · rw [if_pos (by rfl)]
                  go_wp2_with fail
                  refine (radd_any zc K zv ex v' _ hv'.out hc0 (by omega)).mono ?_
                  rintro e V6 ⟨rfl, b6⟩
                  go_wp2_with fail
                  have hB6 := hB1.trans (b6.mono hB1.size)
                  have x7 := x6.keep (b6.block _ x6.lt)
                  have rr7 := own_alloc_below rr6 b6
                  clear w0 w1' w2 w3 w4
                  obtain ⟨w0, w1', w2, w3, w4⟩ := x7.c
                  simp only at w0 w1' w2 w3 w4
                  refine hK.out _ _ (hB6) (fun hHeld => ?_)
                  clear hK K'
                  try simp only [Act.put, List.setIfInBounds_toArray, List.set_cons_zero, List.set_cons_succ]
                  refine wpAnyH_ready (rs := [8]) (by kernel_rfl) (by simp) ?_
                  refine (AllReadyH.cons rfl (fun K' hK => ?_) AllReadyH.nil)
                  rw [if_pos (by rfl)]
                  go_simp
                  refine hK.out _ _ (hHeld) (fun hHeld => ?_)
                  clear hK K'
                  try simp only [Act.put, List.setIfInBounds_toArray, List.set_cons_zero, List.set_cons_succ]
                  refine take_at (i := 11) (v := .int .u64 (zl' : Int)) rfl rfl (by kernel_rfl) (by kernel_rfl) (by kernel_rfl) (fun _ _ _ h => h) (Or.inl ⟨by rfl, fun X _ => by go_simp⟩) hHeld ?_
                  try simp only [Act.put, List.setIfInBounds_toArray, List.set_cons_zero, List.set_cons_succ]
                  refine take_at (i := 12) (v := .pointer (some ⟨gx, 2, none⟩)) rfl rfl (by kernel_rfl) (by kernel_rfl) (by kernel_rfl) (fun _ _ _ h => h) (Or.inl ⟨by rfl, fun X _ => by go_simp⟩) hHeld ?_
                  try simp only [Act.put, List.setIfInBounds_toArray, List.set_cons_zero, List.set_cons_succ]
                  have f2 := x7.free 2
                  have f3 := x7.free 3
                  have f4 := x7.free 4
                  refine wpAnyH_ready (rs := [13]) (by kernel_rfl) (by simp) ?_
                  refine (AllReadyH.cons rfl (fun K' hK => ?_) AllReadyH.nil)
                  rw [if_pos (by rfl)]
                  go_simp
                  refine hK.out _ _ ((hB6.setCell (p := ⟨gx, 2, none⟩) hXg _).setCell (p := ⟨gx, 3, none⟩) hXg _) (fun hHeld => ?_)
                  clear hK K'
                  try simp only [Act.put, List.setIfInBounds_toArray, List.set_cons_zero, List.set_cons_succ]
                  refine take_at (i := 14) (v := .pointer (some ⟨gx, 4, none⟩)) rfl rfl (by kernel_rfl) (by kernel_rfl) (by kernel_rfl) (fun _ _ _ h => h) (Or.inl ⟨by rfl, fun X _ => by go_simp⟩) hHeld ?_
                  try simp only [Act.put, List.setIfInBounds_toArray, List.set_cons_zero, List.set_cons_succ]
                  refine wpAnyH_ready (rs := [15]) (by kernel_rfl) (by simp) ?_
                  refine (AllReadyH.cons rfl (fun K' hK => ?_) AllReadyH.nil)
                  rw [if_pos (by rfl)]
                  go_simp
                  refine hK.out _ _ (((hB6.setCell (p := ⟨gx, 2, none⟩) hXg _).setCell (p := ⟨gx, 3, none⟩) hXg _).setCell (p := ⟨gx, 4, none⟩) hXg _) (fun hHeld => ?_)
                  clear hK K'
                  try simp only [Act.put, List.setIfInBounds_toArray, List.set_cons_zero, List.set_cons_succ]
                  refine wpAnyH_done (by kernel_rfl) ?_ _
                  go_wp2_with fail
                  go_meet
                  exact ⟨rfl, x7.tk _ _ _, own_set (own_set (own_set rr7 (a := ⟨gx, 2, none⟩) (show gx < Z.heap.size from hgxZ) _) (a := ⟨gx, 3, none⟩) (show gx < Z.heap.size from hgxZ) _) (a := ⟨gx, 4, none⟩) (show gx < Z.heap.size from hgxZ) _, hHeld⟩
                · rw [if_pos (by rfl)]
                  go_simp
                  refine hK.out _ _ (hHeld) (fun hHeld => ?_)
                  clear hK K'
                  try simp only [Act.put, List.setIfInBounds_toArray, List.set_cons_zero, List.set_cons_succ]
                  refine take_at (i := 11) (v := .int .u64 (zl' : Int)) rfl rfl (by kernel_rfl) (by kernel_rfl) (by kernel_rfl) (fun _ _ _ h => h) (Or.inl ⟨by rfl, fun X _ => by go_simp⟩) hHeld ?_
                  try simp only [Act.put, List.setIfInBounds_toArray, List.set_cons_zero, List.set_cons_succ]
                  refine wpAnyH_ready (rs := [6]) (by kernel_rfl) (by simp) ?_
                  refine (AllReadyH.cons rfl (fun K' hK => ?_) AllReadyH.nil)
                  rw [if_pos (by rfl)]
                  go_wp2_with fail
                  refine (radd_any zc K zv ex v' _ hv'.out hc0 (by omega)).mono ?_
                  rintro e V6 ⟨rfl, b6⟩
                  go_wp2_with fail
                  have hB6 := hB1.trans (b6.mono hB1.size)
                  have x7 := x6.keep (b6.block _ x6.lt)
                  have rr7 := own_alloc_below rr6 b6
                  clear w0 w1' w2 w3 w4
                  obtain ⟨w0, w1', w2, w3, w4⟩ := x7.c
                  simp only at w0 w1' w2 w3 w4
                  refine hK.out _ _ (hB6) (fun hHeld => ?_)
                  clear hK K'
                  try simp only [Act.put, List.setIfInBounds_toArray, List.set_cons_zero, List.set_cons_succ]
                  refine take_at (i := 12) (v := .pointer (some ⟨gx, 2, none⟩)) rfl rfl (by kernel_rfl) (by kernel_rfl) (by kernel_rfl) (fun _ _ _ h => h) (Or.inl ⟨by rfl, fun X _ => by go_simp⟩) hHeld ?_
                  try simp only [Act.put, List.setIfInBounds_toArray, List.set_cons_zero, List.set_cons_succ]
                  have f2 := x7.free 2
                  have f3 := x7.free 3
                  have f4 := x7.free 4
                  refine wpAnyH_ready (rs := [13]) (by kernel_rfl) (by simp) ?_
                  refine (AllReadyH.cons rfl (fun K' hK => ?_) AllReadyH.nil)
                  rw [if_pos (by rfl)]
                  go_simp
                  refine hK.out _ _ ((hB6.setCell (p := ⟨gx, 2, none⟩) hXg _).setCell (p := ⟨gx, 3, none⟩) hXg _) (fun hHeld => ?_)
                  clear hK K'
                  try simp only [Act.put, List.setIfInBounds_toArray, List.set_cons_zero, List.set_cons_succ]
                  refine take_at (i := 14) (v := .pointer (some ⟨gx, 4, none⟩)) rfl rfl (by kernel_rfl) (by kernel_rfl) (by kernel_rfl) (fun _ _ _ h => h) (Or.inl ⟨by rfl, fun X _ => by go_simp⟩) hHeld ?_
                  try simp only [Act.put, List.setIfInBounds_toArray, List.set_cons_zero, List.set_cons_succ]
                  refine wpAnyH_ready (rs := [15]) (by kernel_rfl) (by simp) ?_
                  refine (AllReadyH.cons rfl (fun K' hK => ?_) AllReadyH.nil)
                  rw [if_pos (by rfl)]
                  go_simp
                  refine hK.out _ _ (((hB6.setCell (p := ⟨gx, 2, none⟩) hXg _).setCell (p := ⟨gx, 3, none⟩) hXg _).setCell (p := ⟨gx, 4, none⟩) hXg _) (fun hHeld => ?_)
                  clear hK K'
                  try simp only [Act.put, List.setIfInBounds_toArray, List.set_cons_zero, List.set_cons_succ]
                  refine wpAnyH_done (by kernel_rfl) ?_ _
                  go_wp2_with fail
                  go_meet
                  exact ⟨rfl, x7.tk _ _ _, own_set (own_set (own_set rr7 (a := ⟨gx, 2, none⟩) (show gx < Z.heap.size from hgxZ) _) (a := ⟨gx, 3, none⟩) (show gx < Z.heap.size from hgxZ) _) (a := ⟨gx, 4, none⟩) (show gx < Z.heap.size from hgxZ) _, hHeld⟩
              · rw [if_pos (by rfl)]
                go_simp
                refine hK.out _ _ (hHeld) (fun hHeld => ?_)
                clear hK K'
                try simp only [Act.put, List.setIfInBounds_toArray, List.set_cons_zero, List.set_cons_succ]
                refine take_at (i := 11) (v := .int .u64 (zl' : Int)) rfl rfl (by kernel_rfl) (by kernel_rfl) (by kernel_rfl) (fun _ _ _ h => h) (Or.inl ⟨by rfl, fun X _ => by go_simp⟩) hHeld ?_
                try simp only [Act.put, List.setIfInBounds_toArray, List.set_cons_zero, List.set_cons_succ]
                refine wpAnyH_ready (rs := [1]) (by kernel_rfl) (by simp) ?_
                refine (AllReadyH.cons rfl (fun K' hK => ?_) AllReadyH.nil)
                rw [if_pos (by rfl)]
                go_simp
                refine hK.out _ _ (hHeld) (fun hHeld => ?_)
                clear hK K'
                try simp only [Act.put, List.setIfInBounds_toArray, List.set_cons_zero, List.set_cons_succ]
                refine wpAnyH_ready (rs := [6]) (by kernel_rfl) (by simp) ?_
                refine (AllReadyH.cons rfl (fun K' hK => ?_) AllReadyH.nil)
                rw [if_pos (by rfl)]
                go_wp2_with fail
                refine (radd_any zc K zv ex v' _ hv'.out hc0 (by omega)).mono ?_
                rintro e V6 ⟨rfl, b6⟩
                go_wp2_with fail
                have hB6 := hB1.trans (b6.mono hB1.size)
                have x7 := x6.keep (b6.block _ x6.lt)
                have rr7 := own_alloc_below rr6 b6
                clear w0 w1' w2 w3 w4
                obtain ⟨w0, w1', w2, w3, w4⟩ := x7.c
                simp only at w0 w1' w2 w3 w4
                refine hK.out _ _ (hB6) (fun hHeld => ?_)
                clear hK K'
                try simp only [Act.put, List.setIfInBounds_toArray, List.set_cons_zero, List.set_cons_succ]
                refine take_at (i := 12) (v := .pointer (some ⟨gx, 2, none⟩)) rfl rfl (by kernel_rfl) (by kernel_rfl) (by kernel_rfl) (fun _ _ _ h => h) (Or.inl ⟨by rfl, fun X _ => by go_simp⟩) hHeld ?_
                try simp only [Act.put, List.setIfInBounds_toArray, List.set_cons_zero, List.set_cons_succ]
                have f2 := x7.free 2
                have f3 := x7.free 3
                have f4 := x7.free 4
                refine wpAnyH_ready (rs := [13]) (by kernel_rfl) (by simp) ?_
                refine (AllReadyH.cons rfl (fun K' hK => ?_) AllReadyH.nil)
                rw [if_pos (by rfl)]
                go_simp
                refine hK.out _ _ ((hB6.setCell (p := ⟨gx, 2, none⟩) hXg _).setCell (p := ⟨gx, 3, none⟩) hXg _) (fun hHeld => ?_)
                clear hK K'
                try simp only [Act.put, List.setIfInBounds_toArray, List.set_cons_zero, List.set_cons_succ]
                refine take_at (i := 14) (v := .pointer (some ⟨gx, 4, none⟩)) rfl rfl (by kernel_rfl) (by kernel_rfl) (by kernel_rfl) (fun _ _ _ h => h) (Or.inl ⟨by rfl, fun X _ => by go_simp⟩) hHeld ?_
                try simp only [Act.put, List.setIfInBounds_toArray, List.set_cons_zero, List.set_cons_succ]
                refine wpAnyH_ready (rs := [15]) (by kernel_rfl) (by simp) ?_
                refine (AllReadyH.cons rfl (fun K' hK => ?_) AllReadyH.nil)
                rw [if_pos (by rfl)]
                go_simp
                refine hK.out _ _ (((hB6.setCell (p := ⟨gx, 2, none⟩) hXg _).setCell (p := ⟨gx, 3, none⟩) hXg _).setCell (p := ⟨gx, 4, none⟩) hXg _) (fun hHeld => ?_)
                clear hK K'
                try simp only [Act.put, List.setIfInBounds_toArray, List.set_cons_zero, List.set_cons_succ]
                refine wpAnyH_done (by kernel_rfl) ?_ _
                go_wp2_with fail
                go_meet
                exact ⟨rfl, x7.tk _ _ _, own_set (own_set (own_set rr7 (a := ⟨gx, 2, none⟩) (show gx < Z.heap.size from hgxZ) _) (a := ⟨gx, 3, none⟩) (show gx < Z.heap.size from hgxZ) _) (a := ⟨gx, 4, none⟩) (show gx < Z.heap.size from hgxZ) _, hHeld⟩
            case rest =>
              obtain ⟨rfl, x6, rr6, bX6⟩ := hcut
              obtain ⟨T, hTe⟩ : ∃ T, T = wc := ⟨_, rfl⟩
              subst hTe
              clear x5 rr5 bX5
              have q6 : Hid (Qb T g0 n sl K (.slice (some ⟨gr, 0, none⟩) M vc)) := q2.out.keep (bX6.block _ q2.out.lt)
              have ov6 : Hid (T.ownsRow B 141 5 (.slice (some ⟨gr, 0, none⟩) M vc) M (qcs Lj)) := own_alloc_below ov2.out bX6
              have hg0X : g0 < X.heap.size := q2.out.lt
              have nR : ∀ k, (Value.slice ra rl rc).ownBlock = some k → k ≠ g0 := own_off rr6.out q6.out (by decide)
              have nV := own_off ov6.out q6.out (by decide)
              have hgxT : gx < T.heap.size := x6.out.lt
              have hXT := bX6.size
              have e6 : Hid (Evk T g1 ⟨et, ek, ex, el⟩) := e2.out.below bX6
              have r6 : Hid (Qb T g2 0 0 0 (.slice none 0 0)) := r1.out.keep ((bX6.block _ (Nat.lt_of_lt_of_le r1.out.lt hbx)).trans (bx.block _ r1.out.lt))
              have so6 : Hid (T.ownsRow W0.heap.size 3 1 (.slice (some ⟨gs, 0, none⟩) m uc) m (iv ss)) := own_alloc_below (own_alloc_below so1.out bx) bX6
              have nS := own_off so6.out q6.out (by decide)
              have bbT : Below w.heap.size w T := (bb1.trans (bx.mono bb1.size)).trans (bX6.mono (Nat.le_trans bb1.size hbx))
              have hBT : B ≤ T.heap.size := Nat.le_trans hB bbT.size
              have hgxg : gx ≠ g0 := by omega
              have hupd : Hid (upd K s ek ex el Lj = Lj.take P ++ [⟨zs, zk, zc + 1, v', zl'⟩] ++ beh s ek Lj) := by
                have h : upd K s ek ex el Lj = Lj.take P ++ [⟨zs, zk, zc + 1, v', zl'⟩] ++ beh s ek Lj := by
                  rw [upd_split, hcu.out, hP.out]
                  have e : tk K ex el ⟨zs, zk, zc, zv, zl⟩ = ⟨zs, zk, zc + 1, v', zl'⟩ := by
                    unfold tk
                    simp only [hv'.out, hzl, Pn.mk.injEq, and_true, true_and]
                    exact wrap64_small (by omega) (by omega)
                  rw [e]; simp
                exact h
              have hcnt2 : Hid (∀ p ∈ upd K s ek ex el Lj, 0 ≤ p.c ∧ p.c ≤ 900 + ((j + 1 : Nat) : Int) ∧ p.l < 18446744073709551616) := by
                intro p hp
                rcases mem_upd K s ek ex el Lj p hp with h | h | ⟨q, hq, h⟩
                · rw [h]; exact ⟨by simp [tk, fresh, wrap64_one], by simp [tk, fresh, wrap64_one]; omega, by simpa [tk, fresh] using hel⟩
                · have := hcnt.out p h; exact ⟨by omega, by omega, this.2.2⟩
                · have h2 := hcnt.out q hq
                  rw [h]
                  have hw : wrap64 (q.c + 1) = q.c + 1 := wrap64_small (by omega) (by omega)
                  refine ⟨?_, ?_, or_lt h2.2.2 hel⟩
                  · show 0 ≤ wrap64 (q.c + 1)
                    rw [hw]; omega
                  · show wrap64 (q.c + 1) ≤ _
                    rw [hw]; omega
              have hlen2 := upd_len K s ek ex el Lj
              have hbl := beh_le s ek Lj
              have hL0 : ([] : List Pn).length = 0 := rfl
              have hML : Lj.length = M := hM.out
              have hPV0 : (0 : Int) ≤ (P : Int) := by omega
              have hPV1 : (P : Int) ≤ (vc : Int) := by omega
              have hPV2 : P ≤ vc := by omega
              have hPV3 : ¬ vc < P := by omega
              have hPV4 : ¬ (vc : Int) < (P : Int) := by omega
              go_upto_region 14 with fail
              refine wp_region_held_drew (S := fun w' => Ch g0 g0 T w') (by kernel_rfl) (Ch.refl _ _ _).drew (fun hHeld => ?_)
              have hb0 : Below T.heap.size T T.drew := (Below.refl _ _).drew
              obtain ⟨V1, hV1⟩ : ∃ V1, V1 = T.drew := ⟨_, rfl⟩
              rw [← hV1] at hHeld hb0 ⊢
              clear hV1
              refine take_at (i := 1) (v := .pointer (some ⟨g0, 3, none⟩)) rfl rfl (by kernel_rfl) (by kernel_rfl) (by kernel_rfl) (fun _ _ _ h => h) (Or.inl ⟨by rfl, fun X _ => by go_simp⟩) hHeld ?_
              try simp only [Act.put, List.setIfInBounds_toArray, List.set_cons_zero, List.set_cons_succ]
              refine take_at (i := 3) (v := .int .i64 (P : Int)) rfl rfl (by kernel_rfl) (by kernel_rfl) (by kernel_rfl) (fun _ _ _ h => h) (Or.inl ⟨by rfl, fun X _ => by go_simp⟩) hHeld ?_
              try simp only [Act.put, List.setIfInBounds_toArray, List.set_cons_zero, List.set_cons_succ]
              refine take_at (i := 6) (v := .agg #[.int .i64 zs, .int .i64 zk, .int .i64 (zc + 1), .int .i64 v', .int .u64 (zl' : Int)]) rfl rfl (by kernel_rfl) (by kernel_rfl) (by kernel_rfl) (fun _ _ _ h => h) (Or.inl ⟨by rfl, fun X hX => by obtain ⟨k0, k1, k2, k3, k4⟩ := (x6.out.keep (hX.other gx hgxT hgxg hgxg)).c; simp only at k0 k1 k2 k3 k4; go_simp⟩) hHeld ?_
              try simp only [Act.put, List.setIfInBounds_toArray, List.set_cons_zero, List.set_cons_succ]
              refine take_at (i := 9) (v := .slice ra rl rc) rfl rfl (by kernel_rfl) (by kernel_rfl) (by kernel_rfl) (fun _ _ _ h => h) (Or.inl ⟨by rfl, fun X _ => by go_simp⟩) hHeld ?_
              try simp only [Act.put, List.setIfInBounds_toArray, List.set_cons_zero, List.set_cons_succ]
              apply share4 (R := fun Wz vz tz lz => Below T.heap.size T Wz ∧ Wz.ownsRow T.heap.size 141 5 vz (0 + P) ([] ++ qcs (Lj.take P)) ∧ Lit1 Wz lz ⟨zs, zk, zc + 1, v', zl'⟩)
              case main =>
                intro key
                refine wpAnyH_ready (rs := [0, 2, 7]) (by kernel_rfl) (by simp) ?_
                refine (AllReadyH.cons rfl (fun K' hK => ?_) (AllReadyH.cons rfl (fun K' hK => ?_) (AllReadyH.cons rfl (fun K' hK => ?_) AllReadyH.nil)))
                · rw [if_pos (by rfl)]
                  go_simp
                  have hb1 : Below T.heap.size T (V1.alloc (.cells #[] 141)) := hb0.alloc hb0.size _
                  have ow1 := own_emptyQ V1 T.heap.size V1.heap.size hb0.size rfl
                  refine hK.out _ _ (Ch.ofBelow hb1) (fun hHeld => ?_)
                  clear hK K'
                  try simp only [Act.put, List.setIfInBounds_toArray, List.set_cons_zero, List.set_cons_succ]
                  refine wpAnyH_ready (rs := [2, 7]) (by kernel_rfl) (by simp) ?_
                  refine (AllReadyH.cons rfl (fun K' hK => ?_) (AllReadyH.cons rfl (fun K' hK => ?_) AllReadyH.nil))
                  · rw [if_pos (by rfl)]
                    obtain ⟨k0, k1, k2, k3⟩ := (q6.out.keep (hb1.block _ (Nat.lt_of_lt_of_le hg0X hXT))).c
                    go_simp
                    clear k0 k1 k2 k3
                    refine hK.out _ _ (hHeld) (fun hHeld => ?_)
                    clear hK K'
                    try simp only [Act.put, List.setIfInBounds_toArray, List.set_cons_zero, List.set_cons_succ]
                    refine take_at (i := 4) (v := .slice (some ⟨gr, 0, none⟩) P vc) rfl rfl (by kernel_rfl) (by kernel_rfl) (by kernel_rfl) (fun _ _ _ h => h) (Or.inl ⟨by rfl, fun X _ => by go_simp⟩) hHeld ?_
                    try simp only [Act.put, List.setIfInBounds_toArray, List.set_cons_zero, List.set_cons_succ]
                    refine wpAnyH_ready (rs := [5, 7]) (by kernel_rfl) (by simp) ?_
                    refine (AllReadyH.cons rfl (fun K' hK => ?_) (AllReadyH.cons rfl (fun K' hK => ?_) AllReadyH.nil))
                    · refine step_append_srcN rfl rfl (.tmp 122) (.tmp 126) 92 rfl 5 T.heap.size 141 i9 rzero 40 Try.underlying92 hi9 hy0 hy1 hy2 rfl (by decide) (.slice (some ⟨V1.heap.size, 0, none⟩) 0 0) 0 [] rfl ow1 (.slice (some ⟨gr, 0, none⟩) P vc) P (qcs (Lj.take P)) rfl (src_take (own_alloc_below ov6.out hb1) hM.out P hPle) (qcs_one _) (by unfold maxLen; omega) (by omega) hb1.size ?_
                      intro v5 W5 own5 b5 g5
                      have hb3 : Below T.heap.size T W5 := hb1.trans b5
                      refine hK.out _ _ (Ch.ofBelow hb3) (fun hHeld => ?_)
                      clear hK K'
                      try simp only [Act.put, List.setIfInBounds_toArray, List.set_cons_zero, List.set_cons_succ]
                      refine wpAnyH_ready (rs := [7]) (by kernel_rfl) (by simp) ?_
                      refine (AllReadyH.cons rfl (fun K' hK => ?_) AllReadyH.nil)
                      rw [if_pos (by rfl)]
                      go_simp
                      have hb4 : Below T.heap.size T (W5.alloc (.cells #[.int .i64 zs, .int .i64 zk, .int .i64 (zc + 1), .int .i64 v', .int .u64 (zl' : Int)] 141)) := hb3.alloc hb3.size _
                      have lt4 := lit1_new W5 ⟨zs, zk, zc + 1, v', zl'⟩ W5.heap.size rfl
                      have ow4 := own5.alloc (.cells #[.int .i64 zs, .int .i64 zk, .int .i64 (zc + 1), .int .i64 v', .int .u64 (zl' : Int)] 141)
                      refine hK.out _ _ (Ch.ofBelow hb4) (fun hHeld => ?_)
                      clear hK K'
                      try simp only [Act.put, List.setIfInBounds_toArray, List.set_cons_zero, List.set_cons_succ]
                      have hRz := And.intro hb4 (And.intro ow4 lt4)
                      revert hRz
                      generalize (W5.alloc (.cells #[.int .i64 zs, .int .i64 zk, .int .i64 (zc + 1), .int .i64 v', .int .u64 (zl' : Int)] 141)) = Wz
                      generalize W5.heap.size = lz
                      generalize V1.heap.size = tz
                      intro hRz
                      exact key Wz v5 tz lz hRz
                    · rw [if_pos (by rfl)]
                      go_simp
                      have hb5 : Below T.heap.size T ((V1.alloc (.cells #[] 141)).alloc (.cells #[.int .i64 zs, .int .i64 zk, .int .i64 (zc + 1), .int .i64 v', .int .u64 (zl' : Int)] 141)) := hb1.alloc hb1.size _
                      have lt5 := lit1_new (V1.alloc (.cells #[] 141)) ⟨zs, zk, zc + 1, v', zl'⟩ (V1.heap.size + 1) (size_allocQ _ _)
                      have ow5 := ow1.alloc (.cells #[.int .i64 zs, .int .i64 zk, .int .i64 (zc + 1), .int .i64 v', .int .u64 (zl' : Int)] 141)
                      refine hK.out _ _ (Ch.ofBelow hb5) (fun hHeld => ?_)
                      clear hK K'
                      try simp only [Act.put, List.setIfInBounds_toArray, List.set_cons_zero, List.set_cons_succ]
                      refine wpAnyH_ready (rs := [5]) (by kernel_rfl) (by simp) ?_
                      refine (AllReadyH.cons rfl (fun K' hK => ?_) AllReadyH.nil)
                      refine step_append_srcN rfl rfl (.tmp 122) (.tmp 126) 92 rfl 5 T.heap.size 141 i9 rzero 40 Try.underlying92 hi9 hy0 hy1 hy2 rfl (by decide) (.slice (some ⟨V1.heap.size, 0, none⟩) 0 0) 0 [] rfl ow5 (.slice (some ⟨gr, 0, none⟩) P vc) P (qcs (Lj.take P)) rfl (src_take (own_alloc_below ov6.out hb5) hM.out P hPle) (qcs_one _) (by unfold maxLen; omega) (by omega) hb5.size ?_
                      intro v5 W5 own5 b5 g5
                      have hb6 : Below T.heap.size T W5 := hb5.trans b5
                      have lt6 : Lit1 W5 ((V1.heap.size + 1)) _ := (g5.block _ lt5.lt (by simp [Value.ownBlock])).trans lt5
                      refine hK.out _ _ (Ch.ofBelow hb6) (fun hHeld => ?_)
                      clear hK K'
                      try simp only [Act.put, List.setIfInBounds_toArray, List.set_cons_zero, List.set_cons_succ]
                      have hRz := And.intro hb6 (And.intro own5 lt6)
                      revert hRz
                      generalize (V1.heap.size + 1) = lz
                      generalize V1.heap.size = tz
                      intro hRz
                      exact key W5 v5 tz lz hRz
                  · rw [if_pos (by rfl)]
                    go_simp
                    have hb7 : Below T.heap.size T ((V1.alloc (.cells #[] 141)).alloc (.cells #[.int .i64 zs, .int .i64 zk, .int .i64 (zc + 1), .int .i64 v', .int .u64 (zl' : Int)] 141)) := hb1.alloc hb1.size _
                    have lt7 := lit1_new (V1.alloc (.cells #[] 141)) ⟨zs, zk, zc + 1, v', zl'⟩ (V1.heap.size + 1) (size_allocQ _ _)
                    have ow7 := ow1.alloc (.cells #[.int .i64 zs, .int .i64 zk, .int .i64 (zc + 1), .int .i64 v', .int .u64 (zl' : Int)] 141)
                    refine hK.out _ _ (Ch.ofBelow hb7) (fun hHeld => ?_)
                    clear hK K'
                    try simp only [Act.put, List.setIfInBounds_toArray, List.set_cons_zero, List.set_cons_succ]
                    refine wpAnyH_ready (rs := [2]) (by kernel_rfl) (by simp) ?_
                    refine (AllReadyH.cons rfl (fun K' hK => ?_) AllReadyH.nil)
                    rw [if_pos (by rfl)]
                    obtain ⟨k0, k1, k2, k3⟩ := (q6.out.keep (hb7.block _ (Nat.lt_of_lt_of_le hg0X hXT))).c
                    go_simp
                    clear k0 k1 k2 k3
                    refine hK.out _ _ (hHeld) (fun hHeld => ?_)
                    clear hK K'
                    try simp only [Act.put, List.setIfInBounds_toArray, List.set_cons_zero, List.set_cons_succ]
                    refine take_at (i := 4) (v := .slice (some ⟨gr, 0, none⟩) P vc) rfl rfl (by kernel_rfl) (by kernel_rfl) (by kernel_rfl) (fun _ _ _ h => h) (Or.inl ⟨by rfl, fun X _ => by go_simp⟩) hHeld ?_
                    try simp only [Act.put, List.setIfInBounds_toArray, List.set_cons_zero, List.set_cons_succ]
                    refine wpAnyH_ready (rs := [5]) (by kernel_rfl) (by simp) ?_
                    refine (AllReadyH.cons rfl (fun K' hK => ?_) AllReadyH.nil)
                    refine step_append_srcN rfl rfl (.tmp 122) (.tmp 126) 92 rfl 5 T.heap.size 141 i9 rzero 40 Try.underlying92 hi9 hy0 hy1 hy2 rfl (by decide) (.slice (some ⟨V1.heap.size, 0, none⟩) 0 0) 0 [] rfl ow7 (.slice (some ⟨gr, 0, none⟩) P vc) P (qcs (Lj.take P)) rfl (src_take (own_alloc_below ov6.out hb7) hM.out P hPle) (qcs_one _) (by unfold maxLen; omega) (by omega) hb7.size ?_
                    intro v5 W5 own5 b5 g5
                    have hb9 : Below T.heap.size T W5 := hb7.trans b5
                    have lt9 : Lit1 W5 ((V1.heap.size + 1)) _ := (g5.block _ lt7.lt (by simp [Value.ownBlock])).trans lt7
                    refine hK.out _ _ (Ch.ofBelow hb9) (fun hHeld => ?_)
                    clear hK K'
                    try simp only [Act.put, List.setIfInBounds_toArray, List.set_cons_zero, List.set_cons_succ]
                    have hRz := And.intro hb9 (And.intro own5 lt9)
                    revert hRz
                    generalize (V1.heap.size + 1) = lz
                    generalize V1.heap.size = tz
                    intro hRz
                    exact key W5 v5 tz lz hRz
                · rw [if_pos (by rfl)]
                  obtain ⟨k0, k1, k2, k3⟩ := (q6.out.keep (hb0.block _ (Nat.lt_of_lt_of_le hg0X hXT))).c
                  go_simp
                  clear k0 k1 k2 k3
                  refine hK.out _ _ (hHeld) (fun hHeld => ?_)
                  clear hK K'
                  try simp only [Act.put, List.setIfInBounds_toArray, List.set_cons_zero, List.set_cons_succ]
                  refine take_at (i := 4) (v := .slice (some ⟨gr, 0, none⟩) P vc) rfl rfl (by kernel_rfl) (by kernel_rfl) (by kernel_rfl) (fun _ _ _ h => h) (Or.inl ⟨by rfl, fun X _ => by go_simp⟩) hHeld ?_
                  try simp only [Act.put, List.setIfInBounds_toArray, List.set_cons_zero, List.set_cons_succ]
                  refine wpAnyH_ready (rs := [0, 7]) (by kernel_rfl) (by simp) ?_
                  refine (AllReadyH.cons rfl (fun K' hK => ?_) (AllReadyH.cons rfl (fun K' hK => ?_) AllReadyH.nil))
                  · rw [if_pos (by rfl)]
                    go_simp
                    have hb11 : Below T.heap.size T (V1.alloc (.cells #[] 141)) := hb0.alloc hb0.size _
                    have ow11 := own_emptyQ V1 T.heap.size V1.heap.size hb0.size rfl
                    refine hK.out _ _ (Ch.ofBelow hb11) (fun hHeld => ?_)
                    clear hK K'
                    try simp only [Act.put, List.setIfInBounds_toArray, List.set_cons_zero, List.set_cons_succ]
                    refine wpAnyH_ready (rs := [5, 7]) (by kernel_rfl) (by simp) ?_
                    refine (AllReadyH.cons rfl (fun K' hK => ?_) (AllReadyH.cons rfl (fun K' hK => ?_) AllReadyH.nil))
                    · refine step_append_srcN rfl rfl (.tmp 122) (.tmp 126) 92 rfl 5 T.heap.size 141 i9 rzero 40 Try.underlying92 hi9 hy0 hy1 hy2 rfl (by decide) (.slice (some ⟨V1.heap.size, 0, none⟩) 0 0) 0 [] rfl ow11 (.slice (some ⟨gr, 0, none⟩) P vc) P (qcs (Lj.take P)) rfl (src_take (own_alloc_below ov6.out hb11) hM.out P hPle) (qcs_one _) (by unfold maxLen; omega) (by omega) hb11.size ?_
                      intro v5 W5 own5 b5 g5
                      have hb12 : Below T.heap.size T W5 := hb11.trans b5
                      refine hK.out _ _ (Ch.ofBelow hb12) (fun hHeld => ?_)
                      clear hK K'
                      try simp only [Act.put, List.setIfInBounds_toArray, List.set_cons_zero, List.set_cons_succ]
                      refine wpAnyH_ready (rs := [7]) (by kernel_rfl) (by simp) ?_
                      refine (AllReadyH.cons rfl (fun K' hK => ?_) AllReadyH.nil)
                      rw [if_pos (by rfl)]
                      go_simp
                      have hb13 : Below T.heap.size T (W5.alloc (.cells #[.int .i64 zs, .int .i64 zk, .int .i64 (zc + 1), .int .i64 v', .int .u64 (zl' : Int)] 141)) := hb12.alloc hb12.size _
                      have lt13 := lit1_new W5 ⟨zs, zk, zc + 1, v', zl'⟩ W5.heap.size rfl
                      have ow13 := own5.alloc (.cells #[.int .i64 zs, .int .i64 zk, .int .i64 (zc + 1), .int .i64 v', .int .u64 (zl' : Int)] 141)
                      refine hK.out _ _ (Ch.ofBelow hb13) (fun hHeld => ?_)
                      clear hK K'
                      try simp only [Act.put, List.setIfInBounds_toArray, List.set_cons_zero, List.set_cons_succ]
                      have hRz := And.intro hb13 (And.intro ow13 lt13)
                      revert hRz
                      generalize (W5.alloc (.cells #[.int .i64 zs, .int .i64 zk, .int .i64 (zc + 1), .int .i64 v', .int .u64 (zl' : Int)] 141)) = Wz
                      generalize W5.heap.size = lz
                      generalize V1.heap.size = tz
                      intro hRz
                      exact key Wz v5 tz lz hRz
                    · rw [if_pos (by rfl)]
                      go_simp
                      have hb14 : Below T.heap.size T ((V1.alloc (.cells #[] 141)).alloc (.cells #[.int .i64 zs, .int .i64 zk, .int .i64 (zc + 1), .int .i64 v', .int .u64 (zl' : Int)] 141)) := hb11.alloc hb11.size _
                      have lt14 := lit1_new (V1.alloc (.cells #[] 141)) ⟨zs, zk, zc + 1, v', zl'⟩ (V1.heap.size + 1) (size_allocQ _ _)
                      have ow14 := ow11.alloc (.cells #[.int .i64 zs, .int .i64 zk, .int .i64 (zc + 1), .int .i64 v', .int .u64 (zl' : Int)] 141)
                      refine hK.out _ _ (Ch.ofBelow hb14) (fun hHeld => ?_)
                      clear hK K'
                      try simp only [Act.put, List.setIfInBounds_toArray, List.set_cons_zero, List.set_cons_succ]
                      refine wpAnyH_ready (rs := [5]) (by kernel_rfl) (by simp) ?_
                      refine (AllReadyH.cons rfl (fun K' hK => ?_) AllReadyH.nil)
                      refine step_append_srcN rfl rfl (.tmp 122) (.tmp 126) 92 rfl 5 T.heap.size 141 i9 rzero 40 Try.underlying92 hi9 hy0 hy1 hy2 rfl (by decide) (.slice (some ⟨V1.heap.size, 0, none⟩) 0 0) 0 [] rfl ow14 (.slice (some ⟨gr, 0, none⟩) P vc) P (qcs (Lj.take P)) rfl (src_take (own_alloc_below ov6.out hb14) hM.out P hPle) (qcs_one _) (by unfold maxLen; omega) (by omega) hb14.size ?_
                      intro v5 W5 own5 b5 g5
                      have hb15 : Below T.heap.size T W5 := hb14.trans b5
                      have lt15 : Lit1 W5 ((V1.heap.size + 1)) _ := (g5.block _ lt14.lt (by simp [Value.ownBlock])).trans lt14
                      refine hK.out _ _ (Ch.ofBelow hb15) (fun hHeld => ?_)
                      clear hK K'
                      try simp only [Act.put, List.setIfInBounds_toArray, List.set_cons_zero, List.set_cons_succ]
                      have hRz := And.intro hb15 (And.intro own5 lt15)
                      revert hRz
                      generalize (V1.heap.size + 1) = lz
                      generalize V1.heap.size = tz
                      intro hRz
                      exact key W5 v5 tz lz hRz
                  · rw [if_pos (by rfl)]
                    go_simp
                    have hb16 : Below T.heap.size T (V1.alloc (.cells #[.int .i64 zs, .int .i64 zk, .int .i64 (zc + 1), .int .i64 v', .int .u64 (zl' : Int)] 141)) := hb0.alloc hb0.size _
                    have lt16 := lit1_new V1 ⟨zs, zk, zc + 1, v', zl'⟩ V1.heap.size rfl
                    refine hK.out _ _ (Ch.ofBelow hb16) (fun hHeld => ?_)
                    clear hK K'
                    try simp only [Act.put, List.setIfInBounds_toArray, List.set_cons_zero, List.set_cons_succ]
                    refine wpAnyH_ready (rs := [0]) (by kernel_rfl) (by simp) ?_
                    refine (AllReadyH.cons rfl (fun K' hK => ?_) AllReadyH.nil)
                    rw [if_pos (by rfl)]
                    go_simp
                    have hb17 : Below T.heap.size T ((V1.alloc (.cells #[.int .i64 zs, .int .i64 zk, .int .i64 (zc + 1), .int .i64 v', .int .u64 (zl' : Int)] 141)).alloc (.cells #[] 141)) := hb16.alloc hb16.size _
                    have ow17 := own_emptyQ (V1.alloc (.cells #[.int .i64 zs, .int .i64 zk, .int .i64 (zc + 1), .int .i64 v', .int .u64 (zl' : Int)] 141)) T.heap.size (V1.heap.size + 1) hb16.size (size_allocQ _ _)
                    have lt17 : Lit1 ((V1.alloc (.cells #[.int .i64 zs, .int .i64 zk, .int .i64 (zc + 1), .int .i64 v', .int .u64 (zl' : Int)] 141)).alloc (.cells #[] 141)) V1.heap.size _ := ((below_alloc (V1.alloc (.cells #[.int .i64 zs, .int .i64 zk, .int .i64 (zc + 1), .int .i64 v', .int .u64 (zl' : Int)] 141)) _).block _ lt16.lt).trans lt16
                    refine hK.out _ _ (Ch.ofBelow hb17) (fun hHeld => ?_)
                    clear hK K'
                    try simp only [Act.put, List.setIfInBounds_toArray, List.set_cons_zero, List.set_cons_succ]
                    refine wpAnyH_ready (rs := [5]) (by kernel_rfl) (by simp) ?_
                    refine (AllReadyH.cons rfl (fun K' hK => ?_) AllReadyH.nil)
                    refine step_append_srcN rfl rfl (.tmp 122) (.tmp 126) 92 rfl 5 T.heap.size 141 i9 rzero 40 Try.underlying92 hi9 hy0 hy1 hy2 rfl (by decide) (.slice (some ⟨(V1.heap.size + 1), 0, none⟩) 0 0) 0 [] rfl ow17 (.slice (some ⟨gr, 0, none⟩) P vc) P (qcs (Lj.take P)) rfl (src_take (own_alloc_below ov6.out hb17) hM.out P hPle) (qcs_one _) (by unfold maxLen; omega) (by omega) hb17.size ?_
                    intro v5 W5 own5 b5 g5
                    have hb18 : Below T.heap.size T W5 := hb17.trans b5
                    have lt18 : Lit1 W5 (V1.heap.size) _ := (g5.block _ lt17.lt (by simp [Value.ownBlock])).trans lt17
                    refine hK.out _ _ (Ch.ofBelow hb18) (fun hHeld => ?_)
                    clear hK K'
                    try simp only [Act.put, List.setIfInBounds_toArray, List.set_cons_zero, List.set_cons_succ]
                    have hRz := And.intro hb18 (And.intro own5 lt18)
                    revert hRz
                    generalize (V1.heap.size + 1) = tz
                    generalize V1.heap.size = lz
                    intro hRz
                    exact key W5 v5 tz lz hRz
                · rw [if_pos (by rfl)]
                  go_simp
                  have hb19 : Below T.heap.size T (V1.alloc (.cells #[.int .i64 zs, .int .i64 zk, .int .i64 (zc + 1), .int .i64 v', .int .u64 (zl' : Int)] 141)) := hb0.alloc hb0.size _
                  have lt19 := lit1_new V1 ⟨zs, zk, zc + 1, v', zl'⟩ V1.heap.size rfl
                  refine hK.out _ _ (Ch.ofBelow hb19) (fun hHeld => ?_)
                  clear hK K'
                  try simp only [Act.put, List.setIfInBounds_toArray, List.set_cons_zero, List.set_cons_succ]
                  refine wpAnyH_ready (rs := [0, 2]) (by kernel_rfl) (by simp) ?_
                  refine (AllReadyH.cons rfl (fun K' hK => ?_) (AllReadyH.cons rfl (fun K' hK => ?_) AllReadyH.nil))
                  · rw [if_pos (by rfl)]
                    go_simp
                    have hb20 : Below T.heap.size T ((V1.alloc (.cells #[.int .i64 zs, .int .i64 zk, .int .i64 (zc + 1), .int .i64 v', .int .u64 (zl' : Int)] 141)).alloc (.cells #[] 141)) := hb19.alloc hb19.size _
                    have ow20 := own_emptyQ (V1.alloc (.cells #[.int .i64 zs, .int .i64 zk, .int .i64 (zc + 1), .int .i64 v', .int .u64 (zl' : Int)] 141)) T.heap.size (V1.heap.size + 1) hb19.size (size_allocQ _ _)
                    have lt20 : Lit1 ((V1.alloc (.cells #[.int .i64 zs, .int .i64 zk, .int .i64 (zc + 1), .int .i64 v', .int .u64 (zl' : Int)] 141)).alloc (.cells #[] 141)) V1.heap.size _ := ((below_alloc (V1.alloc (.cells #[.int .i64 zs, .int .i64 zk, .int .i64 (zc + 1), .int .i64 v', .int .u64 (zl' : Int)] 141)) _).block _ lt19.lt).trans lt19
                    refine hK.out _ _ (Ch.ofBelow hb20) (fun hHeld => ?_)
                    clear hK K'
                    try simp only [Act.put, List.setIfInBounds_toArray, List.set_cons_zero, List.set_cons_succ]
                    refine wpAnyH_ready (rs := [2]) (by kernel_rfl) (by simp) ?_
                    refine (AllReadyH.cons rfl (fun K' hK => ?_) AllReadyH.nil)
                    rw [if_pos (by rfl)]
                    obtain ⟨k0, k1, k2, k3⟩ := (q6.out.keep (hb20.block _ (Nat.lt_of_lt_of_le hg0X hXT))).c
                    go_simp
                    clear k0 k1 k2 k3
                    refine hK.out _ _ (hHeld) (fun hHeld => ?_)
                    clear hK K'
                    try simp only [Act.put, List.setIfInBounds_toArray, List.set_cons_zero, List.set_cons_succ]
                    refine take_at (i := 4) (v := .slice (some ⟨gr, 0, none⟩) P vc) rfl rfl (by kernel_rfl) (by kernel_rfl) (by kernel_rfl) (fun _ _ _ h => h) (Or.inl ⟨by rfl, fun X _ => by go_simp⟩) hHeld ?_
                    try simp only [Act.put, List.setIfInBounds_toArray, List.set_cons_zero, List.set_cons_succ]
                    refine wpAnyH_ready (rs := [5]) (by kernel_rfl) (by simp) ?_
                    refine (AllReadyH.cons rfl (fun K' hK => ?_) AllReadyH.nil)
                    refine step_append_srcN rfl rfl (.tmp 122) (.tmp 126) 92 rfl 5 T.heap.size 141 i9 rzero 40 Try.underlying92 hi9 hy0 hy1 hy2 rfl (by decide) (.slice (some ⟨(V1.heap.size + 1), 0, none⟩) 0 0) 0 [] rfl ow20 (.slice (some ⟨gr, 0, none⟩) P vc) P (qcs (Lj.take P)) rfl (src_take (own_alloc_below ov6.out hb20) hM.out P hPle) (qcs_one _) (by unfold maxLen; omega) (by omega) hb20.size ?_
                    intro v5 W5 own5 b5 g5
                    have hb22 : Below T.heap.size T W5 := hb20.trans b5
                    have lt22 : Lit1 W5 (V1.heap.size) _ := (g5.block _ lt20.lt (by simp [Value.ownBlock])).trans lt20
                    refine hK.out _ _ (Ch.ofBelow hb22) (fun hHeld => ?_)
                    clear hK K'
                    try simp only [Act.put, List.setIfInBounds_toArray, List.set_cons_zero, List.set_cons_succ]
                    have hRz := And.intro hb22 (And.intro own5 lt22)
                    revert hRz
                    generalize (V1.heap.size + 1) = tz
                    generalize V1.heap.size = lz
                    intro hRz
                    exact key W5 v5 tz lz hRz
                  · rw [if_pos (by rfl)]
                    obtain ⟨k0, k1, k2, k3⟩ := (q6.out.keep (hb19.block _ (Nat.lt_of_lt_of_le hg0X hXT))).c
                    go_simp
                    clear k0 k1 k2 k3
                    refine hK.out _ _ (hHeld) (fun hHeld => ?_)
                    clear hK K'
                    try simp only [Act.put, List.setIfInBounds_toArray, List.set_cons_zero, List.set_cons_succ]
                    refine take_at (i := 4) (v := .slice (some ⟨gr, 0, none⟩) P vc) rfl rfl (by kernel_rfl) (by kernel_rfl) (by kernel_rfl) (fun _ _ _ h => h) (Or.inl ⟨by rfl, fun X _ => by go_simp⟩) hHeld ?_
                    try simp only [Act.put, List.setIfInBounds_toArray, List.set_cons_zero, List.set_cons_succ]
                    refine wpAnyH_ready (rs := [0]) (by kernel_rfl) (by simp) ?_
                    refine (AllReadyH.cons rfl (fun K' hK => ?_) AllReadyH.nil)
                    rw [if_pos (by rfl)]
                    go_simp
                    have hb24 : Below T.heap.size T ((V1.alloc (.cells #[.int .i64 zs, .int .i64 zk, .int .i64 (zc + 1), .int .i64 v', .int .u64 (zl' : Int)] 141)).alloc (.cells #[] 141)) := hb19.alloc hb19.size _
                    have ow24 := own_emptyQ (V1.alloc (.cells #[.int .i64 zs, .int .i64 zk, .int .i64 (zc + 1), .int .i64 v', .int .u64 (zl' : Int)] 141)) T.heap.size (V1.heap.size + 1) hb19.size (size_allocQ _ _)
                    have lt24 : Lit1 ((V1.alloc (.cells #[.int .i64 zs, .int .i64 zk, .int .i64 (zc + 1), .int .i64 v', .int .u64 (zl' : Int)] 141)).alloc (.cells #[] 141)) V1.heap.size _ := ((below_alloc (V1.alloc (.cells #[.int .i64 zs, .int .i64 zk, .int .i64 (zc + 1), .int .i64 v', .int .u64 (zl' : Int)] 141)) _).block _ lt19.lt).trans lt19
                    refine hK.out _ _ (Ch.ofBelow hb24) (fun hHeld => ?_)
                    clear hK K'
                    try simp only [Act.put, List.setIfInBounds_toArray, List.set_cons_zero, List.set_cons_succ]
                    refine wpAnyH_ready (rs := [5]) (by kernel_rfl) (by simp) ?_
                    refine (AllReadyH.cons rfl (fun K' hK => ?_) AllReadyH.nil)
                    refine step_append_srcN rfl rfl (.tmp 122) (.tmp 126) 92 rfl 5 T.heap.size 141 i9 rzero 40 Try.underlying92 hi9 hy0 hy1 hy2 rfl (by decide) (.slice (some ⟨(V1.heap.size + 1), 0, none⟩) 0 0) 0 [] rfl ow24 (.slice (some ⟨gr, 0, none⟩) P vc) P (qcs (Lj.take P)) rfl (src_take (own_alloc_below ov6.out hb24) hM.out P hPle) (qcs_one _) (by unfold maxLen; omega) (by omega) hb24.size ?_
                    intro v5 W5 own5 b5 g5
                    have hb25 : Below T.heap.size T W5 := hb24.trans b5
                    have lt25 : Lit1 W5 (V1.heap.size) _ := (g5.block _ lt24.lt (by simp [Value.ownBlock])).trans lt24
                    refine hK.out _ _ (Ch.ofBelow hb25) (fun hHeld => ?_)
                    clear hK K'
                    try simp only [Act.put, List.setIfInBounds_toArray, List.set_cons_zero, List.set_cons_succ]
                    have hRz := And.intro hb25 (And.intro own5 lt25)
                    revert hRz
                    generalize (V1.heap.size + 1) = tz
                    generalize V1.heap.size = lz
                    intro hRz
                    exact key W5 v5 tz lz hRz
              case key =>
                rintro W5 v5 tz lz ⟨hbz, own5, ltz⟩
                clear hHeld
                have hHeld : Ch g0 g0 T W5 := Ch.ofBelow hbz
                refine wpAnyH_ready (rs := [8]) (by kernel_rfl) (by simp) ?_
                refine (AllReadyH.cons rfl (fun K' hK => ?_) AllReadyH.nil)
                refine step_append_srcN rfl rfl (.tmp 127) (.tmp 129) 92 rfl 5 T.heap.size 141 i9 rzero 40 Try.underlying92 hi9 hy0 hy1 hy2 rfl (by decide) v5 (0 + P) ([] ++ qcs (Lj.take P)) rfl own5 (.slice (some ⟨lz, 0, none⟩) 1 1) 1 (qcs [⟨zs, zk, zc + 1, v', zl'⟩]) rfl ltz.src (qcs_one _) (by unfold maxLen; omega) (by omega) hbz.size ?_
                intro v8 W8 own8 b8 g8
                have hbe : Below T.heap.size T W8 := hbz.trans b8
                refine hK.out _ _ (Ch.ofBelow hbe) (fun hHeld => ?_)
                clear hK K'
                try simp only [Act.put, List.setIfInBounds_toArray, List.set_cons_zero, List.set_cons_succ]
                refine wpAnyH_ready (rs := [10]) (by kernel_rfl) (by simp) ?_
                refine (AllReadyH.cons rfl (fun K' hK => ?_) AllReadyH.nil)
                refine step_append_srcN rfl rfl (.tmp 130) (.tmp 131) 92 rfl 5 T.heap.size 141 i9 rzero 40 Try.underlying92 hi9 hy0 hy1 hy2 rfl (by decide) v8 (0 + P + 1) ([] ++ qcs (Lj.take P) ++ qcs [⟨zs, zk, zc + 1, v', zl'⟩]) rfl own8 (.slice ra rl rc) (beh s ek Lj).length (qcs (beh s ek Lj)) rfl (srcN_own (own_alloc_below rr6.out hbe)) (qcs_one _) (by unfold maxLen; omega) (by omega) hbe.size ?_
                intro v10 W10 own10 b10 g10
                have hbf : Below T.heap.size T W10 := hbe.trans b10
                refine hK.out _ _ (Ch.ofBelow hbf) (fun hHeld => ?_)
                clear hK K'
                try simp only [Act.put, List.setIfInBounds_toArray, List.set_cons_zero, List.set_cons_succ]
                refine take_at (i := 11) (v := .pointer (some ⟨g0, 3, none⟩)) rfl rfl (by kernel_rfl) (by kernel_rfl) (by kernel_rfl) (fun _ _ _ h => h) (Or.inl ⟨by rfl, fun X _ => by go_simp⟩) hHeld ?_
                try simp only [Act.put, List.setIfInBounds_toArray, List.set_cons_zero, List.set_cons_succ]
                have qf := q6.out.keep (hbf.block _ (Nat.lt_of_lt_of_le hg0X hXT))
                obtain ⟨k0, k1, k2, k3⟩ := qf.c
                have kf := qf.free 3
                have own11 : W10.ownsRow T.heap.size 141 5 v10 (upd K s ek ex el Lj).length (qcs (upd K s ek ex el Lj)) := by
                  rw [hupd.out, qcs_append, qcs_append]
                  have hl : (Lj.take P ++ [(⟨zs, zk, zc + 1, v', zl'⟩ : Pn)] ++ beh s ek Lj).length = 0 + P + 1 + (beh s ek Lj).length := by
                    simp only [List.length_append, List.length_take, List.length_cons, List.length_nil]
                    have := hM.out; omega
                  rw [hl]
                  simpa using own10
                obtain ⟨a, l, c, hvv⟩ : ∃ a l c, v10 = .slice a l c := by
                  obtain ⟨_, h | ⟨g, cap, cur, h1, _⟩⟩ := own11
                  · exact ⟨_, _, _, h.1⟩
                  · exact ⟨_, _, _, h1⟩
                subst hvv
                obtain rfl : l = (upd K s ek ex el Lj).length := by
                  obtain ⟨_, h | ⟨g, cap, cur, h1, _⟩⟩ := own11
                  · have h1 := h.1; injection h1 with _ h2; rw [h2, h.2]
                  · injection h1
                have chf : Ch g0 g0 T (W10.setCell ⟨g0, 3, none⟩ (.slice a (upd K s ek ex el Lj).length c)) := (Ch.ofBelow (b := g0) (o := g0) hbf).set (p := ⟨g0, 3, none⟩) (.inl rfl) _
                refine wpAnyH_ready (rs := [12]) (by kernel_rfl) (by simp) ?_
                refine (AllReadyH.cons rfl (fun K' hK => ?_) AllReadyH.nil)
                rw [if_pos (by rfl)]
                go_simp
                refine hK.out _ _ (chf) (fun hHeld => ?_)
                clear hK K'
                try simp only [Act.put, List.setIfInBounds_toArray, List.set_cons_zero, List.set_cons_succ]
                refine wpAnyH_done (by kernel_rfl) ?_ _
                go_wp2_with fail
                go_roundw
                case rel =>
                  exact ⟨j + 1, upd K s ek ex el Lj, a, c, by omega, by go_num, hnx.out.symm, by (first | omega | (simp only [List.length_nil] at hlen2 hlen; omega)), hcnt2.out, qf.set3, e6.out.ch chf n01 n01, r6.out.keep (chf.other _ r6.out.lt n02 n02), own_base (own_set own11 (a := ⟨g0, 3, none⟩) (show g0 < T.heap.size by omega) _) hBT, bbT.trans (chf.below hg0w hg0w bbT.size), own_chn so6.out chf nS⟩
                case measure => simp [intOf]; omega
end Go.Proofs.Ytnamjnopicghhaa
