/- Lists of inputs of the call's own: they may begin anywhere in their block; what append and a slice of a slice make of them. -/
import Derived.Test.YtnamjnopicghhaaRIn
import Derived.Test.YtnamjnopicghhaaSep
import Derived.WalkKit
import Derived.WalkSpells
import Derived.WalkLawsBesides
import Derived.OpenShut
import Derived.OwnWalk
import Derived.BigQuiet
import Derived.BigFrame
import Derived.Laws.AppendOwnNone
import Derived.Laws.CopyOwn
import Derived.Lib.SmallJoins
import Derived.Deep.Slices
import Derived.Deep.RegionHeld3
import Derived.Deep.DrawnRows
import Derived.Deep.DeepCutAuto
import Derived.Deep.CutBlock
import Derived.Deep.QuietTactic
namespace Go.Proofs.Ytnamjnopicghhaa
open Go.RowKit M
set_option linter.unusedVariables false
set_option linter.unusedSimpArgs false
attribute [local go_sem ↓] Go.wp_at_zero Go.wp_at_succ

/-- Labels as they may be. -/
def Labl (is : List Inp) : Prop := ∀ i ∈ is, i.e.l < 18446744073709551616
theorem Labl.nil : Labl [] := fun i h => by cases h
theorem Labl.app {a b : List Inp} (h : Labl a) (h2 : Labl b) : Labl (a ++ b) := fun i hi => by
  rcases List.mem_append.1 hi with h3 | h3
  · exact h i h3
  · exact h2 i h3
theorem Labl.one {i : Inp} (h : i.e.l < 18446744073709551616) : Labl [i] := fun x hx => by
  obtain rfl := List.mem_singleton.1 hx
  exact h
theorem Labl.take {a : List Inp} (h : Labl a) (n : Nat) : Labl (a.take n) := fun i hi => h i (List.mem_of_mem_take hi)
theorem Labl.drop {a : List Inp} (h : Labl a) (n : Nat) : Labl (a.drop n) := fun i hi => h i (List.mem_of_mem_drop hi)
theorem iAt_take (is : List Inp) (m j : Nat) (h : j < m) : iAt (is.take m) j = iAt is j := by
  unfold iAt
  rw [List.getD_eq_getElem?_getD, List.getD_eq_getElem?_getD, List.getElem?_take, if_pos h]
theorem iAt_drop (is : List Inp) (m j : Nat) : iAt (is.drop m) j = iAt is (m + j) := by
  unfold iAt
  rw [List.getD_eq_getElem?_getD, List.getD_eq_getElem?_getD, List.getElem?_drop]
theorem RdI.take {w : World} {ao : Option Addr} {n cap m qb : Nat} {is : List Inp} (h : RdI w (.slice ao n cap) qb is) (hm : m ≤ is.length) : RdI w (.slice ao m cap) qb (is.take m) := by
  obtain ⟨h1, h2, ao', cap', e, h3, h4, hc⟩ := h
  cases e
  have hl : (is.take m).length = m := by rw [List.length_take]; omega
  refine ⟨by omega, fun x hx => h2 x (List.mem_of_mem_take hx), ao, cap, by rw [hl], by omega, h4, fun hn => ?_⟩
  obtain ⟨off, rfl, hb, hcell⟩ := hc (by omega)
  exact ⟨off, rfl, hb, fun j hj => by rw [iAt_take _ _ _ (by omega)]; exact hcell j (by omega)⟩
theorem ins_drop : ∀ (es : List Inp) (i : Nat), ins (es.drop i) = (ins es).drop (i * 5)
  | [], i => by simp [ins]
  | e :: r, 0 => by simp
  | e :: r, i + 1 => by
    rw [List.drop_succ_cons, ins_drop r i, ins_cons, show (i + 1) * 5 = 5 + i * 5 by omega, ← List.drop_drop]
    rfl
theorem ins_take : ∀ (es : List Inp) (i : Nat), ins (es.take i) = (ins es).take (i * 5)
  | [], i => by simp [ins]
  | e :: r, 0 => by simp [ins]
  | e :: r, i + 1 => by
    rw [List.take_succ_cons, ins_cons, ins_take r i, ins_cons, show (i + 1) * 5 = (inCells e).length + i * 5 by show _ = 5 + i * 5; omega, List.take_length_add_append]
theorem ins_some {is : List Inp} {j : Nat} {u : Value} (h : (ins is)[j]? = some u) : j / 5 < is.length ∧ (inCells (iAt is (j / 5)))[j % 5]? = some u := by
  have hl := (List.getElem?_eq_some_iff.1 h).1
  rw [ins_len] at hl
  have h1 : j / 5 < is.length := by omega
  have h2 := ins_at is (j / 5) (j % 5) (Nat.mod_lt _ (by decide)) h1
  rw [show j / 5 * 5 + j % 5 = j by omega] at h2
  exact ⟨h1, h2.symm.trans h⟩
theorem InAt.cells {w : World} {b o r : Nat} {i : Inp} {u : Value} (h : InAt w b o i) (hu : (inCells i)[r]? = some u) : w.cell? ⟨b, o + r, none⟩ = some u := by
  obtain ⟨c0, c1, c2, c3, c4⟩ := h
  have hr : r < 5 := by
    have := (List.getElem?_eq_some_iff.1 hu).1
    exact this
  have h5 : r = 0 ∨ r = 1 ∨ r = 2 ∨ r = 3 ∨ r = 4 := by omega
  rcases h5 with h5 | h5 | h5 | h5 | h5 <;> subst h5 <;> simp [inCells] at hu <;> subst hu <;> assumption
/-- What a slice of inputs reads, cell by cell. -/
theorem RdI.cells {w : World} {v : Value} {qb : Nat} {is : List Inp} (h : RdI w v qb is) (h0 : is.length ≠ 0) : ∃ off cap, v = .slice (some ⟨qb, off, none⟩) is.length cap ∧ ∀ j u, (ins is)[j]? = some u → w.cell? ((⟨qb, off, none⟩ : Addr).add j) = some u := by
  obtain ⟨h1, h2, ao, cap, rfl, h3, h4, hc⟩ := h
  obtain ⟨off, rfl, hb, hcell⟩ := hc h0
  refine ⟨off, cap, rfl, fun j u hj => ?_⟩
  obtain ⟨q1, q2⟩ := ins_some hj
  have := (hcell _ q1).cells q2
  rw [Addr.add_lit]
  rwa [show off + j / 5 * 5 + j % 5 = off + j by omega] at this

/-- A list of the call's own: it may begin anywhere in its block. -/
def Qv (w : World) (v : Value) (is : List Inp) : Prop :=
  (v = .slice none 0 0 ∧ is = []) ∨ ∃ g off cap cur, v = .slice (some ⟨g, off, none⟩) is.length cap ∧ w.heap[g]? = some (.cells cur 31 (0, 0)) ∧ is.length ≤ cap ∧ cap ≤ maxLen ∧ off + cap * 5 ≤ cur.size ∧ (cur.toList.drop off).take (is.length * 5) = ins is
theorem qv_nil (w : World) : Qv w (.slice none 0 0) [] := .inl ⟨rfl, rfl⟩
theorem Qv.lt {w : World} {v : Value} {is : List Inp} (h : Qv w v is) : ∀ k, v.ownBlock = some k → k < w.heap.size := by
  intro k hk
  rcases h with ⟨rfl, _⟩ | ⟨g, off, cap, cur, rfl, hh, _⟩
  · cases hk
  · simp only [Value.ownBlock, Option.some.injEq] at hk
    subst hk
    exact (Array.getElem?_eq_some_iff.1 hh).1
theorem Qv.keep {w w' : World} {v : Value} {is : List Inp} (h : Qv w v is) (hb : ∀ k, v.ownBlock = some k → w'.heap[k]? = w.heap[k]?) : Qv w' v is := by
  rcases h with h | ⟨g, off, cap, cur, rfl, hh, r⟩
  · exact .inl h
  · exact .inr ⟨g, off, cap, cur, rfl, (hb g rfl).trans hh, r⟩
theorem Qv.below {w w' : World} {v : Value} {is : List Inp} (h : Qv w v is) (hb : Below w.heap.size w w') : Qv w' v is := h.keep fun k hk => hb.block k (h.lt k hk)
theorem Qv.len {w : World} {v : Value} {is : List Inp} (h : Qv w v is) : ∃ ao cap, v = .slice ao is.length cap ∧ is.length ≤ cap ∧ cap ≤ 9223372036854775807 ∧ (ao = none → cap = 0) := by
  rcases h with ⟨rfl, rfl⟩ | ⟨g, off, cap, cur, rfl, hh, h1, h2, r⟩
  · exact ⟨none, 0, rfl, Nat.le_refl _, by decide, fun _ => rfl⟩
  · unfold maxLen at h2
    exact ⟨_, cap, rfl, h1, by omega, fun h => by cases h⟩
theorem Qv.inat {w : World} {g off n cap : Nat} {is : List Inp} (h : Qv w (.slice (some ⟨g, off, none⟩) n cap) is) (j : Nat) (hj : j < is.length) : InAt w g (off + j * 5) (iAt is j) := by
  rcases h with ⟨h, _⟩ | ⟨g', off', cap', cur, e, hh, h1, h2, h3, h4⟩
  · cases h
  · cases e
    have hc : ∀ r, r < 5 → w.cell? ⟨g, off + (j * 5 + r), none⟩ = (inCells (iAt is j))[r]? := fun r hr => by
      rw [cell_of_row w g _ cur 31 (0, 0) hh, ← ins_at is j r hr hj, ← h4, List.getElem?_take, if_pos (by omega), List.getElem?_drop]
      simp
    exact ⟨hc 0 (by decide), hc 1 (by decide), hc 2 (by decide), hc 3 (by decide), hc 4 (by decide)⟩
theorem Qv.rdi {w : World} {v : Value} {is : List Inp} (h : Qv w v is) (hlab : Labl is) (d : Nat) : ∃ qb, RdI w v qb is ∧ (∀ k, v.ownBlock = some k → k = qb) ∧ (v.ownBlock = none → qb = d) := by
  have h' := h
  rcases h with ⟨rfl, rfl⟩ | ⟨g, off, cap, cur, rfl, hh, h1, h2, h3, h4⟩
  · exact ⟨d, rdi_nil _ _, fun k hk => (by cases hk), fun _ => rfl⟩
  · unfold maxLen at h2
    exact ⟨g, ⟨by omega, hlab, _, cap, rfl, h1, by omega, fun _ => ⟨off, rfl, (Array.getElem?_eq_some_iff.1 hh).1, fun j hj => h'.inat j hj⟩⟩, fun k hk => by simp only [Value.ownBlock, Option.some.injEq] at hk; exact hk.symm, fun h => by simp [Value.ownBlock] at h⟩
theorem Qv.take {w : World} {ao : Option Addr} {n cap : Nat} {is : List Inp} (h : Qv w (.slice ao n cap) is) (m : Nat) (hm : m ≤ is.length) : Qv w (.slice ao m cap) (is.take m) := by
  rcases h with ⟨h, rfl⟩ | ⟨g, off, cap', cur, e, hh, h1, h2, h3, h4⟩
  · cases h
    obtain rfl : m = 0 := by simpa using hm
    exact .inl ⟨rfl, rfl⟩
  · cases e
    have hl : (is.take m).length = m := by rw [List.length_take]; omega
    refine .inr ⟨g, off, cap, cur, by rw [hl], hh, by omega, h2, h3, ?_⟩
    rw [hl, ins_take, ← h4, List.take_take, Nat.min_eq_left (by omega)]
/-- Without the first m: the address moves on, unless no room is left. -/
theorem Qv.drop {w : World} {g off n cap : Nat} {is : List Inp} (h : Qv w (.slice (some ⟨g, off, none⟩) n cap) is) (m : Nat) (hm : m ≤ is.length) : Qv w (.slice (some ⟨g, off + m * 5, none⟩) (n - m) (cap - m)) (is.drop m) := by
  rcases h with ⟨h, rfl⟩ | ⟨g', off', cap', cur, e, hh, h1, h2, h3, h4⟩
  · cases h
  · cases e
    unfold maxLen at h2
    have hl : (is.drop m).length = is.length - m := List.length_drop
    have h5 : cap * 5 = m * 5 + (cap - m) * 5 := by omega
    refine .inr ⟨g, off + m * 5, cap - m, cur, by rw [hl], hh, by omega, by unfold maxLen; omega, by omega, ?_⟩
    rw [hl, ins_drop, ← h4, List.drop_take, List.drop_drop, Nat.sub_mul]
theorem Qv.dropAll {w : World} {g off n cap : Nat} {is : List Inp} (h : Qv w (.slice (some ⟨g, off, none⟩) n cap) is) (m : Nat) (hm : m = is.length) (hc : cap = m) : Qv w (.slice (some ⟨g, off, none⟩) (n - m) (cap - m)) (is.drop m) := by
  rcases h with ⟨h, rfl⟩ | ⟨g', off', cap', cur, e, hh, h1, h2, h3, h4⟩
  · cases h
  · cases e
    have hl : (is.drop m).length = is.length - m := List.length_drop
    refine .inr ⟨g, off, cap - m, cur, by rw [hl], hh, by omega, by unfold maxLen at *; omega, by omega, ?_⟩
    rw [hl, ins_drop, ← hm, Nat.sub_self, Nat.zero_mul, List.take_zero, List.drop_of_length_le (by rw [ins_len]; omega)]
theorem qv_lit (w : World) (is : List Inp) (hl : is.length ≤ 1000) : Qv (w.alloc (.cells (ins is).toArray 31)) (.slice (some ⟨w.heap.size, 0, none⟩) is.length is.length) is := by
  refine .inr ⟨w.heap.size, 0, is.length, _, rfl, heap_alloc_new w _, Nat.le_refl _, by unfold maxLen; omega, by simp [ins_len], ?_⟩
  rw [List.drop_zero, List.take_of_length_le (by simp [ins_len])]
theorem qv_own {w : World} {B n : Nat} {v : Value} {is : List Inp} (h : w.ownsRow B 31 5 v n (ins is)) : Qv w v is := by
  have hn : n = is.length := by have := h.1; rw [ins_len] at this; omega
  subst hn
  obtain ⟨_, ⟨rfl, h0⟩ | ⟨g, cap, cur, rfl, hb, hh, hn, hm, hs, ht⟩⟩ := h
  · exact .inl ⟨rfl, List.eq_nil_of_length_eq_zero h0⟩
  · exact .inr ⟨g, 0, cap, cur, rfl, hh, hn, hm, by omega, by rw [List.drop_zero]; exact ht⟩

section
variable {P : Program} (w : World)
theorem run_append_roomAt (t ty e : TypeId) (i : TypeInfo) (ht : P.underlying t = some (.slice e)) (hi : P.info? e = some i)
    (g off sLen sCap : Nat) (cur : Array Value) (hg : w.heap[g]? = some (.cells cur e (0, 0)))
    (a : Addr) (m c : Nat) (news : List Value) (hl : news.length = m * i.size) (hnews : ∀ j u, news[j]? = some u → w.cell? (a.add j) = some u) (h1 : ∀ u ∈ news, u.oneCell' = true)
    (hroom : sLen + m ≤ sCap) (hfit : off + sLen * i.size + news.length ≤ cur.size) :
    (Builtin.append_ #[t, t] ty #[.slice (some ⟨g, off, none⟩) sLen sCap, .slice (some a) m c]).run P w =
      .ok (.slice (some ⟨g, off, none⟩) (sLen + m) sCap) (w.setRow g (cur.toList.take (off + sLen * i.size) ++ news ++ cur.toList.drop (off + sLen * i.size + news.length)).toArray) := by
  have hf := run_firstCells_some (P := P) w i.size m a m c news hl hnews
  have hst := run_storeCells_at P g (off + sLen * i.size) e news 0 cur w hg (by simpa using hfit) h1
  simp only [Nat.add_zero] at hst
  simp [Builtin.append_, run_underlying ht, sizeOf, typeInfo, hi, Builtin.lenOf, hroom, hf, Addr.add_lit, hst]
theorem run_append_nought (t ty e : TypeId) (i : TypeInfo) (ht : P.underlying t = some (.slice e)) (hi : P.info? e = some i) (base : Option Addr) (sLen sCap : Nat) (hle : sLen ≤ sCap) (ao : Option Addr) (c : Nat) :
    (Builtin.append_ #[t, t] ty #[.slice base sLen sCap, .slice ao 0 c]).run P w = .ok (.slice base sLen sCap) w := by
  have hl : ∀ (x : Addr), (loadCells x 0).run P w = .ok #[] w := fun x => by simpa using run_loadCells_list (P := P) w x [] (by simp)
  cases base <;> cases ao <;> simp [Builtin.append_, run_underlying ht, sizeOf, typeInfo, hi, Builtin.lenOf, Builtin.firstCells, hle, storeCells, hl]
theorem Try.info31 : (Try.prog.info? 31).map (fun i => (i.zero, i.size, i.bytes)) = some (some (inv ⟨false, ⟨0, 0, 0, 0⟩⟩), 5, 40) := by kernel_rfl
/-- What is appended to a list of the call's own. -/
theorem run_append_q' (w : World) (ty : TypeId) (v : Value) (is : List Inp) (hq : Qv w v is) (u : Value) (qb : Nat) (js : List Inp) (hu : RdI w u qb js) (hl : is.length + js.length ≤ 1000000) :
    ∃ v' w', (Builtin.append_ #[44, 44] ty #[v, u]).run Try.prog w = .ok v' w' ∧ Qv w' v' (is ++ js) ∧ w.grownBy w' v.ownBlock ∧ (∀ k, v'.ownBlock = some k → v.ownBlock = some k ∨ w.heap.size ≤ k) ∧ (js = [] → v' = v) := by
  obtain ⟨i, hi, hz0, hz1, hz2⟩ := info_parts Try.info31
  have hsame : w.grownBy w v.ownBlock := ⟨rfl, rfl, rfl, Nat.le_refl _, fun _ _ _ => rfl⟩
  by_cases h0 : js.length = 0
  · obtain rfl := List.eq_nil_of_length_eq_zero h0
    obtain ⟨ao, cap, rfl, hc1, _⟩ := hq.len
    obtain ⟨_, _, ao', cap', rfl, _⟩ := hu
    exact ⟨_, w, run_append_nought w 44 ty 31 i Try.underlying44 hi _ _ _ hc1 _ _, by rw [List.append_nil]; exact hq, hsame, fun k hk => .inl hk, fun _ => rfl⟩
  · obtain ⟨off2, c2, rfl, hcell⟩ := hu.cells h0
    have hnl : (ins js).length = js.length * i.size := by rw [ins_len, hz1]
    rcases hq with ⟨rfl, rfl⟩ | ⟨g, off, cap, cur, rfl, hh, h1, h2, h3, h4⟩
    · have hr := run_append_nil (P := Try.prog) w 44 ty 31 i _ Try.underlying44 hi hz0 ⟨qb, off2, none⟩ js.length c2 (ins js) hnl hcell (by omega) (by simp at hl; omega) (by rw [hz2]; simp at hl; omega)
      refine ⟨_, _, hr, ?_, ⟨rfl, rfl, rfl, by simp, fun k hk _ => (World.grownBy_alloc w.drew _ none).block k hk (by simp)⟩, fun k hk => ?_, fun e => absurd (by rw [e]; rfl) h0⟩
      · have hge := grownCap_ge w js.length 0 31
        have hcm : grownCap w js.length 0 31 ≤ maxLen := grownCap_le_maxLen w js.length 0 31 (by unfold maxLen; simp at hl; omega)
        refine .inr ⟨w.heap.size, 0, grownCap w js.length 0 31, _, by simp, heap_alloc_new w.drew _, by simpa using hge, hcm, ?_, ?_⟩
        · simp only [Array.size_append, List.size_toArray, size_zeroCells, ins_len]
          have : (inv ⟨false, ⟨0, 0, 0, 0⟩⟩).cells.size = 5 := rfl
          rw [this]; omega
        · rw [List.drop_zero, List.nil_append, Array.toList_append]
          rw [List.take_append_of_le_length (by simp [ins_len]), List.take_of_length_le (by simp [ins_len])]
      · simp only [Value.ownBlock, Option.some.injEq] at hk
        exact .inr (by omega)
    · by_cases hroom : is.length + js.length ≤ cap
      · have hfit : off + is.length * i.size + (ins js).length ≤ cur.size := by rw [ins_len, hz1]; omega
        have hr := run_append_roomAt (P := Try.prog) w 44 ty 31 i Try.underlying44 hi g off is.length cap cur hh ⟨qb, off2, none⟩ js.length c2 (ins js) hnl hcell (ins_one _) hroom hfit
        refine ⟨_, _, hr, ?_, ⟨rfl, rfl, rfl, by simp, fun k _ hk => setRow_other w g k _ (fun e => hk (by simp [Value.ownBlock, e]))⟩, fun k hk => .inl hk, fun e => absurd (by rw [e]; rfl) h0⟩
        rw [hz1] at hfit ⊢
        rw [ins_len] at hfit
        refine .inr ⟨g, off, cap, _, by rw [List.length_append], setRow_heap w g cur _ 31 _ hh, by rw [List.length_append]; omega, h2, ?_, ?_⟩
        · simp only [List.size_toArray, List.length_append, List.length_take, List.length_drop, Array.length_toList, ins_len]
          omega
        · have hcs : cur.toList.length = cur.size := Array.length_toList
          have e1 : (cur.toList.take (off + is.length * 5)).length = off + is.length * 5 := by rw [List.length_take]; omega
          have e2 : (cur.toList.take (off + is.length * 5)).drop off = ins is := by rw [List.drop_take, Nat.add_sub_cancel_left]; exact h4
          rw [ins_append, List.append_assoc, List.drop_append_of_le_length (by omega), e2, List.length_append, Nat.add_mul, ← List.append_assoc]
          rw [List.take_append_of_le_length (by rw [List.length_append, ins_len, ins_len]; exact Nat.le_refl _), List.take_of_length_le (by rw [List.length_append, ins_len, ins_len]; exact Nat.le_refl _)]
      · have hq' : Qv w (.slice (some ⟨g, off, none⟩) is.length cap) is := .inr ⟨g, off, cap, cur, rfl, hh, h1, h2, h3, h4⟩
        have hrd := hq'.inat
        have holds : ∀ j u, (ins is)[j]? = some u → w.cell? ((⟨g, off, none⟩ : Addr).add j) = some u := by
          intro j u hj
          obtain ⟨q1, q2⟩ := ins_some hj
          have := (hrd _ q1).cells q2
          rw [Addr.add_lit]
          rwa [show off + j / 5 * 5 + j % 5 = off + j by omega] at this
        have hr := run_append_grow (P := Try.prog) w 44 ty 31 i _ Try.underlying44 hi hz0 ⟨g, off, none⟩ is.length cap (ins is) (by rw [ins_len, hz1]) holds ⟨qb, off2, none⟩ js.length c2 (ins js) hnl hcell (by omega) (by omega) (growslice_fits (by omega) (by rw [hz2]; omega))
        refine ⟨_, _, hr, ?_, ⟨rfl, rfl, rfl, by simp, fun k hk _ => (World.grownBy_alloc w.drew _ none).block k hk (by simp)⟩, fun k hk => ?_, fun e => absurd (by rw [e]; rfl) h0⟩
        · have hge := grownCap_ge w (is.length + js.length) cap 31
          have hcm : grownCap w (is.length + js.length) cap 31 ≤ maxLen := grownCap_le_maxLen w (is.length + js.length) cap 31 (by unfold maxLen; omega)
          refine .inr ⟨w.heap.size, 0, grownCap w (is.length + js.length) cap 31, _, by simp, heap_alloc_new w.drew _, by simpa using hge, hcm, ?_, ?_⟩
          · simp only [Array.size_append, List.size_toArray, size_zeroCells, ins_len]
            have : (inv ⟨false, ⟨0, 0, 0, 0⟩⟩).cells.size = 5 := rfl
            rw [this]; omega
          · rw [List.drop_zero, ins_append, Array.toList_append, Array.toList_append]
            rw [List.take_append_of_le_length (by simp [ins_len, Nat.add_mul]), List.take_of_length_le (by simp [ins_len, Nat.add_mul])]
        · simp only [Value.ownBlock, Option.some.injEq] at hk
          exact .inr (by omega)
theorem run_append_q (w : World) (ty : TypeId) (v : Value) (is : List Inp) (hq : Qv w v is) (u : Value) (qb : Nat) (js : List Inp) (hu : RdI w u qb js) (hl : is.length + js.length ≤ 1000000) :
    ∃ v' w', (Builtin.append_ #[44, 44] ty #[v, u]).run Try.prog w = .ok v' w' ∧ Qv w' v' (is ++ js) ∧ w.grownBy w' v.ownBlock ∧ (∀ k, v'.ownBlock = some k → v.ownBlock = some k ∨ w.heap.size ≤ k) := by
  obtain ⟨v', w', h1, h2, h3, h4, _⟩ := run_append_q' w ty v is hq u qb js hu hl
  exact ⟨v', w', h1, h2, h3, h4⟩
theorem wpList_append_q' {w : World} {ops : Array Oper} {rest : List Oper} {o : Oper} {a : Act} {Q : Exit → Act → World → Prop} (hw : Region.wanted o (yielded ops a.tmps) = true) (s x : Operand)
    (ho : o.op = .call { callee := .builtin .append, args := #[s, x], argTypes := #[44, 44] })
    (v : Value) (is : List Inp) (hs : a.eval s = v) (hq : Qv w v is) (u : Value) (qb : Nat) (js : List Inp) (hx : a.eval x = u) (hu : RdI w u qb js) (hl : is.length + js.length ≤ 1000000)
    (h : ∀ v' w', Qv w' v' (is ++ js) → w.grownBy w' v.ownBlock → (∀ k, v'.ownBlock = some k → v.ownBlock = some k ∨ w.heap.size ≤ k) → (js = [] → v' = v) → wpList Try.prog ops Q rest (a.put o.dst v') w') : wpList Try.prog ops Q (o :: rest) a w :=
  BigFrame.wpList_want hw fun K hK => by
    obtain ⟨v', w', hr, h2, h3, h4, h5⟩ := run_append_q' w o.type v is hq u qb js hu hl
    unfold Oper.wp execOp
    simp only [ho, resolve, invoke, builtin, Sem.run_bind, Sem.run_pure, Result.andThen_ok, List.map_toArray, List.map_cons, List.map_nil, hs, hx, hr]
    exact hK _ _ (h v' w' h2 h3 h4 h5)
theorem wpList_append_q {w : World} {ops : Array Oper} {rest : List Oper} {o : Oper} {a : Act} {Q : Exit → Act → World → Prop} (hw : Region.wanted o (yielded ops a.tmps) = true) (s x : Operand)
    (ho : o.op = .call { callee := .builtin .append, args := #[s, x], argTypes := #[44, 44] })
    (v : Value) (is : List Inp) (hs : a.eval s = v) (hq : Qv w v is) (u : Value) (qb : Nat) (js : List Inp) (hx : a.eval x = u) (hu : RdI w u qb js) (hl : is.length + js.length ≤ 1000000)
    (h : ∀ v' w', Qv w' v' (is ++ js) → w.grownBy w' v.ownBlock → (∀ k, v'.ownBlock = some k → v.ownBlock = some k ∨ w.heap.size ≤ k) → wpList Try.prog ops Q rest (a.put o.dst v') w') : wpList Try.prog ops Q (o :: rest) a w :=
  BigFrame.wpList_want hw fun K hK => by
    obtain ⟨v', w', hr, h2, h3, h4⟩ := run_append_q w o.type v is hq u qb js hu hl
    unfold Oper.wp execOp
    simp only [ho, resolve, invoke, builtin, Sem.run_bind, Sem.run_pure, Result.andThen_ok, List.map_toArray, List.map_cons, List.map_nil, hs, hx, hr]
    exact hK _ _ (h v' w' h2 h3 h4)
end
end Go.Proofs.Ytnamjnopicghhaa
