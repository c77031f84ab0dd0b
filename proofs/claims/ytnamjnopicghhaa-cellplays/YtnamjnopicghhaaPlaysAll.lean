/- Calls that came in, an append among operations whose order is open, a part of rows, the document's own rows. -/
import Derived.Test.YtnamjnopicghhaaRIn
import Derived.Test.YtnamjnopicghhaaSep
import Derived.WalkKit
import Derived.WalkSpells
import Derived.WalkLawsBesides
import Derived.OpenShut
import Derived.OwnWalk
import Derived.BigQuiet
import Derived.BigFrame
import Derived.Laws.AppendOwnNone
import Derived.Laws.CopyOwn
import Derived.Lib.SmallJoins
import Derived.Deep.Slices
import Derived.Deep.RegionHeld3
import Derived.Deep.DrawnRows
import Derived.Deep.DeepCutAuto
import Derived.Deep.CutBlock
import Derived.Deep.QuietTactic
import Derived.Test.YtnamjnopicghhaaRTwin
import Derived.Test.YtnamjnopicghhaaMathX
import Derived.Test.YtnamjnopicghhaaRApp
import Derived.Test.YtnamjnopicghhaaRIns
import Derived.Test.YtnamjnopicghhaaRHelp
import Derived.Test.YtnamjnopicghhaaRefWhole
import Derived.Test.YtnamjnopicghhaaFrame
import Derived.Deep.Light
/- Lists of inputs of the call's own: they may begin anywhere in their block; what append and a slice of a slice make of them. -/
namespace Go.Proofs.Ytnamjnopicghhaa
open Go.RowKit M
set_option linter.unusedVariables false
set_option linter.unusedSimpArgs false
attribute [local go_sem ↓] Go.wp_at_zero Go.wp_at_succ

/-- Labels as they may be. -/
def Labl (is : List Inp) : Prop := ∀ i ∈ is, i.e.l < 18446744073709551616
theorem Labl.nil : Labl [] := fun i h => by cases h
theorem Labl.app {a b : List Inp} (h : Labl a) (h2 : Labl b) : Labl (a ++ b) := fun i hi => by
  rcases List.mem_append.1 hi with h3 | h3
  · exact h i h3
  · exact h2 i h3
theorem Labl.one {i : Inp} (h : i.e.l < 18446744073709551616) : Labl [i] := fun x hx => by
  obtain rfl := List.mem_singleton.1 hx
  exact h
theorem Labl.take {a : List Inp} (h : Labl a) (n : Nat) : Labl (a.take n) := fun i hi => h i (List.mem_of_mem_take hi)
theorem Labl.drop {a : List Inp} (h : Labl a) (n : Nat) : Labl (a.drop n) := fun i hi => h i (List.mem_of_mem_drop hi)
theorem iAt_take (is : List Inp) (m j : Nat) (h : j < m) : iAt (is.take m) j = iAt is j := by
  unfold iAt
  rw [List.getD_eq_getElem?_getD, List.getD_eq_getElem?_getD, List.getElem?_take, if_pos h]
theorem iAt_drop (is : List Inp) (m j : Nat) : iAt (is.drop m) j = iAt is (m + j) := by
  unfold iAt
  rw [List.getD_eq_getElem?_getD, List.getD_eq_getElem?_getD, List.getElem?_drop]
theorem RdI.take {w : World} {ao : Option Addr} {n cap m qb : Nat} {is : List Inp} (h : RdI w (.slice ao n cap) qb is) (hm : m ≤ is.length) : RdI w (.slice ao m cap) qb (is.take m) := by
  obtain ⟨h1, h2, ao', cap', e, h3, h4, hc⟩ := h
  cases e
  have hl : (is.take m).length = m := by rw [List.length_take]; omega
  refine ⟨by omega, fun x hx => h2 x (List.mem_of_mem_take hx), ao, cap, by rw [hl], by omega, h4, fun hn => ?_⟩
  obtain ⟨off, rfl, hb, hcell⟩ := hc (by omega)
  exact ⟨off, rfl, hb, fun j hj => by rw [iAt_take _ _ _ (by omega)]; exact hcell j (by omega)⟩
theorem ins_drop : ∀ (es : List Inp) (i : Nat), ins (es.drop i) = (ins es).drop (i * 5)
  | [], i => by simp [ins]
  | e :: r, 0 => by simp
  | e :: r, i + 1 => by
    rw [List.drop_succ_cons, ins_drop r i, ins_cons, show (i + 1) * 5 = 5 + i * 5 by omega, ← List.drop_drop]
    rfl
theorem ins_take : ∀ (es : List Inp) (i : Nat), ins (es.take i) = (ins es).take (i * 5)
  | [], i => by simp [ins]
  | e :: r, 0 => by simp [ins]
  | e :: r, i + 1 => by
    rw [List.take_succ_cons, ins_cons, ins_take r i, ins_cons, show (i + 1) * 5 = (inCells e).length + i * 5 by show _ = 5 + i * 5; omega, List.take_length_add_append]
theorem ins_some {is : List Inp} {j : Nat} {u : Value} (h : (ins is)[j]? = some u) : j / 5 < is.length ∧ (inCells (iAt is (j / 5)))[j % 5]? = some u := by
  have hl := (List.getElem?_eq_some_iff.1 h).1
  rw [ins_len] at hl
  have h1 : j / 5 < is.length := by omega
  have h2 := ins_at is (j / 5) (j % 5) (Nat.mod_lt _ (by decide)) h1
  rw [show j / 5 * 5 + j % 5 = j by omega] at h2
  exact ⟨h1, h2.symm.trans h⟩
theorem InAt.cells {w : World} {b o r : Nat} {i : Inp} {u : Value} (h : InAt w b o i) (hu : (inCells i)[r]? = some u) : w.cell? ⟨b, o + r, none⟩ = some u := by
  obtain ⟨c0, c1, c2, c3, c4⟩ := h
  have hr : r < 5 := by
    have := (List.getElem?_eq_some_iff.1 hu).1
    exact this
  have h5 : r = 0 ∨ r = 1 ∨ r = 2 ∨ r = 3 ∨ r = 4 := by omega
  rcases h5 with h5 | h5 | h5 | h5 | h5 <;> subst h5 <;> simp [inCells] at hu <;> subst hu <;> assumption
/-- What a slice of inputs reads, cell by cell. -/
theorem RdI.cells {w : World} {v : Value} {qb : Nat} {is : List Inp} (h : RdI w v qb is) (h0 : is.length ≠ 0) : ∃ off cap, v = .slice (some ⟨qb, off, none⟩) is.length cap ∧ ∀ j u, (ins is)[j]? = some u → w.cell? ((⟨qb, off, none⟩ : Addr).add j) = some u := by
  obtain ⟨h1, h2, ao, cap, rfl, h3, h4, hc⟩ := h
  obtain ⟨off, rfl, hb, hcell⟩ := hc h0
  refine ⟨off, cap, rfl, fun j u hj => ?_⟩
  obtain ⟨q1, q2⟩ := ins_some hj
  have := (hcell _ q1).cells q2
  rw [Addr.add_lit]
  rwa [show off + j / 5 * 5 + j % 5 = off + j by omega] at this

/-- A list of the call's own: it may begin anywhere in its block. -/
def Qv (w : World) (v : Value) (is : List Inp) : Prop :=
  (v = .slice none 0 0 ∧ is = []) ∨ ∃ g off cap cur, v = .slice (some ⟨g, off, none⟩) is.length cap ∧ w.heap[g]? = some (.cells cur 31 (0, 0)) ∧ is.length ≤ cap ∧ cap ≤ maxLen ∧ off + cap * 5 ≤ cur.size ∧ (cur.toList.drop off).take (is.length * 5) = ins is
theorem qv_nil (w : World) : Qv w (.slice none 0 0) [] := .inl ⟨rfl, rfl⟩
theorem Qv.lt {w : World} {v : Value} {is : List Inp} (h : Qv w v is) : ∀ k, v.ownBlock = some k → k < w.heap.size := by
  intro k hk
  rcases h with ⟨rfl, _⟩ | ⟨g, off, cap, cur, rfl, hh, _⟩
  · cases hk
  · simp only [Value.ownBlock, Option.some.injEq] at hk
    subst hk
    exact (Array.getElem?_eq_some_iff.1 hh).1
theorem Qv.keep {w w' : World} {v : Value} {is : List Inp} (h : Qv w v is) (hb : ∀ k, v.ownBlock = some k → w'.heap[k]? = w.heap[k]?) : Qv w' v is := by
  rcases h with h | ⟨g, off, cap, cur, rfl, hh, r⟩
  · exact .inl h
  · exact .inr ⟨g, off, cap, cur, rfl, (hb g rfl).trans hh, r⟩
theorem Qv.below {w w' : World} {v : Value} {is : List Inp} (h : Qv w v is) (hb : Below w.heap.size w w') : Qv w' v is := h.keep fun k hk => hb.block k (h.lt k hk)
theorem Qv.len {w : World} {v : Value} {is : List Inp} (h : Qv w v is) : ∃ ao cap, v = .slice ao is.length cap ∧ is.length ≤ cap ∧ cap ≤ 9223372036854775807 ∧ (ao = none → cap = 0) := by
  rcases h with ⟨rfl, rfl⟩ | ⟨g, off, cap, cur, rfl, hh, h1, h2, r⟩
  · exact ⟨none, 0, rfl, Nat.le_refl _, by decide, fun _ => rfl⟩
  · unfold maxLen at h2
    exact ⟨_, cap, rfl, h1, by omega, fun h => by cases h⟩
theorem Qv.inat {w : World} {g off n cap : Nat} {is : List Inp} (h : Qv w (.slice (some ⟨g, off, none⟩) n cap) is) (j : Nat) (hj : j < is.length) : InAt w g (off + j * 5) (iAt is j) := by
  rcases h with ⟨h, _⟩ | ⟨g', off', cap', cur, e, hh, h1, h2, h3, h4⟩
  · cases h
  · cases e
    have hc : ∀ r, r < 5 → w.cell? ⟨g, off + (j * 5 + r), none⟩ = (inCells (iAt is j))[r]? := fun r hr => by
      rw [cell_of_row w g _ cur 31 (0, 0) hh, ← ins_at is j r hr hj, ← h4, List.getElem?_take, if_pos (by omega), List.getElem?_drop]
      simp
    exact ⟨hc 0 (by decide), hc 1 (by decide), hc 2 (by decide), hc 3 (by decide), hc 4 (by decide)⟩
theorem Qv.rdi {w : World} {v : Value} {is : List Inp} (h : Qv w v is) (hlab : Labl is) (d : Nat) : ∃ qb, RdI w v qb is ∧ (∀ k, v.ownBlock = some k → k = qb) ∧ (v.ownBlock = none → qb = d) := by
  have h' := h
  rcases h with ⟨rfl, rfl⟩ | ⟨g, off, cap, cur, rfl, hh, h1, h2, h3, h4⟩
  · exact ⟨d, rdi_nil _ _, fun k hk => (by cases hk), fun _ => rfl⟩
  · unfold maxLen at h2
    exact ⟨g, ⟨by omega, hlab, _, cap, rfl, h1, by omega, fun _ => ⟨off, rfl, (Array.getElem?_eq_some_iff.1 hh).1, fun j hj => h'.inat j hj⟩⟩, fun k hk => by simp only [Value.ownBlock, Option.some.injEq] at hk; exact hk.symm, fun h => by simp [Value.ownBlock] at h⟩
theorem Qv.take {w : World} {ao : Option Addr} {n cap : Nat} {is : List Inp} (h : Qv w (.slice ao n cap) is) (m : Nat) (hm : m ≤ is.length) : Qv w (.slice ao m cap) (is.take m) := by
  rcases h with ⟨h, rfl⟩ | ⟨g, off, cap', cur, e, hh, h1, h2, h3, h4⟩
  · cases h
    obtain rfl : m = 0 := by simpa using hm
    exact .inl ⟨rfl, rfl⟩
  · cases e
    have hl : (is.take m).length = m := by rw [List.length_take]; omega
    refine .inr ⟨g, off, cap, cur, by rw [hl], hh, by omega, h2, h3, ?_⟩
    rw [hl, ins_take, ← h4, List.take_take, Nat.min_eq_left (by omega)]
/-- Without the first m: the address moves on, unless no room is left. -/
theorem Qv.drop {w : World} {g off n cap : Nat} {is : List Inp} (h : Qv w (.slice (some ⟨g, off, none⟩) n cap) is) (m : Nat) (hm : m ≤ is.length) : Qv w (.slice (some ⟨g, off + m * 5, none⟩) (n - m) (cap - m)) (is.drop m) := by
  rcases h with ⟨h, rfl⟩ | ⟨g', off', cap', cur, e, hh, h1, h2, h3, h4⟩
  · cases h
  · cases e
    unfold maxLen at h2
    have hl : (is.drop m).length = is.length - m := List.length_drop
    have h5 : cap * 5 = m * 5 + (cap - m) * 5 := by omega
    refine .inr ⟨g, off + m * 5, cap - m, cur, by rw [hl], hh, by omega, by unfold maxLen; omega, by omega, ?_⟩
    rw [hl, ins_drop, ← h4, List.drop_take, List.drop_drop, Nat.sub_mul]
theorem Qv.dropAll {w : World} {g off n cap : Nat} {is : List Inp} (h : Qv w (.slice (some ⟨g, off, none⟩) n cap) is) (m : Nat) (hm : m = is.length) (hc : cap = m) : Qv w (.slice (some ⟨g, off, none⟩) (n - m) (cap - m)) (is.drop m) := by
  rcases h with ⟨h, rfl⟩ | ⟨g', off', cap', cur, e, hh, h1, h2, h3, h4⟩
  · cases h
  · cases e
    have hl : (is.drop m).length = is.length - m := List.length_drop
    refine .inr ⟨g, off, cap - m, cur, by rw [hl], hh, by omega, by unfold maxLen at *; omega, by omega, ?_⟩
    rw [hl, ins_drop, ← hm, Nat.sub_self, Nat.zero_mul, List.take_zero, List.drop_of_length_le (by rw [ins_len]; omega)]
theorem qv_lit (w : World) (is : List Inp) (hl : is.length ≤ 1000) : Qv (w.alloc (.cells (ins is).toArray 31)) (.slice (some ⟨w.heap.size, 0, none⟩) is.length is.length) is := by
  refine .inr ⟨w.heap.size, 0, is.length, _, rfl, heap_alloc_new w _, Nat.le_refl _, by unfold maxLen; omega, by simp [ins_len], ?_⟩
  rw [List.drop_zero, List.take_of_length_le (by simp [ins_len])]
theorem qv_own {w : World} {B n : Nat} {v : Value} {is : List Inp} (h : w.ownsRow B 31 5 v n (ins is)) : Qv w v is := by
  have hn : n = is.length := by have := h.1; rw [ins_len] at this; omega
  subst hn
  obtain ⟨_, ⟨rfl, h0⟩ | ⟨g, cap, cur, rfl, hb, hh, hn, hm, hs, ht⟩⟩ := h
  · exact .inl ⟨rfl, List.eq_nil_of_length_eq_zero h0⟩
  · exact .inr ⟨g, 0, cap, cur, rfl, hh, hn, hm, by omega, by rw [List.drop_zero]; exact ht⟩

section
variable {P : Program} (w : World)
theorem run_append_roomAt (t ty e : TypeId) (i : TypeInfo) (ht : P.underlying t = some (.slice e)) (hi : P.info? e = some i)
    (g off sLen sCap : Nat) (cur : Array Value) (hg : w.heap[g]? = some (.cells cur e (0, 0)))
    (a : Addr) (m c : Nat) (news : List Value) (hl : news.length = m * i.size) (hnews : ∀ j u, news[j]? = some u → w.cell? (a.add j) = some u) (h1 : ∀ u ∈ news, u.oneCell' = true)
    (hroom : sLen + m ≤ sCap) (hfit : off + sLen * i.size + news.length ≤ cur.size) :
    (Builtin.append_ #[t, t] ty #[.slice (some ⟨g, off, none⟩) sLen sCap, .slice (some a) m c]).run P w =
      .ok (.slice (some ⟨g, off, none⟩) (sLen + m) sCap) (w.setRow g (cur.toList.take (off + sLen * i.size) ++ news ++ cur.toList.drop (off + sLen * i.size + news.length)).toArray) := by
  have hf := run_firstCells_some (P := P) w i.size m a m c news hl hnews
  have hst := run_storeCells_at P g (off + sLen * i.size) e news 0 cur w hg (by simpa using hfit) h1
  simp only [Nat.add_zero] at hst
  simp [Builtin.append_, run_underlying ht, sizeOf, typeInfo, hi, Builtin.lenOf, hroom, hf, Addr.add_lit, hst]
theorem run_append_nought (t ty e : TypeId) (i : TypeInfo) (ht : P.underlying t = some (.slice e)) (hi : P.info? e = some i) (base : Option Addr) (sLen sCap : Nat) (hle : sLen ≤ sCap) (ao : Option Addr) (c : Nat) :
    (Builtin.append_ #[t, t] ty #[.slice base sLen sCap, .slice ao 0 c]).run P w = .ok (.slice base sLen sCap) w := by
  have hl : ∀ (x : Addr), (loadCells x 0).run P w = .ok #[] w := fun x => by simpa using run_loadCells_list (P := P) w x [] (by simp)
  cases base <;> cases ao <;> simp [Builtin.append_, run_underlying ht, sizeOf, typeInfo, hi, Builtin.lenOf, Builtin.firstCells, hle, storeCells, hl]
theorem Try.info31 : (Try.prog.info? 31).map (fun i => (i.zero, i.size, i.bytes)) = some (some (inv ⟨false, ⟨0, 0, 0, 0⟩⟩), 5, 40) := by kernel_rfl
/-- What is appended to a list of the call's own. -/
theorem run_append_q' (w : World) (ty : TypeId) (v : Value) (is : List Inp) (hq : Qv w v is) (u : Value) (qb : Nat) (js : List Inp) (hu : RdI w u qb js) (hl : is.length + js.length ≤ 1000000) :
    ∃ v' w', (Builtin.append_ #[44, 44] ty #[v, u]).run Try.prog w = .ok v' w' ∧ Qv w' v' (is ++ js) ∧ w.grownBy w' v.ownBlock ∧ (∀ k, v'.ownBlock = some k → v.ownBlock = some k ∨ w.heap.size ≤ k) ∧ (js = [] → v' = v) := by
  obtain ⟨i, hi, hz0, hz1, hz2⟩ := info_parts Try.info31
  have hsame : w.grownBy w v.ownBlock := ⟨rfl, rfl, rfl, Nat.le_refl _, fun _ _ _ => rfl⟩
  by_cases h0 : js.length = 0
  · obtain rfl := List.eq_nil_of_length_eq_zero h0
    obtain ⟨ao, cap, rfl, hc1, _⟩ := hq.len
    obtain ⟨_, _, ao', cap', rfl, _⟩ := hu
    exact ⟨_, w, run_append_nought w 44 ty 31 i Try.underlying44 hi _ _ _ hc1 _ _, by rw [List.append_nil]; exact hq, hsame, fun k hk => .inl hk, fun _ => rfl⟩
  · obtain ⟨off2, c2, rfl, hcell⟩ := hu.cells h0
    have hnl : (ins js).length = js.length * i.size := by rw [ins_len, hz1]
    rcases hq with ⟨rfl, rfl⟩ | ⟨g, off, cap, cur, rfl, hh, h1, h2, h3, h4⟩
    · have hr := run_append_nil (P := Try.prog) w 44 ty 31 i _ Try.underlying44 hi hz0 ⟨qb, off2, none⟩ js.length c2 (ins js) hnl hcell (by omega) (by simp at hl; omega) (by rw [hz2]; simp at hl; omega)
      refine ⟨_, _, hr, ?_, ⟨rfl, rfl, rfl, by simp, fun k hk _ => (World.grownBy_alloc w.drew _ none).block k hk (by simp)⟩, fun k hk => ?_, fun e => absurd (by rw [e]; rfl) h0⟩
      · have hge := grownCap_ge w js.length 0 31
        have hcm : grownCap w js.length 0 31 ≤ maxLen := grownCap_le_maxLen w js.length 0 31 (by unfold maxLen; simp at hl; omega)
        refine .inr ⟨w.heap.size, 0, grownCap w js.length 0 31, _, by simp, heap_alloc_new w.drew _, by simpa using hge, hcm, ?_, ?_⟩
        · simp only [Array.size_append, List.size_toArray, size_zeroCells, ins_len]
          have : (inv ⟨false, ⟨0, 0, 0, 0⟩⟩).cells.size = 5 := rfl
          rw [this]; omega
        · rw [List.drop_zero, List.nil_append, Array.toList_append]
          rw [List.take_append_of_le_length (by simp [ins_len]), List.take_of_length_le (by simp [ins_len])]
      · simp only [Value.ownBlock, Option.some.injEq] at hk
        exact .inr (by omega)
    · by_cases hroom : is.length + js.length ≤ cap
      · have hfit : off + is.length * i.size + (ins js).length ≤ cur.size := by rw [ins_len, hz1]; omega
        have hr := run_append_roomAt (P := Try.prog) w 44 ty 31 i Try.underlying44 hi g off is.length cap cur hh ⟨qb, off2, none⟩ js.length c2 (ins js) hnl hcell (ins_one _) hroom hfit
        refine ⟨_, _, hr, ?_, ⟨rfl, rfl, rfl, by simp, fun k _ hk => setRow_other w g k _ (fun e => hk (by simp [Value.ownBlock, e]))⟩, fun k hk => .inl hk, fun e => absurd (by rw [e]; rfl) h0⟩
        rw [hz1] at hfit ⊢
        rw [ins_len] at hfit
        refine .inr ⟨g, off, cap, _, by rw [List.length_append], setRow_heap w g cur _ 31 _ hh, by rw [List.length_append]; omega, h2, ?_, ?_⟩
        · simp only [List.size_toArray, List.length_append, List.length_take, List.length_drop, Array.length_toList, ins_len]
          omega
        · have hcs : cur.toList.length = cur.size := Array.length_toList
          have e1 : (cur.toList.take (off + is.length * 5)).length = off + is.length * 5 := by rw [List.length_take]; omega
          have e2 : (cur.toList.take (off + is.length * 5)).drop off = ins is := by rw [List.drop_take, Nat.add_sub_cancel_left]; exact h4
          rw [ins_append, List.append_assoc, List.drop_append_of_le_length (by omega), e2, List.length_append, Nat.add_mul, ← List.append_assoc]
          rw [List.take_append_of_le_length (by rw [List.length_append, ins_len, ins_len]; exact Nat.le_refl _), List.take_of_length_le (by rw [List.length_append, ins_len, ins_len]; exact Nat.le_refl _)]
      · have hq' : Qv w (.slice (some ⟨g, off, none⟩) is.length cap) is := .inr ⟨g, off, cap, cur, rfl, hh, h1, h2, h3, h4⟩
        have hrd := hq'.inat
        have holds : ∀ j u, (ins is)[j]? = some u → w.cell? ((⟨g, off, none⟩ : Addr).add j) = some u := by
          intro j u hj
          obtain ⟨q1, q2⟩ := ins_some hj
          have := (hrd _ q1).cells q2
          rw [Addr.add_lit]
          rwa [show off + j / 5 * 5 + j % 5 = off + j by omega] at this
        have hr := run_append_grow (P := Try.prog) w 44 ty 31 i _ Try.underlying44 hi hz0 ⟨g, off, none⟩ is.length cap (ins is) (by rw [ins_len, hz1]) holds ⟨qb, off2, none⟩ js.length c2 (ins js) hnl hcell (by omega) (by omega) (growslice_fits (by omega) (by rw [hz2]; omega))
        refine ⟨_, _, hr, ?_, ⟨rfl, rfl, rfl, by simp, fun k hk _ => (World.grownBy_alloc w.drew _ none).block k hk (by simp)⟩, fun k hk => ?_, fun e => absurd (by rw [e]; rfl) h0⟩
        · have hge := grownCap_ge w (is.length + js.length) cap 31
          have hcm : grownCap w (is.length + js.length) cap 31 ≤ maxLen := grownCap_le_maxLen w (is.length + js.length) cap 31 (by unfold maxLen; omega)
          refine .inr ⟨w.heap.size, 0, grownCap w (is.length + js.length) cap 31, _, by simp, heap_alloc_new w.drew _, by simpa using hge, hcm, ?_, ?_⟩
          · simp only [Array.size_append, List.size_toArray, size_zeroCells, ins_len]
            have : (inv ⟨false, ⟨0, 0, 0, 0⟩⟩).cells.size = 5 := rfl
            rw [this]; omega
          · rw [List.drop_zero, ins_append, Array.toList_append, Array.toList_append]
            rw [List.take_append_of_le_length (by simp [ins_len, Nat.add_mul]), List.take_of_length_le (by simp [ins_len, Nat.add_mul])]
        · simp only [Value.ownBlock, Option.some.injEq] at hk
          exact .inr (by omega)
theorem run_append_q (w : World) (ty : TypeId) (v : Value) (is : List Inp) (hq : Qv w v is) (u : Value) (qb : Nat) (js : List Inp) (hu : RdI w u qb js) (hl : is.length + js.length ≤ 1000000) :
    ∃ v' w', (Builtin.append_ #[44, 44] ty #[v, u]).run Try.prog w = .ok v' w' ∧ Qv w' v' (is ++ js) ∧ w.grownBy w' v.ownBlock ∧ (∀ k, v'.ownBlock = some k → v.ownBlock = some k ∨ w.heap.size ≤ k) := by
  obtain ⟨v', w', h1, h2, h3, h4, _⟩ := run_append_q' w ty v is hq u qb js hu hl
  exact ⟨v', w', h1, h2, h3, h4⟩
theorem wpList_append_q' {w : World} {ops : Array Oper} {rest : List Oper} {o : Oper} {a : Act} {Q : Exit → Act → World → Prop} (hw : Region.wanted o (yielded ops a.tmps) = true) (s x : Operand)
    (ho : o.op = .call { callee := .builtin .append, args := #[s, x], argTypes := #[44, 44] })
    (v : Value) (is : List Inp) (hs : a.eval s = v) (hq : Qv w v is) (u : Value) (qb : Nat) (js : List Inp) (hx : a.eval x = u) (hu : RdI w u qb js) (hl : is.length + js.length ≤ 1000000)
    (h : ∀ v' w', Qv w' v' (is ++ js) → w.grownBy w' v.ownBlock → (∀ k, v'.ownBlock = some k → v.ownBlock = some k ∨ w.heap.size ≤ k) → (js = [] → v' = v) → wpList Try.prog ops Q rest (a.put o.dst v') w') : wpList Try.prog ops Q (o :: rest) a w :=
  BigFrame.wpList_want hw fun K hK => by
    obtain ⟨v', w', hr, h2, h3, h4, h5⟩ := run_append_q' w o.type v is hq u qb js hu hl
    unfold Oper.wp execOp
    simp only [ho, resolve, invoke, builtin, Sem.run_bind, Sem.run_pure, Result.andThen_ok, List.map_toArray, List.map_cons, List.map_nil, hs, hx, hr]
    exact hK _ _ (h v' w' h2 h3 h4 h5)
theorem wpList_append_q {w : World} {ops : Array Oper} {rest : List Oper} {o : Oper} {a : Act} {Q : Exit → Act → World → Prop} (hw : Region.wanted o (yielded ops a.tmps) = true) (s x : Operand)
    (ho : o.op = .call { callee := .builtin .append, args := #[s, x], argTypes := #[44, 44] })
    (v : Value) (is : List Inp) (hs : a.eval s = v) (hq : Qv w v is) (u : Value) (qb : Nat) (js : List Inp) (hx : a.eval x = u) (hu : RdI w u qb js) (hl : is.length + js.length ≤ 1000000)
    (h : ∀ v' w', Qv w' v' (is ++ js) → w.grownBy w' v.ownBlock → (∀ k, v'.ownBlock = some k → v.ownBlock = some k ∨ w.heap.size ≤ k) → wpList Try.prog ops Q rest (a.put o.dst v') w') : wpList Try.prog ops Q (o :: rest) a w :=
  BigFrame.wpList_want hw fun K hK => by
    obtain ⟨v', w', hr, h2, h3, h4⟩ := run_append_q w o.type v is hq u qb js hu hl
    unfold Oper.wp execOp
    simp only [ho, resolve, invoke, builtin, Sem.run_bind, Sem.run_pure, Result.andThen_ok, List.map_toArray, List.map_cons, List.map_nil, hs, hx, hr]
    exact hK _ _ (h v' w' h2 h3 h4)
end
end Go.Proofs.Ytnamjnopicghhaa
/- A Cell's blocks as things; what its quota's and its queue's methods do to them. -/
namespace Go.Proofs.Ytnamjnopicghhaa
open Go.RowKit M
open O.MO (Oq Pq)
set_option linter.unusedVariables false
set_option linter.unusedSimpArgs false
attribute [local go_sem ↓] Go.wp_at_zero Go.wp_at_succ

def okl (m : Int) : List Int → Bool
  | [] => true
  | n :: r => decide (0 ≤ n ∧ n ≤ m) && okl (m - n) r
theorem okl_append (m : Int) (a b : List Int) : okl m (a ++ b) = (okl m a && okl (m - a.sum) b) := by
  induction a generalizing m with
  | nil => simp [okl]
  | cons x r ih =>
    show (decide (0 ≤ x ∧ x ≤ m) && okl (m - x) (r ++ b)) = _
    rw [ih, List.sum_cons, show m - (x + r.sum) = m - x - r.sum by omega, ← Bool.and_assoc]
    rfl
theorem okl_snoc (m : Int) (l : List Int) (n : Int) : okl m (l ++ [n]) = (okl m l && decide (0 ≤ n ∧ n ≤ m - l.sum)) := by
  rw [okl_append]; simp [okl]
theorem okl_bd (m : Int) (l : List Int) (h : okl m l = true) (hm : 0 ≤ m) : 0 ≤ l.sum ∧ l.sum ≤ m := by
  induction l generalizing m with
  | nil => simpa using hm
  | cons x r ih =>
    have h : (decide (0 ≤ x ∧ x ≤ m) && okl (m - x) r) = true := h
    simp only [Bool.and_eq_true, decide_eq_true_eq] at h
    have := ih (m - x) h.2 (by omega)
    rw [List.sum_cons]
    omega
theorem okl_no (m : Int) (l : List Int) (k : Nat) (h : okl m (l.take k) = false) : okl m l = false := by
  have e := okl_append m (l.take k) (l.drop k)
  rw [List.take_append_drop, h, Bool.false_and] at e
  exact e

/-- What together tells. -/
def Tog (m : Int) (zs : List Int) (x : Int) (p : Bool) : Prop := okl m zs = p ∧ (p = true ∧ x = zs.sum ∨ p = false ∧ x = 0)
set_option maxHeartbeats 1000000 in
set_option maxRecDepth 100000 in
theorem together_any (m : Int) (v : Value) (zs : List Int) (w : World) (x : Int) (p : Bool) (hr : Rd .i64 w v zs) (hm0 : 0 ≤ m) (hm1 : m ≤ 9223372036854775807) (hp : Tog m zs x p) :
    Calls Try.prog 54 #[.int .i64 m, v] w fun e w' => e = .returned (.tuple #[.int .i64 x, .bool p]) ∧ w' = w := by
  obtain ⟨hl, ao, cap, rfl, _, _, hcs⟩ := hr
  have hcell : Hid (∀ j, j < zs.length → ∃ bb off, ao = some ⟨bb, off, none⟩ ∧ w.cell? ⟨bb, off + j, none⟩ = some (.int .i64 (zs.getD j 0))) := by
    intro j hj
    obtain ⟨bb, off, rfl, hcc⟩ := hcs (by omega)
    exact ⟨bb, off, rfl, hcc j hj⟩
  have hp' : Hid (Tog m zs x p) := hp
  clear hcs hp
  obtain ⟨n, hn⟩ : ∃ n, Hid (zs.length = n) := ⟨_, rfl⟩
  rw [hn.out] at hl hcell ⊢
  go_enter Try.func54, Try.ntmps54
  go_wp2_with fail
  go_loopw [6, 11] (fun av iv wr => ∃ (j : Nat) (S : Int), j ≤ n ∧ av = .int .i64 S ∧ iv = .int .i64 j ∧ 0 ≤ S ∧ S ≤ m ∧ Hid ((zs.take j).sum = S) ∧ Hid (okl m (zs.take j) = true) ∧ wr = w) (fun _ i _ => n - (intOf i).toNat)
  case atStart => exact ⟨0, 0, Nat.zero_le _, rfl, rfl, Int.le_refl _, hm0, rfl, rfl, rfl⟩
  case round =>
    obtain ⟨j, S, hj, rfl, rfl, hS0, hS1, hS, hok, rfl⟩ := hrel
    by_cases hlt : j < n
    · obtain ⟨bb, off, rfl, g⟩ := hcell.out j hlt
      obtain ⟨y, hy⟩ : ∃ y, Hid (zs.getD j 0 = y) := ⟨_, rfl⟩
      rw [hy.out] at g
      have hnx : Hid (zs.take (j + 1) = zs.take j ++ [y]) := by
        have h : zs.take (j + 1) = zs.take j ++ [y] := by rw [take_snoc' zs 0 j (by have := hn.out; omega), hy.out]
        exact h
      have hno : Hid (¬ (0 ≤ y ∧ y ≤ m - S) → p = false ∧ x = 0) := by
        intro h
        have h1 : okl m (zs.take (j + 1)) = false := by rw [hnx.out, okl_snoc, hS.out, decide_eq_false h, Bool.and_false]
        have h2 := okl_no m zs (j + 1) h1
        obtain ⟨h3, h4⟩ := hp'.out
        rw [h2] at h3
        subst h3
        rcases h4 with h4 | h4
        · exact absurd h4.1 (by decide)
        · exact h4
      by_cases h0 : y < 0
      · obtain ⟨rfl, rfl⟩ := hno.out (by omega)
        clear hno hnx hcell hy hp'
        go_wp2_with fail
        exact bodyPost_ret (v := .tuple #[.int .i64 0, .bool false]) (by simp [results, Try.results54, go_sem]) rfl ⟨rfl, rfl⟩
      · by_cases h1 : y ≤ m - S
        · have hS2 : Hid ((zs.take (j + 1)).sum = S + y) := by
            have h : (zs.take (j + 1)).sum = S + y := by rw [hnx.out, List.sum_append, hS.out]; simp
            exact h
          have hok2 : Hid (okl m (zs.take (j + 1)) = true) := by
            have h : okl m (zs.take (j + 1)) = true := by rw [hnx.out, okl_snoc, hS.out, hok.out, decide_eq_true ⟨by omega, h1⟩]; rfl
            exact h
          clear hno hnx hy hp' hS hok
          go_wp2_with fail
          go_roundw
          case rel => exact ⟨j + 1, S + y, by omega, rfl, by go_num, by omega, by omega, hS2, hok2, trivial⟩
          case measure => simp [intOf]; omega
        · obtain ⟨rfl, rfl⟩ := hno.out (by omega)
          clear hno hnx hcell hy hp'
          go_wp2_with fail
          exact bodyPost_ret (v := .tuple #[.int .i64 0, .bool false]) (by simp [results, Try.results54, go_sem]) rfl ⟨rfl, rfl⟩
    · have hfin : p = true ∧ x = S := by
        obtain ⟨h3, h4⟩ := hp'.out
        have e1 := hok.out
        have e2 := hS.out
        rw [List.take_of_length_le (by have := hn.out; omega)] at e1 e2
        rw [e1] at h3
        subst h3
        rcases h4 with h4 | h4
        · exact ⟨rfl, by rw [h4.2, e2]⟩
        · exact absurd h4.1 (by decide)
      obtain ⟨rfl, rfl⟩ := hfin
      clear hp' hS hok hcell
      go_wp2_with fail
      exact bodyPost_ret (v := .tuple #[.int .i64 x, .bool true]) (by simp [results, Try.results54, go_sem]) rfl ⟨rfl, rfl⟩

/-- quota.Of. -/
theorem qof_is (m x : Int) (w : World) (hx : 0 ≤ m ∧ x = m ∨ m < 0 ∧ x = 0) : Calls Try.prog 32 #[.int .i64 m] w fun e w' => e = .returned (.agg #[.int .i64 x, .int .i64 0, .int .i64 0]) ∧ Below w.heap.size w w' := by
  rcases hx with ⟨h, rfl⟩ | ⟨h, rfl⟩
  · by_cases h0 : x = 0
    · subst h0
      go_enter Try.func32, Try.ntmps32
      go_wp2
      exact bodyPost_ret (v := .agg #[.int .i64 0, .int .i64 0, .int .i64 0]) (by simp [results, Try.results32, go_sem]) rfl ⟨rfl, (Below.refl _ _).alloc (Nat.le_refl _) _⟩
    · have h1 : ¬ x ≤ 0 := by omega
      go_enter Try.func32, Try.ntmps32
      go_wp2
      exact bodyPost_ret (v := .agg #[.int .i64 x, .int .i64 0, .int .i64 0]) (by simp [results, Try.results32, go_sem]) rfl ⟨rfl, (Below.refl _ _).alloc (Nat.le_refl _) _⟩
  · have h1 : m ≤ 0 := by omega
    go_enter Try.func32, Try.ntmps32
    go_wp2
    exact bodyPost_ret (v := .agg #[.int .i64 0, .int .i64 0, .int .i64 0]) (by simp [results, Try.results32, go_sem]) rfl ⟨rfl, (Below.refl _ _).alloc (Nat.le_refl _) _⟩
theorem qleft_is (l s f : Int) (w : World) : Calls Try.prog 14 #[.agg #[.int .i64 l, .int .i64 s, .int .i64 f]] w fun e w' => e = .returned (.int .i64 l) ∧ Below w.heap.size w w' := by
  go_enter Try.func14, Try.ntmps14
  go_wp2
  go_ret
  exact ⟨rfl, (Below.refl _ _).alloc (Nat.le_refl _) _⟩
theorem qspent_is (l s f : Int) (w : World) : Calls Try.prog 24 #[.agg #[.int .i64 l, .int .i64 s, .int .i64 f]] w fun e w' => e = .returned (.int .i64 s) ∧ Below w.heap.size w w' := by
  go_enter Try.func24, Try.ntmps24
  go_wp2
  go_ret
  exact ⟨rfl, (Below.refl _ _).alloc (Nat.le_refl _) _⟩
theorem qrefused_is (l s f : Int) (w : World) : Calls Try.prog 15 #[.agg #[.int .i64 l, .int .i64 s, .int .i64 f]] w fun e w' => e = .returned (.int .i64 f) ∧ Below w.heap.size w w' := by
  go_enter Try.func15, Try.ntmps15
  go_wp2
  go_ret
  exact ⟨rfl, (Below.refl _ _).alloc (Nat.le_refl _) _⟩
/-- A Cell's block: its quota (left, spent, refused), its queue's slice, its Run, its Id, its rows, what it has taken. -/
def ck (l s f : Int) (v : Value) (b : Nat) (i : Int) (vr vt : Value) : Array Value := #[.int .i64 l, .int .i64 s, .int .i64 f, v, .pointer (some ⟨b, 0, none⟩), .int .i64 i, vr, vt]
def Ckb (w : World) (c : Nat) (l s f : Int) (v : Value) (b : Nat) (i : Int) (vr vt : Value) : Prop := w.heap[c]? = some (.cells (ck l s f v b i vr vt) 49 (0, 0))
section
variable {w w' : World} {c : Nat} {l s f : Int} {v : Value} {b : Nat} {i : Int} {vr vt : Value}
theorem Ckb.c0 (h : Ckb w c l s f v b i vr vt) : w.cell? ⟨c, 0, none⟩ = some (.int .i64 l) := by unfold Ckb ck at h; simp [World.cell?, h]
theorem Ckb.c1 (h : Ckb w c l s f v b i vr vt) : w.cell? ⟨c, 1, none⟩ = some (.int .i64 s) := by unfold Ckb ck at h; simp [World.cell?, h]
theorem Ckb.c2 (h : Ckb w c l s f v b i vr vt) : w.cell? ⟨c, 2, none⟩ = some (.int .i64 f) := by unfold Ckb ck at h; simp [World.cell?, h]
theorem Ckb.c3 (h : Ckb w c l s f v b i vr vt) : w.cell? ⟨c, 3, none⟩ = some (v) := by unfold Ckb ck at h; simp [World.cell?, h]
theorem Ckb.c4 (h : Ckb w c l s f v b i vr vt) : w.cell? ⟨c, 4, none⟩ = some (.pointer (some ⟨b, 0, none⟩)) := by unfold Ckb ck at h; simp [World.cell?, h]
theorem Ckb.c5 (h : Ckb w c l s f v b i vr vt) : w.cell? ⟨c, 5, none⟩ = some (.int .i64 i) := by unfold Ckb ck at h; simp [World.cell?, h]
theorem Ckb.c6 (h : Ckb w c l s f v b i vr vt) : w.cell? ⟨c, 6, none⟩ = some (vr) := by unfold Ckb ck at h; simp [World.cell?, h]
theorem Ckb.c7 (h : Ckb w c l s f v b i vr vt) : w.cell? ⟨c, 7, none⟩ = some (vt) := by unfold Ckb ck at h; simp [World.cell?, h]
theorem Ckb.free (h : Ckb w c l s f v b i vr vt) (j : Nat) : w.frozen? ⟨c, j, none⟩ = false := by unfold Ckb at h; simp [World.frozen?, h]
theorem Ckb.lt (h : Ckb w c l s f v b i vr vt) : c < w.heap.size := (Array.getElem?_eq_some_iff.1 h).1
theorem Ckb.call (h : Ckb w c l s f v b i vr vt) (hb : Below w.heap.size w w') : Ckb w' c l s f v b i vr vt := (hb.block c h.lt).trans h
theorem Ckb.set0 (h : Ckb w c l s f v b i vr vt) (x : Int) : Ckb (w.setCell ⟨c, 0, none⟩ (.int .i64 x)) c x s f v b i vr vt := by
  unfold Ckb ck at *; simp [World.setCell, Array.getElem?_modify, h]
theorem Ckb.set1 (h : Ckb w c l s f v b i vr vt) (x : Int) : Ckb (w.setCell ⟨c, 1, none⟩ (.int .i64 x)) c l x f v b i vr vt := by
  unfold Ckb ck at *; simp [World.setCell, Array.getElem?_modify, h]
theorem Ckb.set2 (h : Ckb w c l s f v b i vr vt) (x : Int) : Ckb (w.setCell ⟨c, 2, none⟩ (.int .i64 x)) c l s x v b i vr vt := by
  unfold Ckb ck at *; simp [World.setCell, Array.getElem?_modify, h]
theorem Ckb.set3 (h : Ckb w c l s f v b i vr vt) (x : Value) : Ckb (w.setCell ⟨c, 3, none⟩ x) c l s f x b i vr vt := by
  unfold Ckb ck at *; simp [World.setCell, Array.getElem?_modify, h]
theorem Ckb.set6 (h : Ckb w c l s f v b i vr vt) (x : Value) : Ckb (w.setCell ⟨c, 6, none⟩ x) c l s f v b i x vt := by
  unfold Ckb ck at *; simp [World.setCell, Array.getElem?_modify, h]
theorem Ckb.set7 (h : Ckb w c l s f v b i vr vt) (x : Value) : Ckb (w.setCell ⟨c, 7, none⟩ x) c l s f v b i vr x := by
  unfold Ckb ck at *; simp [World.setCell, Array.getElem?_modify, h]
theorem ckb_new (w : World) (l s f : Int) (v : Value) (b : Nat) (i : Int) (vr vt : Value) : Ckb (w.alloc (.cells #[.int .i64 l, .int .i64 s, .int .i64 f, v, .pointer (some ⟨b, 0, none⟩), .int .i64 i, vr, vt] 49)) w.heap.size l s f v b i vr vt := by
  show (w.heap.push _)[w.heap.size]? = _
  simp [ck]
end
def cb (c : Nat) (l s f : Int) (v : Value) (b : Nat) (i : Int) (vr vt : Value) : Th := blkT c (.cells (ck l s f v b i vr vt) 49)
/-- A list of inputs of the call's own. -/
def inl (v : Value) (is : List Inp) : Th where
  P w F := Qv w v is ∧ Labl is ∧ ∀ k, F k ↔ v.ownBlock = some k
  lt h k hk := h.1.lt k ((h.2.2 k).1 hk)
  keep h hz hk := ⟨h.1.keep (fun k x => hk k ((h.2.2 k).2 x)), h.2.1, h.2.2⟩
theorem own_hold {w w' : World} {B : Nat} {e : TypeId} {size : Nat} {v : Value} {n : Nat} {xs : List Value} (h : w.ownsRow B e size v n xs) (hb : ∀ k, v.ownBlock = some k → w'.heap[k]? = w.heap[k]?) : w'.ownsRow B e size v n xs := by
  obtain ⟨h1, h | ⟨g, cap, cur, rfl, h2, hh, r⟩⟩ := h
  · exact ⟨h1, .inl h⟩
  · exact ⟨h1, .inr ⟨g, cap, cur, rfl, h2, (hb g rfl).trans hh, r⟩⟩
theorem own_mono {w : World} {B B' : Nat} {e : TypeId} {size : Nat} {v : Value} {n : Nat} {xs : List Value} (h : w.ownsRow B e size v n xs) (hB : B' ≤ B) : w.ownsRow B' e size v n xs := by
  obtain ⟨h1, h | ⟨g, cap, cur, rfl, h2, r⟩⟩ := h
  · exact ⟨h1, .inl h⟩
  · exact ⟨h1, .inr ⟨g, cap, cur, rfl, Nat.le_trans hB h2, r⟩⟩
/-- A list of rows of the call's own. -/
def rwl (v : Value) (R : List Pn) : Th where
  P w F := w.ownsRow 0 39 5 v R.length (rcs R) ∧ ∀ k, F k ↔ v.ownBlock = some k
  lt h k hk := (h.1.lt k ((h.2 k).1 hk)).2
  keep h hz hk := ⟨own_hold h.1 (fun k x => hk k ((h.2 k).2 x)), h.2⟩
theorem Rnr.hold {w w' : World} {b q o g : Nat} {p : Pq} {r : Rs} (h : Rnr w b q o g p r) (hz : w.heap.size ≤ w'.heap.size) (hk : ∀ k, k = b ∨ k = q ∨ k = o ∨ k = g → w'.heap[k]? = w.heap[k]?) : Rnr w' b q o g p r := by
  obtain ⟨u, h1, h2, h3, h4, h5, h6, h7, h8, h9, h10, h11⟩ := h
  refine ⟨u, h1.keep (hk b (.inl rfl)), ?_, h3.keep (fun k hk2 hl => hk k (.inr (.inr (.inr (h4 k hk2))))), h4, h5, h6, h7, h8, h9, by omega, h11.keep (hk o (by simp))⟩
  obtain ⟨v, hh, hs, hkk, ho⟩ := h2
  refine ⟨v, (hk q (by simp)).trans hh, ?_, hkk, by omega⟩
  rcases hs with hs | ⟨cap, rfl, hp⟩
  · exact .inl hs
  · exact .inr ⟨cap, rfl, hp.keep (hk o (by simp))⟩
/-- A runner. -/
def rnt (b : Nat) (p : Pq) (r : Rs) : Th where
  P w F := ∃ q o g, Rnr w b q o g p r ∧ ∀ k, F k ↔ k = b ∨ k = q ∨ k = o ∨ k = g
  lt h k hk := by
    obtain ⟨q, o, g, h1, h2⟩ := h
    obtain ⟨l1, l2, l3, l4⟩ := h1.lt
    rcases (h2 k).1 hk with rfl | rfl | rfl | rfl <;> assumption
  keep h hz hk := by
    obtain ⟨q, o, g, h1, h2⟩ := h
    exact ⟨q, o, g, h1.hold hz (fun k x => hk k ((h2 k).2 x)), h2⟩
section
variable {W0 w w' w1 : World} {us : List Th} {c : Nat} {l s f : Int} {v : Value} {b : Nat} {i : Int} {vr vt : Value} {L L' L1 : List Inp}
theorem St.ck (h : St W0 w (cb c l s f v b i vr vt :: us)) : Ckb w c l s f v b i vr vt := h.blk
/-- A store into a block. -/
theorem St.setB {o o' : Obj} (h : St W0 w (blkT c o :: us)) (j : Nat) (u : Value) (hn : (w.setCell ⟨c, j, none⟩ u).heap[c]? = some o') : St W0 (w.setCell ⟨c, j, none⟩ u) (blkT c o' :: us) := by
  obtain ⟨F, h1, _, h2⟩ := h.act
  exact h2 _ (blkT c o') F ⟨hn, h1.2⟩ (fun k hk => .inl hk) ⟨rfl, rfl, rfl, by simp [World.setCell], fun g hl hg => Below.heap_setCell _ _ _ _ (fun e => hg ((h1.2 g).2 e))⟩
theorem St.setC {l' s' f' : Int} {v' : Value} {b' : Nat} {i' : Int} {vr' vt' : Value} (h : St W0 w (cb c l s f v b i vr vt :: us)) (j : Nat) (u : Value) (hn : Ckb (w.setCell ⟨c, j, none⟩ u) c l' s' f' v' b' i' vr' vt') : St W0 (w.setCell ⟨c, j, none⟩ u) (cb c l' s' f' v' b' i' vr' vt' :: us) := St.setB h j u hn
theorem St.qv (h : St W0 w (inl v L :: us)) : Qv w v L ∧ Labl L := by
  obtain ⟨F, h1, _⟩ := h.get
  exact ⟨h1.1, h1.2.1⟩
/-- A list grows. -/
theorem St.grow {v1 : Value} (h : St W0 w (inl v L :: us)) (hq : Qv w1 v1 L1) (hl : Labl L1) (hg : w.grownBy w1 v.ownBlock) (hf : ∀ k, v1.ownBlock = some k → v.ownBlock = some k ∨ w.heap.size ≤ k) : St W0 w1 (inl v1 L1 :: us) := by
  obtain ⟨F, h1, _, h2⟩ := h.act
  refine h2 w1 (inl v1 L1) (fun k => v1.ownBlock = some k) ⟨hq, hl, fun k => Iff.rfl⟩ (fun k hk => ?_) ((Chf.grown hg).mono (fun k hk => (h1.2.2 k).2 hk))
  rcases hf k hk with h | h
  · exact .inl ((h1.2.2 k).2 h)
  · exact .inr h
/-- The same list told otherwise: another part of it. -/
theorem St.part {v1 : Value} (h : St W0 w (inl v L :: us)) (hq : Qv w v1 L1) (hl : Labl L1) (hf : ∀ k, v1.ownBlock = some k → v.ownBlock = some k) : St W0 w (inl v1 L1 :: us) :=
  h.grow hq hl ⟨rfl, rfl, rfl, Nat.le_refl _, fun _ _ _ => rfl⟩ (fun k hk => .inl (hf k hk))
/-- A list more, in new memory. -/
theorem St.newl (h : St W0 w us) (hb : Below w.heap.size w w') (hq : Qv w' v L) (hl : Labl L) (hf : ∀ k, v.ownBlock = some k → w.heap.size ≤ k) : St W0 w' (inl v L :: us) :=
  h.new (F := fun k => v.ownBlock = some k) hb ⟨hq, hl, fun k => Iff.rfl⟩ hf
theorem St.newr {R : List Pn} {B : Nat} (h : St W0 w us) (hb : Below w.heap.size w w') (hq : w'.ownsRow B 39 5 v R.length (rcs R)) (hB : w.heap.size ≤ B) : St W0 w' (rwl v R :: us) :=
  h.new (F := fun k => v.ownBlock = some k) hb ⟨own_mono hq (Nat.zero_le _), fun k => Iff.rfl⟩ (fun k hk => Nat.le_trans hB (hq.lt k hk).1)
end
/-- Quota.Refuse, of a Cell. -/
theorem refuse_is {W0 : World} {us : List Th} {c : Nat} {l s f : Int} {v : Value} {b : Nat} {i : Int} {vr vt : Value} (w : World) (hS : St W0 w (cb c l s f v b i vr vt :: us)) (hf : 0 ≤ f ∧ f ≤ 1000000) :
    Calls Try.prog 53 #[.pointer (some ⟨c, 0, none⟩)] w fun e w' => e = .returned (.tuple #[]) ∧ St W0 w' (cb c l s (f + 1) v b i vr vt :: us) := by
  have hk := hS.ck
  have c2 := hk.c2
  have f2 := hk.free 2
  obtain ⟨hf1, hf2⟩ := hf
  have hS' : Hid (St W0 (w.setCell ⟨c, 2, none⟩ (.int .i64 (f + 1))) (cb c l s (f + 1) v b i vr vt :: us)) := hS.setC _ _ (hk.set2 _)
  clear hS hk
  go_enter Try.func53, Try.ntmps53
  go_wp2
  go_end0
  exact ⟨rfl, hS'.out⟩
/-- Quota.Spend of one, of a Cell that has one left. -/
theorem spend_is {W0 : World} {us : List Th} {c : Nat} {l s f : Int} {v : Value} {b : Nat} {i : Int} {vr vt : Value} (u : Value) (w : World) (hS : St W0 w (cb c l s f v b i vr vt :: us)) (hu : Rd .i64 w u [1]) (hl : 1 ≤ l ∧ l ≤ 1000000) (hs : 0 ≤ s ∧ s ≤ 1000000) :
    Calls Try.prog 36 #[.pointer (some ⟨c, 0, none⟩), u] w fun e w' => e = .returned (.bool true) ∧ St W0 w' (cb c (l - 1) (s + 1) f v b i vr vt :: us) := by
  have hk := hS.ck
  have c0 := hk.c0
  have c1 := hk.c1
  have f0 := hk.free 0
  have f1 := hk.free 1
  obtain ⟨hl1, hl2⟩ := hl
  obtain ⟨hs1, hs2⟩ := hs
  have k0 := hk.set0 (l - 1)
  have d1 := k0.c1
  have e1 := k0.free 1
  have hS' : Hid (St W0 ((w.setCell ⟨c, 0, none⟩ (.int .i64 (l - 1))).setCell ⟨c, 1, none⟩ (.int .i64 (s + 1))) (cb c (l - 1) (s + 1) f v b i vr vt :: us)) := (hS.setC _ _ k0).setC _ _ (k0.set1 _)
  clear hS hk k0
  go_enter Try.func36, Try.ntmps36
  go_wp2_with fail
  refine (together_any l u [1] _ 1 true hu (by omega) (by omega) ⟨by simp [okl]; omega, .inl ⟨rfl, by simp⟩⟩).mono ?_
  rintro e w1 ⟨rfl, he⟩; obtain rfl := he.symm; clear he
  go_wp2_with fail
  go_ret
  exact ⟨rfl, hS'.out⟩
/-- A Queue's block. -/
def Qbk (w : World) (b : Nat) (v : Value) : Prop := w.heap[b]? = some (.cells #[v] 46 (0, 0))
theorem Qbk.c {w : World} {b : Nat} {v : Value} (h : Qbk w b v) : w.cell? ⟨b, 0, none⟩ = some v := by unfold Qbk at h; simp [World.cell?, h]
theorem Qbk.free {w : World} {b : Nat} {v : Value} (h : Qbk w b v) (i : Nat) : w.frozen? ⟨b, i, none⟩ = false := by unfold Qbk at h; simp [World.frozen?, h]
theorem Qbk.lt {w : World} {b : Nat} {v : Value} (h : Qbk w b v) : b < w.heap.size := (Array.getElem?_eq_some_iff.1 h).1
theorem Qbk.set {w : World} {b : Nat} {v : Value} (h : Qbk w b v) (u : Value) : Qbk (w.setCell ⟨b, 0, none⟩ u) b u := by
  unfold Qbk at h ⊢
  simp [World.setCell, Array.getElem?_modify, h]
theorem qbk_new (w : World) (v : Value) : Qbk (w.alloc (.cells #[v] 46)) w.heap.size v := by
  show (w.heap.push _)[w.heap.size]? = _
  simp
theorem Qv.typ {w : World} {v : Value} {is : List Inp} (h : Qv w v is) : ∀ k, v.ownBlock = some k → ∃ cur, w.heap[k]? = some (.cells cur 31 (0, 0)) := by
  intro k hk
  rcases h with ⟨rfl, _⟩ | ⟨g, off, cap, cur, rfl, hh, _⟩
  · cases hk
  · simp only [Value.ownBlock, Option.some.injEq] at hk
    subst hk
    exact ⟨cur, hh⟩
theorem Qbk.ne {w : World} {b k : Nat} {v u : Value} {is : List Inp} (h : Qbk w b v) (hq : Qv w u is) (hk : u.ownBlock = some k) : k ≠ b := by
  rintro rfl
  obtain ⟨cur, hc⟩ := hq.typ _ hk
  unfold Qbk at h
  rw [hc] at h
  simp at h
abbrev Qt := Nat × Value × List Inp
abbrev Lt := Value × List Inp
theorem qcopy_is (u : Value) (qb : Nat) (is : List Inp) (w : World) (hu : RdI w u qb is) (hl : is.length ≤ 1000000) :
    Calls Try.prog 47 #[u] w fun e w' => ∃ v, e = .returned v ∧ Qv w' v is ∧ Below w.heap.size w w' ∧ ∀ k, v.ownBlock = some k → w.heap.size ≤ k := by
  go_enter Try.func47, Try.ntmps47
  go_wp2_with (refine wpList_append_q (by rfl) _ _ rfl (.slice none 0 0) [] rfl (qv_nil _) u qb is rfl hu (by simpa using hl) ?_; rintro v1 w1 hq1 hg1 hf1)
  go_ret
  refine ⟨_, rfl, hq1, (Below.refl _ _).grown hg1 (Nat.le_refl _) (fun k hk => by cases hk), fun k hk => ?_⟩
  rcases hf1 k hk with h | h
  · cases h
  · exact h
theorem ccopy_is (u : Value) (qb : Nat) (is : List Inp) (w : World) (hu : RdI w u qb is) (hl : is.length ≤ 1000000) :
    Calls Try.prog 46 #[u] w fun e w' => ∃ v, e = .returned v ∧ Qv w' v is ∧ Below w.heap.size w w' ∧ ∀ k, v.ownBlock = some k → w.heap.size ≤ k := by
  go_enter Try.func46, Try.ntmps46
  go_wp2_with (refine wpList_append_q (by rfl) _ _ rfl (.slice none 0 0) [] rfl (qv_nil _) u qb is rfl hu (by simpa using hl) ?_; rintro v1 w1 hq1 hg1 hf1)
  go_ret
  refine ⟨_, rfl, hq1, (Below.refl _ _).grown hg1 (Nat.le_refl _) (fun k hk => by cases hk), fun k hk => ?_⟩
  rcases hf1 k hk with h | h
  · cases h
  · exact h
theorem qwaiting_is (v : Value) (is : List Inp) (w : World) (hq : Qv w v is) :
    Calls Try.prog 21 #[.agg #[v]] w fun e w' => e = .returned (.int .i64 (is.length : Nat)) ∧ Below w.heap.size w w' := by
  obtain ⟨ao, cap, rfl, h1, h2, h3⟩ := hq.len
  generalize is.length = n at *
  go_enter Try.func21, Try.ntmps21
  go_wp2
  go_ret
  exact ⟨rfl, below_alloc _ _⟩
theorem qall_is (v : Value) (is : List Inp) (w : World) (hq : Qv w v is) (hlab : Labl is) (hl : is.length ≤ 1000000) :
    Calls Try.prog 23 #[.agg #[v]] w fun e w' => ∃ u, e = .returned u ∧ Qv w' u is ∧ Below w.heap.size w w' ∧ ∀ k, u.ownBlock = some k → w.heap.size ≤ k := by
  have hb := below_alloc w (.cells #[v] 46)
  obtain ⟨qb, hr, _, _⟩ := (hq.below hb).rdi hlab 0
  have hz : w.heap.size ≤ (w.alloc (.cells #[v] 46)).heap.size := by simp
  have c0 := (qbk_new w v).c
  go_enter Try.func23, Try.ntmps23
  go_upto_region 1 with fail
  generalize w.alloc (.cells #[v] 46) = w1 at *
  go_wp2_with fail
  refine (qcopy_is v qb is _ hr hl).mono ?_
  rintro e w2 ⟨u, rfl, hu, b2, hf⟩
  go_wp2
  go_ret
  exact ⟨_, rfl, hu, below_call hb b2, fun k hk => Nat.le_trans hz (hf k hk)⟩
theorem qsplit_is (v : Value) (is : List Inp) (w : World) (hq : Qv w v is) (hlab : Labl is) (hl : is.length ≤ 1000000) :
    Calls Try.prog 44 #[.agg #[v]] w fun e w' => ∃ u, e = .returned (.agg #[u]) ∧ Qv w' u is ∧ Below w.heap.size w w' ∧ ∀ k, u.ownBlock = some k → w.heap.size ≤ k := by
  have hb : Below w.heap.size w ((w.alloc (.cells #[v] 46)).alloc (.cells #[.slice none 0 0] 46)) := (below_alloc w _).trans ((below_alloc _ _).mono (by simp))
  have hb1 := below_alloc w (.cells #[v] 46)
  obtain ⟨qb, hr, _, _⟩ := (hq.below hb).rdi hlab 0
  have hz : w.heap.size + 1 < ((w.alloc (.cells #[v] 46)).alloc (.cells #[.slice none 0 0] 46)).heap.size := by simp
  have k0 : Hid (Qbk ((w.alloc (.cells #[v] 46)).alloc (.cells #[.slice none 0 0] 46)) (w.heap.size + 1) (.slice none 0 0)) := by
    have h1 := qbk_new (w.alloc (.cells #[v] 46)) (.slice none 0 0)
    have h2 : Qbk ((w.alloc (.cells #[v] 46)).alloc (.cells #[.slice none 0 0] 46)) (w.heap.size + 1) (.slice none 0 0) := by simpa using h1
    exact h2
  have c0 : ((w.alloc (.cells #[v] 46)).alloc (.cells #[.slice none 0 0] 46)).cell? ⟨w.heap.size, 0, none⟩ = some v := by
    have h1 := (below_alloc (w.alloc (.cells #[v] 46)) (.cells #[.slice none 0 0] 46)).cell (p := ⟨w.heap.size, 0, none⟩) (by simp)
    rw [h1]
    exact (qbk_new w v).c
  clear hb1
  go_enter Try.func44, Try.ntmps44
  go_upto_region 1 with fail
  generalize (w.alloc (.cells #[v] 46)).alloc (.cells #[.slice none 0 0] 46) = w1 at *
  go_wp2_with fail
  refine (qcopy_is v qb is _ hr hl).mono ?_
  rintro e w2 ⟨u, rfl, hu, b2, hf⟩
  have k2 : Qbk w2 (w.heap.size + 1) (.slice none 0 0) := (b2.block _ k0.out.lt).trans k0.out
  have f2 := k2.free 0
  have c2 := k2.c
  have hs : Hid (Qbk (w2.setCell ⟨w.heap.size + 1, 0, none⟩ u) (w.heap.size + 1) u) := k2.set u
  have hu' : Hid (Qv (w2.setCell ⟨w.heap.size + 1, 0, none⟩ u) u is) := hu.keep fun k hk => Below.heap_setCell _ _ _ _ (k2.ne hu hk)
  have hB : Hid (Below w.heap.size w (w2.setCell ⟨w.heap.size + 1, 0, none⟩ u)) := (below_call hb b2).setCell (Nat.le_succ _) u
  obtain ⟨ao, cap, rfl, _, _, _⟩ := hu.len
  clear k0 k2 hu b2 hb hq
  go_wp2
  have c3 := hs.out.c
  refine bodyPost_ret (v := .agg #[.slice ao is.length cap]) (by simp [results, Try.results44, go_sem, c3]) rfl ⟨_, rfl, hu'.out, hB.out, fun k hk => ?_⟩
  have := hf k hk
  omega
theorem push_mid {W0 w w1 : World} {us : List Th} {c : Nat} {l s f : Int} {v v1 : Value} {b : Nat} {i : Int} {vr vt : Value} {L L1 : List Inp} (h : St W0 w (cb c l s f v b i vr vt :: inl v L :: us)) (hq1 : Qv w1 v1 L1) (hl1 : Labl L1) (hg1 : w.grownBy w1 v.ownBlock) (hf1 : ∀ k, v1.ownBlock = some k → v.ownBlock = some k ∨ w.heap.size ≤ k) :
    ∃ a1 n1 x1, v1 = .slice a1 n1 x1 ∧ w1.cell? ⟨c, 3, none⟩ = some v ∧ w1.frozen? ⟨c, 3, none⟩ = false ∧ Hid (St W0 (w1.setCell ⟨c, 3, none⟩ v1) (cb c l s f v1 b i vr vt :: inl v1 L1 :: us)) := by
  have h1 : St W0 w1 (inl v1 L1 :: cb c l s f v b i vr vt :: us) := h.sw.grow hq1 hl1 hg1 hf1
  have h2 := h1.sw
  obtain ⟨a1, x1, e, _⟩ := hq1.len
  exact ⟨a1, _, x1, e, h2.ck.c3, h2.ck.free 3, h2.setC _ _ (h2.ck.set3 _)⟩
set_option maxHeartbeats 1000000 in
/-- Queue.Push, of a Cell: where there is room, and where there is none. -/
theorem push_is {W0 : World} {us : List Th} {c : Nat} {l s f : Int} {v : Value} {b : Nat} {i : Int} {vr vt : Value} {L : List Inp} (room : Int) (u : Value) (qb : Nat) (js : List Inp) (w : World) (hS : St W0 w (cb c l s f v b i vr vt :: inl v L :: us)) (hu : RdI w u qb js) (hl : L.length + js.length ≤ 1000000) (L' : List Inp) (ok : Bool)
    (hL : (room < ((L.length + js.length : Nat) : Int) ∧ ok = false ∧ L' = L) ∨ (((L.length + js.length : Nat) : Int) ≤ room ∧ ok = true ∧ L' = L ++ js)) :
    Calls Try.prog 35 #[.pointer (some ⟨c, 3, none⟩), .int .i64 room, u] w fun e w' => e = .returned (.bool ok) ∧ ∃ v', St W0 w' (cb c l s f v' b i vr vt :: inl v' L' :: us) := by
  have hS' : Hid (St W0 w (cb c l s f v b i vr vt :: inl v L :: us)) := hS
  have hu' : Hid (RdI w u qb js) := hu
  have c0 := hS.ck.c3
  obtain ⟨k2, hlab⟩ := hS.sw.qv
  obtain ⟨ao, cap, rfl, h1, h2, h3⟩ := k2.len
  obtain ⟨hm, hlab2, ao2, cap2, rfl, h4, h5, _⟩ := hu
  have hlab3 : Hid (Labl (L ++ js)) := hlab.app hlab2
  clear hS k2 h3 hlab hlab2
  obtain ⟨n, hn⟩ : ∃ n, Hid (L.length = n) := ⟨_, rfl⟩
  obtain ⟨m, hmm⟩ : ∃ m, Hid (js.length = m) := ⟨_, rfl⟩
  have hl' : n + m ≤ 1000000 := by rw [hn.out, hmm.out] at hl; exact hl
  have hLh : Hid ((room < ((n + m : Nat) : Int) ∧ ok = false ∧ L' = L) ∨ (((n + m : Nat) : Int) ≤ room ∧ ok = true ∧ L' = L ++ js)) := by rw [hn.out, hmm.out] at hL; exact hL
  rw [hn.out] at c0 h1
  rw [hmm.out] at h4 ⊢
  clear hL hl
  by_cases hr : room < ((n + m : Nat) : Int)
  · obtain ⟨rfl, rfl⟩ : ok = false ∧ L' = L := by
      rcases hLh.out with h | h
      · exact h.2
      · exfalso; omega
    clear hLh
    go_enter Try.func35, Try.ntmps35
    go_wp2
    go_ret
    exact ⟨rfl, _, hS'.out⟩
  · obtain ⟨rfl, rfl⟩ : ok = true ∧ L' = L ++ js := by
      rcases hLh.out with h | h
      · exfalso; omega
      · exact h.2
    clear hLh
    go_enter Try.func35, Try.ntmps35
    go_upto_region 3 with fail
    go_wp2_with (refine wpList_append_q (by rfl) _ _ rfl (.slice ao n cap) L rfl (by have := hS'.out.sw.qv.1; rw [hn.out] at this; exact this) (.slice ao2 m cap2) qb js rfl (by have := hu'.out; rw [hmm.out] at this; exact this) (by rw [hn.out, hmm.out]; exact hl') ?_; rintro v1 w1 hq1 hg1 hf1; obtain ⟨a1, n1, x1, rfl, d0, f0, hfin⟩ := push_mid (by have := hS'.out; rw [hn.out] at this; exact this) hq1 hlab3.out hg1 hf1; clear hq1 hg1 hf1 c0)
    go_ret
    exact ⟨rfl, _, hfin.out⟩
theorem qv_cut {w : World} {ao : Option Addr} {n cap : Nat} {is : List Inp} (h : Qv w (.slice ao n cap) is) (m : Nat) (hm : m ≤ is.length) (ao' : Option Addr) (ha : ao' = if cap - m = 0 then ao else ao.map (fun x => x.add (m * 5))) :
    Qv w (.slice ao' (n - m) (cap - m)) (is.drop m) ∧ ∀ k, (Value.slice ao' (n - m) (cap - m)).ownBlock = some k → (Value.slice ao n cap).ownBlock = some k := by
  subst ha
  cases ao with
  | none =>
    rcases h with ⟨h, rfl⟩ | ⟨g', off', cap', cur, e, _⟩
    · cases h
      obtain rfl : m = 0 := by simpa using hm
      exact ⟨.inl ⟨by simp, by simp⟩, fun k hk => by simp [Value.ownBlock] at hk⟩
    · cases e
  | some a =>
    have h' := h
    rcases h' with ⟨h', _⟩ | ⟨g', off', cap', cur, e, hh, h1, _⟩
    · cases h'
    · cases e
      by_cases hc : cap - m = 0
      · rw [if_pos hc]
        exact ⟨h.dropAll m (by omega) (by omega), fun k hk => hk⟩
      · rw [if_neg hc]
        have e : (some (⟨g', off', none⟩ : Addr)).map (fun x => x.add (m * 5)) = some ⟨g', off' + m * 5, none⟩ := by simp [Addr.add_lit]
        rw [e]
        exact ⟨h.drop m hm, fun k hk => by simpa [Value.ownBlock] using hk⟩
theorem perm_pop (a b c : Th) (us : List Th) : (a :: b :: c :: us).Perm (b :: c :: a :: us) := (List.Perm.swap b a _).trans ((List.Perm.swap c a us).cons b)
theorem perm_pop2 (a b c : Th) (us : List Th) : (b :: c :: a :: us).Perm (a :: b :: c :: us) := (perm_pop a b c us).symm
theorem pop_fin {W0 w : World} {us : List Th} {c : Nat} {l s f : Int} {b : Nat} {i : Int} {vr vt : Value} {n cap : Nat} {ao : Option Addr} {L : List Inp} (h : St W0 w (cb c l s f (.slice ao n cap) b i vr vt :: inl (.slice ao n cap) L :: us)) (k : Nat) (hk : k ≤ L.length) (ao' : Option Addr) (c' : Nat)
    (ha : ao' = if cap - k = 0 then ao else ao.map (fun x => x.add (k * 5))) (hc : c' = cap - k) : St W0 (w.setCell ⟨c, 3, none⟩ (.slice ao' (n - k) c')) (cb c l s f (.slice ao' (n - k) c') b i vr vt :: inl (.slice ao' (n - k) c') (L.drop k) :: us) := by
  subst hc
  obtain ⟨h1, h2⟩ := h.sw.qv
  obtain ⟨q1, q2⟩ := qv_cut h1 k hk ao' ha
  have h3 := (h.sw.part q1 (h2.drop k) q2).sw
  exact h3.setC _ _ (h3.ck.set3 _)
set_option maxHeartbeats 1000000 in
/-- Queue.Pop, of a Cell. -/
theorem pop_is {W0 : World} {us : List Th} {c : Nat} {l s f : Int} {v : Value} {b : Nat} {i : Int} {vr vt : Value} {L : List Inp} (nn : Int) (w : World) (hS : St W0 w (cb c l s f v b i vr vt :: inl v L :: us)) (hl : L.length ≤ 1000000) (k : Nat)
    (hk : (nn < 0 ∧ k = 0) ∨ (0 ≤ nn ∧ nn ≤ ((L.length : Nat) : Int) ∧ nn = (k : Nat)) ∨ (((L.length : Nat) : Int) < nn ∧ k = L.length)) :
    Calls Try.prog 37 #[.pointer (some ⟨c, 3, none⟩), .int .i64 nn] w fun e w' => ∃ u v', e = .returned u ∧ St W0 w' (inl u (L.take k) :: cb c l s f v' b i vr vt :: inl v' (L.drop k) :: us) := by
  have hS' : Hid (St W0 w (cb c l s f v b i vr vt :: inl v L :: us)) := hS
  have c0 := hS.ck.c3
  obtain ⟨k2, hlab⟩ := hS.sw.qv
  obtain ⟨ao, cap, rfl, h1, h2, h3⟩ := k2.len
  have hkl : k ≤ L.length := by omega
  have hrd : Hid (Qv w (.slice ao k cap) (L.take k)) := k2.take k hkl
  have hlab1 : Hid (Labl (L.take k)) := hlab.take k
  clear hS k2 h3 hlab
  obtain ⟨n, hn⟩ : ∃ n, Hid (L.length = n) := ⟨_, rfl⟩
  rw [hn.out] at c0 h1 hk hkl hl
  go_enter Try.func37, Try.ntmps37
  go_upto_region 1 with fail
  go_cut [1] (fun x wx => x = .int .i64 ((k : Nat) : Int) ∧ wx = w)
  case first =>
    rcases hk with ⟨h4, rfl⟩ | ⟨h4, h5, rfl⟩ | ⟨h4, rfl⟩
    · go_wp2_with fail
      go_meet
      exact ⟨rfl, rfl⟩
    · go_wp2_with fail
      go_meet
      exact ⟨rfl, rfl⟩
    · go_wp2_with fail
      go_meet
      exact ⟨rfl, rfl⟩
  obtain ⟨rfl, he⟩ := hcut
  obtain rfl := he.symm
  clear hk
  obtain ⟨qb, hrd2, hx1, hx2⟩ := hrd.out.rdi hlab1.out 0
  clear hx1 hx2
  have hlk : (L.take k).length = k := by rw [List.length_take, hn.out]; omega
  go_wp2_with fail
  refine (qcopy_is (.slice ao k cap) qb (L.take k) _ hrd2 (by omega)).mono ?_
  rintro e w2 ⟨u, rfl, hu, b2, hf⟩
  have hS2 : Hid (St W0 w2 (inl u (L.take k) :: cb c l s f (.slice ao n cap) b i vr vt :: inl (.slice ao n cap) L :: us)) := by
    have := hS'.out.newl b2 hu hlab1.out hf
    rwa [hn.out] at this
  have d0 := hS2.out.sw.ck.c3
  have f0 := hS2.out.sw.ck.free 3
  clear hrd hrd2 hlk hS' c0 hf
  go_upto_region 3 with fail
  have hfin : Hid (∀ ao' c', (ao' = if cap - k = 0 then ao else ao.map (fun x => x.add (k * 5))) → c' = cap - k → ∃ v', St W0 (w2.setCell ⟨c, 3, none⟩ (.slice ao' (n - k) c')) (inl u (L.take k) :: cb c l s f v' b i vr vt :: inl v' (L.drop k) :: us)) := by
    intro ao' c' h1 h2
    exact ⟨_, (St.perm (pop_fin (St.perm hS2.out (perm_pop _ _ _ _)) k (by have := hn.out; omega) ao' c' h1 h2) (perm_pop2 _ _ _ _))⟩
  clear hS2
  go_wp2_with fail
  · go_ret
    obtain ⟨v', h1⟩ := hfin.out ao 0 (by rw [if_pos (by omega)]) (by omega)
    exact ⟨u, rfl, v', h1⟩
  · go_ret
    obtain ⟨v', h1⟩ := hfin.out _ (cap - k) (by rw [if_neg (by omega)]) rfl
    exact ⟨u, rfl, v', h1⟩
end Go.Proofs.Ytnamjnopicghhaa
/- A runner as a thing: New, Take, Twin. -/
namespace Go.Proofs.Ytnamjnopicghhaa
open Go.RowKit M
open O.MO (Oq Pq rightP)
set_option linter.unusedVariables false
set_option linter.unusedSimpArgs false
attribute [local go_sem ↓] Go.wp_at_zero Go.wp_at_succ

/-- A list of operations of the call's own. -/
def opT (v : Value) (os : List Oq) : Th where
  P w F := OpsIn w v os ∧ ∀ k, F k ↔ v.ownBlock = some k
  lt h k hk := h.1.lt k ((h.2 k).1 hk)
  keep h hz hk := ⟨h.1.keep (fun k x _ => hk k ((h.2 k).2 x)), h.2⟩
theorem St.op {W0 w : World} {us : List Th} {v : Value} {os : List Oq} (h : St W0 w (opT v os :: us)) : OpsIn w v os := by
  obtain ⟨F, h1, _⟩ := h.get
  exact h1.1
section
variable {W0 : World} {us : List Th}
/-- runner.New of a right pipe. -/
theorem rnew_st (v : Value) (p : Pq) (w : World) (hS : St W0 w us) (hv : OpsIn w v p.os) (hr : rightP p = true) (hl : p.os.length ≤ 1000) :
    Calls Try.prog 31 #[O.pv v p.n p.s p.a p.k p.f] w fun e w' => ∃ b, e = .returned (.pointer (some ⟨b, 0, none⟩)) ∧ St W0 w' (rnt b p r0 :: us) := by
  refine (new_is v p w hv hr hl).mono ?_
  rintro e w' ⟨b, q, o, g, rfl, hR, h1, h2, h3, h4, hb⟩
  refine ⟨b, rfl, hS.new (F := fun k => k = b ∨ k = q ∨ k = o ∨ k = g) hb ⟨q, o, g, hR, fun k => Iff.rfl⟩ (fun k hk => ?_)⟩
  rcases hk with rfl | rfl | rfl | rfl <;> assumption
/-- Runner.Twin. -/
theorem rtwin_st (b : Nat) (p : Pq) (r : Rs) (w : World) (hS : St W0 w (rnt b p r :: us)) (hl : r.L.length ≤ 1000000) (hos : p.os.length ≤ 1000) :
    Calls Try.prog 45 #[.pointer (some ⟨b, 0, none⟩)] w fun e w' => ∃ b', e = .returned (.pointer (some ⟨b', 0, none⟩)) ∧ St W0 w' (rnt b' p r :: rnt b p r :: us) ∧ Below w.heap.size w w' := by
  obtain ⟨F, ⟨q, o, g, hR, hF⟩, _⟩ := hS.get
  refine (twin_is b q o g p r w hR hl hos).mono ?_
  rintro e w' ⟨b', q', o', g', rfl, hR2, h1, h2, h3, h4, hb⟩
  refine ⟨b', rfl, hS.new (F := fun k => k = b' ∨ k = q' ∨ k = o' ∨ k = g') hb ⟨q', o', g', hR2, fun k => Iff.rfl⟩ (fun k hk => ?_), hb⟩
  rcases hk with rfl | rfl | rfl | rfl <;> assumption
/-- Runner.Take. -/
theorem rtake_st (b : Nat) (p : Pq) (r : Rs) (v : Value) (is : List Inp) (w : World) (hS : St W0 w (rnt b p r :: inl v is :: us))
    (hl : r.L.length + 8 * is.length ≤ 800000) (hlt : 0 ≤ r.l ∧ r.l + is.length ≤ 1000000) (hsn : 0 ≤ r.s ∧ r.s + is.length ≤ 1000000) :
    Calls Try.prog 38 #[.pointer (some ⟨b, 0, none⟩), v] w fun e w' => ∃ u, e = .returned u ∧ St W0 w' (rwl u (rowsR p r is) :: rnt b p (stR p r is) :: inl v is :: us) := by
  obtain ⟨F, hs, hlo, hact⟩ := St.acts (ts := [rnt b p r, inl v is]) hS
  cases hs with
  | cons h1 h2 h3 =>
    cases h2 with
    | cons h4 h5 h6 =>
      cases h5
      obtain ⟨q, o, g, hR, hF⟩ := h1
      obtain ⟨hq, hlab, hG⟩ := h4
      obtain ⟨qb, hI, hk1, hk2⟩ := hq.rdi hlab w.heap.size
      obtain ⟨l1, l2, l3, l4⟩ := hR.lt
      have hvb : ∀ x, (x = b ∨ x = q ∨ x = o ∨ x = g) → v.ownBlock ≠ some x := fun x hx e => h3 x ((hF x).2 hx) (.inl ((hG x).2 e))
      have hne : ∀ x, (x = b ∨ x = q ∨ x = o ∨ x = g) → qb ≠ x := by
        intro x hx e
        have hxl : x < w.heap.size := by omega
        cases hv : v.ownBlock with
        | none => have := hk2 hv; omega
        | some k =>
          have := hk1 k hv
          exact hvb x hx (by rw [hv]; congr 1; omega)
      refine (rtake_is b q o g p r v qb is w hR hI (hne b (by simp)) (hne q (by simp)) (hne o (by simp)) hl hlt hsn).mono ?_
      rintro e w' ⟨u, o', rfl, hu, hR2, ho, hch⟩
      have hvl : ∀ k, v.ownBlock = some k → k < w.heap.size := hq.lt
      have hub : ∀ k, u.ownBlock = some k → w.heap.size ≤ k := fun k hk => (hu.lt k hk).1
      have hap := own_rows_apart hu hR2 l1 l2
      have hvk : ∀ k, v.ownBlock = some k → w'.heap[k]? = w.heap[k]? := fun k hk => hch.other k (hvl k hk) (fun e => hvb k (by simp [e]) hk) (fun e => hvb k (by simp [e]) hk) (fun e => hvb k (by simp [e]) hk)
      refine ⟨u, rfl, hact w' [rwl u (rowsR p r is), rnt b p (stR p r is), inl v is] _ (.cons (F := fun k => u.ownBlock = some k) ⟨own_mono hu (Nat.zero_le _), fun k => Iff.rfl⟩ (.cons (F := fun k => k = b ∨ k = q ∨ k = o' ∨ k = g) ⟨q, o', g, hR2, fun k => Iff.rfl⟩ (.cons (F := fun k => v.ownBlock = some k) ⟨hq.keep hvk, hlab, fun k => Iff.rfl⟩ .nil (fun _ _ h => h)) ?_) ?_) ?_ ?_⟩
      · intro k hk hk3
        rcases hk3 with hk3 | hk3
        · have := hvl k hk3
          exact hvb k (by omega) hk3
        · exact hk3
      · intro k hk hk3
        have := hub k hk
        obtain ⟨e1, e2, e3⟩ := hap k hk
        rcases hk3 with (h | h | h | h) | h | h
        · exact e1 h
        · exact e2 h
        · exact e3 h
        · omega
        · have := hvl k h; omega
        · exact h
      · intro k hk
        rcases hk with hk | hk | hk | hk
        · exact .inr (hub k hk)
        · by_cases hko : k = o'
          · subst hko
            rcases ho with rfl | rfl | ho
            · exact .inl (.inl ((hF _).2 (by simp)))
            · exact .inl (.inl ((hF _).2 (by simp)))
            · exact .inr ho
          · exact .inl (.inl ((hF k).2 (by omega)))
        · exact .inl (.inr (.inl ((hG k).2 hk)))
        · exact hk.elim
      · exact ⟨hch.os, hch.tape, hch.output, hch.size, fun k hk hn => hch.other k hk (fun e => hn (.inl ((hF k).2 (by simp [e])))) (fun e => hn (.inl ((hF k).2 (by simp [e])))) (fun e => hn (.inl ((hF k).2 (by simp [e]))))⟩
/-- Rows behind a list of rows. -/
theorem St.growr {R R1 : List Pn} {v v1 : Value} {w w1 : World} (h : St W0 w (rwl v R :: us)) (hq : w1.ownsRow 0 39 5 v1 R1.length (rcs R1)) (hg : w.grownBy w1 v.ownBlock) (hf : ∀ k, v1.ownBlock = some k → v.ownBlock = some k ∨ w.heap.size ≤ k) : St W0 w1 (rwl v1 R1 :: us) := by
  obtain ⟨F, h1, _, h2⟩ := h.act
  refine h2 w1 (rwl v1 R1) (fun k => v1.ownBlock = some k) ⟨hq, fun k => Iff.rfl⟩ (fun k hk => ?_) ((Chf.grown hg).mono (fun k hk => (h1.2 k).2 hk))
  rcases hf k hk with h | h
  · exact .inl ((h1.2 k).2 h)
  · exact .inr h
theorem St.rw {R : List Pn} {v : Value} {w : World} (h : St W0 w (rwl v R :: us)) : w.ownsRow 0 39 5 v R.length (rcs R) := by
  obtain ⟨F, h1, _⟩ := h.get
  exact h1.1
end
/-- A Cell: what its quota has left, what was spent, how often it refused, what waits, what it has taken. -/
def cel (c : Nat) (p : Pq) (i l s f : Int) (wait taken : List Inp) : Th where
  P w F := ∃ v b vr vt, Sep w [cb c l s f v b i vr vt, inl v wait, rnt b p (stR p r0 taken), rwl vr (rowsR p r0 taken), inl vt taken] F
  lt h k hk := by
    obtain ⟨v, b, vr, vt, h⟩ := h
    exact h.lt k hk
  keep h hz hk := by
    obtain ⟨v, b, vr, vt, h⟩ := h
    exact ⟨v, b, vr, vt, h.keep hz hk⟩
section
variable {W0 w : World} {us : List Th} {c : Nat} {p : Pq} {i l s f : Int} {wait taken : List Inp}
theorem St.opn (h : St W0 w (cel c p i l s f wait taken :: us)) : ∃ v b vr vt, St W0 w (cb c l s f v b i vr vt :: inl v wait :: rnt b p (stR p r0 taken) :: rwl vr (rowsR p r0 taken) :: inl vt taken :: us) := by
  obtain ⟨F, hs, _, hact⟩ := St.acts (ts := [cel c p i l s f wait taken]) h
  cases hs with
  | cons h1 h2 h3 =>
    cases h2
    obtain ⟨v, b, vr, vt, h4⟩ := h1
    exact ⟨v, b, vr, vt, hact w _ _ h4 (fun k hk => .inl (.inl hk)) (Chf.refl _ _)⟩
theorem St.cls {v : Value} {b : Nat} {vr vt : Value} (h : St W0 w (cb c l s f v b i vr vt :: inl v wait :: rnt b p (stR p r0 taken) :: rwl vr (rowsR p r0 taken) :: inl vt taken :: us)) : St W0 w (cel c p i l s f wait taken :: us) := by
  obtain ⟨F, hs, _, hact⟩ := St.acts (ts := [cb c l s f v b i vr vt, inl v wait, rnt b p (stR p r0 taken), rwl vr (rowsR p r0 taken), inl vt taken]) h
  exact hact w [cel c p i l s f wait taken] _ (.cons ⟨v, b, vr, vt, hs⟩ .nil (fun k _ h => h)) (fun k hk => by
    rcases hk with hk | hk
    · exact .inl hk
    · exact hk.elim) (Chf.refl _ _)
end
end Go.Proofs.Ytnamjnopicghhaa
/- Twin and New of a Cell. -/
/- What the methods of a Cell do: which input may be, Offer, Feed, New. -/
namespace Go.Proofs.Ytnamjnopicghhaa
open Go.RowKit M
open O.MO (Oq Pq rightP)
set_option linter.unusedVariables false
set_option linter.unusedSimpArgs false
attribute [local go_sem ↓] Go.wp_at_zero Go.wp_at_succ

/-- May this event be? -/
def rightE (e : Ev) : Bool := decide ((0 ≤ e.t ∧ e.t ≤ 1099511627776) ∧ (0 ≤ e.k ∧ e.k ≤ 255) ∧ e.l ≠ 0)
/-- An input as a tenant sends it; may it be? -/
def ownI (n : Nat) (x : Inp) : Inp := if x.mrk = true then ⟨true, ⟨x.e.t, 0, 0, 0⟩⟩ else ⟨false, ⟨x.e.t, x.e.k, x.e.v, 2 ^ n⟩⟩
def okO (x : Inp) : Bool := if x.mrk = true then decide (1 ≤ x.e.t ∧ x.e.t ≤ 1099512676352) else decide ((0 ≤ x.e.t ∧ x.e.t ≤ 1099511627776) ∧ (0 ≤ x.e.k ∧ x.e.k ≤ 255))
def zeroI : Inp := ⟨false, ⟨0, 0, 0, 0⟩⟩
theorem Ink.kept {w w' : World} {b : Nat} {i : Inp} (h : Ink w b i) (hb : Below w.heap.size w w') : Ink w' b i := h.keep (hb.block b h.lt)
theorem ewithin_is (n m : Int) (w : World) (p : Bool) (hp : decide (0 ≤ n ∧ n ≤ m) = p) :
    Calls Try.prog 57 #[.int .i64 n, .int .i64 m] w fun e w' => e = .returned (.bool p) ∧ w' = w := by
  have hq : Hid (decide (0 ≤ n ∧ n ≤ m) = p) := hp
  clear hp
  by_cases h0 : 0 ≤ n
  · by_cases h1 : n ≤ m
    · have hd : Hid (p = true) := hq.out.symm.trans (decide_eq_true ⟨h0, h1⟩)
      go_enter Try.func57, Try.ntmps57
      go_wp2
      go_ret
      exact ⟨ret_bool hd.out.symm, rfl⟩
    · have hd : Hid (p = false) := hq.out.symm.trans (decide_eq_false fun h => h1 h.2)
      go_enter Try.func57, Try.ntmps57
      go_wp2
      go_ret
      exact ⟨ret_bool hd.out.symm, rfl⟩
  · have hd : Hid (p = false) := hq.out.symm.trans (decide_eq_false fun h => h0 h.1)
    go_enter Try.func57, Try.ntmps57
    go_wp2
    go_ret
    exact ⟨ret_bool hd.out.symm, rfl⟩
set_option maxHeartbeats 400000 in
/-- event.Right. -/
theorem eright_is (a : Ev) (w : World) (p : Bool) (hp : rightE a = p) :
    Calls Try.prog 41 #[evv a] w fun e w' => e = .returned (.bool p) ∧ Below w.heap.size w w' := by
  have hq : Hid (rightE a = p) := hp
  clear hp
  obtain ⟨t, k, v, l⟩ := a
  simp only [evv]
  by_cases h0 : 0 ≤ t ∧ t ≤ 1099511627776
  · by_cases h1 : 0 ≤ k ∧ k ≤ 255
    · by_cases h2 : l = 0
      · have hd : Hid (p = false) := hq.out.symm.trans (decide_eq_false fun h => h.2.2 h2)
        subst h2
        go_enter Try.func41, Try.ntmps41
        go_wp2_with fail
        refine (ewithin_is t _ _ true (decide_eq_true h0)).mono ?_
        rintro e w' ⟨rfl, he⟩; subst he
        go_wp2_with fail
        refine (ewithin_is k _ _ true (decide_eq_true h1)).mono ?_
        rintro e w' ⟨rfl, he⟩; subst he
        go_wp2
        go_ret
        exact ⟨ret_bool hd.out.symm, below_alloc _ _⟩
      · have hd : Hid (p = true) := hq.out.symm.trans (decide_eq_true ⟨h0, h1, h2⟩)
        go_enter Try.func41, Try.ntmps41
        go_wp2_with fail
        refine (ewithin_is t _ _ true (decide_eq_true h0)).mono ?_
        rintro e w' ⟨rfl, he⟩; subst he
        go_wp2_with fail
        refine (ewithin_is k _ _ true (decide_eq_true h1)).mono ?_
        rintro e w' ⟨rfl, he⟩; subst he
        have h3 : ((l : Int) != 0) = true := by simp; exact h2
        go_wp2
        go_ret
        exact ⟨ret_bool hd.out.symm, below_alloc _ _⟩
    · have hd : Hid (p = false) := hq.out.symm.trans (decide_eq_false fun h => h1 h.2.1)
      go_enter Try.func41, Try.ntmps41
      go_wp2_with fail
      refine (ewithin_is t _ _ true (decide_eq_true h0)).mono ?_
      rintro e w' ⟨rfl, he⟩; subst he
      go_wp2_with fail
      refine (ewithin_is k _ _ false (decide_eq_false h1)).mono ?_
      rintro e w' ⟨rfl, he⟩; subst he
      go_wp2
      go_ret
      exact ⟨ret_bool hd.out.symm, below_alloc _ _⟩
  · have hd : Hid (p = false) := hq.out.symm.trans (decide_eq_false fun h => h0 h.1)
    go_enter Try.func41, Try.ntmps41
    go_wp2_with fail
    refine (ewithin_is t _ _ false (decide_eq_false h0)).mono ?_
    rintro e w' ⟨rfl, he⟩; subst he
    go_wp2
    go_ret
    exact ⟨ret_bool hd.out.symm, below_alloc _ _⟩
theorem Ink.thaw {w : World} {b : Nat} {x : Inp} (h : Ink w b x) (j : Nat) : w.frozen? ⟨b, j, none⟩ = false := by unfold Ink at h; simp [World.frozen?, h]
theorem Try.size31 : (Try.prog.info? 31).map (·.size) = some 5 := by kernel_rfl
/-- A whole input is stored into its variable. -/
theorem wpList_store_I {ops : Array Oper} {rest : List Oper} {o : Oper} {a : Act} {w : World} {Q : Exit → Act → World → Prop} (hgd : o.guard = none) (x y : Operand) (ho : o.op = .store 31 x y)
    (b : Nat) (i0 i1 : Inp) (hx : a.eval x = .pointer (some ⟨b, 0, none⟩)) (hy : a.eval y = inv i1) (hK : Ink w b i0)
    (h : ∀ W, Ink W b i1 → Chf (fun k => k = b) w W → wpList Try.prog ops Q rest (a.put o.dst undef) W) : wpList Try.prog ops Q (o :: rest) a w := by
  refine wpList_store_row hgd 31 x y ho b _ hx hy 31 _ hK Try.size31 rfl (all_oneCell_toArray (cs := inCells i1) (fun v hv => by simp only [inCells, List.mem_cons, List.not_mem_nil, or_false] at hv; rcases hv with rfl | rfl | rfl | rfl | rfl <;> rfl)) (h _ ?_ ?_)
  · exact setRow_heap w b _ _ 31 _ hK
  · exact ⟨rfl, rfl, rfl, by simp, fun k hl hk => setRow_other w b k _ hk⟩
/-- cell.markAt. -/
theorem markAt_is (t : Int) (w : World) (p : Bool) (hp : decide (1 ≤ t ∧ t ≤ 1099512676352) = p) :
    Calls Try.prog 52 #[.int .i64 t] w fun e w' => e = .returned (.tuple #[inv (if p = true then ⟨true, ⟨t, 0, 0, 0⟩⟩ else zeroI), .bool p]) ∧ Below w.heap.size w w' := by
  have hq : Hid (decide (1 ≤ t ∧ t ≤ 1099512676352) = p) := hp
  clear hp
  by_cases h0 : t < 1
  · obtain rfl : p = false := hq.out.symm.trans (decide_eq_false fun h => by omega)
    clear hq
    go_enter Try.func52, Try.ntmps52
    go_wp2
    exact bodyPost_ret (v := .tuple #[inv zeroI, .bool false]) (by simp [results, Try.results52, go_sem, zeroI]) rfl ⟨rfl, below_alloc _ _⟩
  · by_cases h1 : 1099512676352 < t
    · obtain rfl : p = false := hq.out.symm.trans (decide_eq_false fun h => by omega)
      clear hq
      go_enter Try.func52, Try.ntmps52
      go_wp2
      exact bodyPost_ret (v := .tuple #[inv zeroI, .bool false]) (by simp [results, Try.results52, go_sem, zeroI]) rfl ⟨rfl, below_alloc _ _⟩
    · obtain rfl : p = true := hq.out.symm.trans (decide_eq_true (by omega))
      clear hq
      go_enter Try.func52, Try.ntmps52
      go_wp2
      exact bodyPost_ret (v := .tuple #[inv ⟨true, ⟨t, 0, 0, 0⟩⟩, .bool true]) (by simp [results, Try.results52, go_sem]) rfl ⟨rfl, below_alloc _ _⟩
theorem wrap_two (n : Nat) (h : n < 8) : IntKind.u64.wrap (2 ^ n) = ((2 ^ n : Nat) : Int) := by
  rcases (show n = 0 ∨ n = 1 ∨ n = 2 ∨ n = 3 ∨ n = 4 ∨ n = 5 ∨ n = 6 ∨ n = 7 by omega) with rfl | rfl | rfl | rfl | rfl | rfl | rfl | rfl <;> rfl
theorem Evk.setl {w : World} {b : Nat} {e : Ev} (h : Evk w b e) (l : Nat) : Evk (w.setCell ⟨b, 3, none⟩ (.int .u64 (l : Int))) b ⟨e.t, e.k, e.v, l⟩ := by
  unfold Evk evCells at *; simp [World.setCell, Array.getElem?_modify, h]
set_option maxHeartbeats 2000000 in
/-- Cell.own. -/
theorem own_is (c : Nat) (l s f : Int) (v : Value) (b n : Nat) (vr vt : Value) (x : Inp) (w : World) (hk : Ckb w c l s f v b (n : Nat) vr vt) (hn : n < 8) (p : Bool) (hp : okO x = p) :
    Calls Try.prog 33 #[.pointer (some ⟨c, 0, none⟩), inv x] w fun e w' => e = .returned (.tuple #[inv (if p = true then ownI n x else zeroI), .bool p]) ∧ Below w.heap.size w w' := by
  obtain ⟨z, hz0⟩ : ∃ z, Hid ((if p = true then ownI n x else zeroI) = z) := ⟨_, rfl⟩
  rw [hz0.out]
  obtain ⟨mk, ⟨t, k, y, lb⟩⟩ := x
  cases mk with
  | true =>
    have hp' : Hid (decide (1 ≤ t ∧ t ≤ 1099512676352) = p) := hp
    clear hp
    have hfin : Hid ((if p = true then (⟨true, ⟨t, 0, 0, 0⟩⟩ : Inp) else zeroI) = z) := hz0
    go_enter Try.func33, Try.ntmps33
    go_upto_region 1 with fail
    refine world_gen (fun W => Hid (Ink W w.heap.size ⟨true, ⟨t, k, y, lb⟩⟩) ∧ Hid (Ink W (w.heap.size + 1) zeroI) ∧ Hid (Below w.heap.size w W)) ⟨(ink_new w ⟨true, ⟨t, k, y, lb⟩⟩).kept (below_alloc _ _), ?_, (below_alloc _ _).alloc (by simp) _⟩ ?_
    · have h := ink_new (w.alloc (.cells #[.bool true, .int .i64 t, .int .i64 k, .int .i64 y, .int .u64 lb] 31)) zeroI
      have e : (w.alloc (.cells #[.bool true, .int .i64 t, .int .i64 k, .int .i64 y, .int .u64 lb] 31)).heap.size = w.heap.size + 1 := by simp
      rw [e] at h
      exact h
    clear hk
    rintro W ⟨hi, hz, hb⟩
    obtain ⟨g0, hg0⟩ : ∃ g, Hid (w.heap.size = g) := ⟨_, rfl⟩
    rw [hg0.out] at hi hz hb ⊢
    obtain ⟨c0, c1, c2, c3, c4⟩ := hi.out.c
    simp only [Nat.zero_add] at c0 c1 c2 c3 c4
    go_wp2_with fail
    refine (markAt_is t _ p hp'.out).mono ?_
    rintro e w' ⟨rfl, hb2⟩
    have hz2 : Hid (Ink w' (g0 + 1) zeroI) := hz.out.kept hb2
    have hb3 : Hid (Below g0 w w') := hb.out.trans (hb2.mono (Nat.le_of_lt (Nat.lt_of_lt_of_le (Nat.lt_succ_self _) (Nat.le_of_lt hz.out.lt))))
    clear c0 c1 c2 c3 c4 hi hb hz hb2
    rw [hfin.out]
    have hlt := hz2.out.lt
    go_wp2_with (refine wpList_store_I rfl _ _ rfl (g0 + 1) zeroI z rfl rfl hz2.out ?_; intro W5 k5 h5)
    have hb5 : Hid (Below g0 w W5) := hb3.out.trans (h5.below (fun k hk => by omega) (by omega))
    obtain ⟨d0, d1, d2, d3, d4⟩ := k5.c
    simp only [Nat.zero_add] at d0 d1 d2 d3 d4
    exact bodyPost_ret (v := .tuple #[inv z, .bool p]) (by simp [results, Try.results33, go_sem, d0, d1, d2, d3, d4]) rfl ⟨rfl, by rw [hg0.out]; exact hb5.out⟩
  | false =>
    have c5 := hk.c5
    have hlt := hk.lt
    have hp' : Hid (rightE ⟨t, k, y, 2 ^ n⟩ = p) := by
      have h : rightE ⟨t, k, y, 2 ^ n⟩ = p := by
        rw [← hp]
        have h2 : (2 : Nat) ^ n ≠ 0 := Nat.pos_iff_ne_zero.1 (Nat.two_pow_pos n)
        unfold rightE okO
        simp [h2]
      exact h
    have hfin : Hid ((if p = true then (⟨false, ⟨t, k, y, 2 ^ n⟩⟩ : Inp) else zeroI) = z) := hz0
    clear hp
    go_enter Try.func33, Try.ntmps33
    go_upto_region 4 with fail
    refine world_gen (fun W => Hid (Ckb W c l s f v b (n : Nat) vr vt) ∧ Hid (Ink W (w.heap.size + 1) zeroI) ∧ Hid (Evk W (w.heap.size + 1 + 1) ⟨t, k, y, lb⟩) ∧ Hid (Below w.heap.size w W)) ?_ ?_
    · have b1 := below_alloc w (.cells #[.bool false, .int .i64 t, .int .i64 k, .int .i64 y, .int .u64 lb] 31)
      generalize hW1 : w.alloc (.cells #[.bool false, .int .i64 t, .int .i64 k, .int .i64 y, .int .u64 lb] 31) = W1 at *
      have e1 : W1.heap.size = w.heap.size + 1 := by rw [← hW1]; simp
      have k2 := ink_new W1 zeroI
      have b2 := below_alloc W1 (.cells #[.bool false, .int .i64 0, .int .i64 0, .int .i64 0, .int .u64 0] 31)
      have e2 : (W1.alloc (.cells #[.bool false, .int .i64 0, .int .i64 0, .int .i64 0, .int .u64 0] 31)).heap.size = w.heap.size + 1 + 1 := by simp [e1]
      have k3 := evk_new (W1.alloc (.cells #[.bool false, .int .i64 0, .int .i64 0, .int .i64 0, .int .u64 0] 31)) ⟨t, k, y, lb⟩
      have b3 := below_alloc (W1.alloc (.cells #[.bool false, .int .i64 0, .int .i64 0, .int .i64 0, .int .u64 0] 31)) (.cells #[.int .i64 t, .int .i64 k, .int .i64 y, .int .u64 lb] 29)
      rw [e2] at k3
      rw [e1] at k2
      exact ⟨(hk.call b1).call (b2.trans (b3.mono b2.size)), Ink.kept k2 b3, k3, below_call (below_call b1 b2) b3⟩
    clear c5
    rintro W ⟨hk2, hz, he, hb⟩
    obtain ⟨g0, hg0⟩ : ∃ g, Hid (w.heap.size = g) := ⟨_, rfl⟩
    rw [hg0.out] at hz he hlt hb ⊢
    have c5 := hk2.out.c5
    have e3 := he.out.free' 3
    obtain ⟨d0, d1, d2, d3⟩ := he.out.c
    have hz2 : Hid (Ink (W.setCell ⟨g0 + 1 + 1, 3, none⟩ (.int .u64 (IntKind.u64.wrap (2 ^ n)))) (g0 + 1) zeroI) := hz.out.keep (Below.heap_setCell _ _ _ _ (show g0 + 1 ≠ g0 + 1 + 1 by omega))
    have he2 : Hid (Evk (W.setCell ⟨g0 + 1 + 1, 3, none⟩ (.int .u64 (IntKind.u64.wrap (2 ^ n)))) (g0 + 1 + 1) ⟨t, k, y, 2 ^ n⟩) := by
      have h := he.out.setl (2 ^ n)
      rw [← wrap_two n hn] at h
      exact h
    have hb2 : Hid (Below g0 w (W.setCell ⟨g0 + 1 + 1, 3, none⟩ (.int .u64 (IntKind.u64.wrap (2 ^ n))))) := hb.out.setCell (show g0 ≤ g0 + 1 + 1 by omega) _
    clear hz he hb hk hk2
    go_upto_region 5 with fail
    clear c5 e3 d0 d1 d2 d3
    generalize W.setCell ⟨g0 + 1 + 1, 3, none⟩ (.int .u64 (IntKind.u64.wrap (2 ^ n))) = W2 at *
    obtain ⟨d0, d1, d2, d3⟩ := he2.out.c
    go_wp2_with fail
    refine (eright_is ⟨t, k, y, 2 ^ n⟩ _ p hp'.out).mono ?_
    rintro e w' ⟨rfl, hb3⟩
    have hz3 : Hid (Ink w' (g0 + 1) zeroI) := hz2.out.kept hb3
    have he3 : Hid (Evk w' (g0 + 1 + 1) ⟨t, k, y, 2 ^ n⟩) := he2.out.below hb3
    have hlt3 := hz2.out.lt
    have hb4 : Hid (Below g0 w w') := hb2.out.trans (hb3.mono (by omega))
    clear d0 d1 d2 d3 hz2 he2 hb2 hb3
    obtain ⟨d0, d1, d2, d3⟩ := he3.out.c
    have hlt4 := hz3.out.lt
    cases p with
    | true =>
      go_wp2_with (refine wpList_store_I rfl _ _ rfl (g0 + 1) zeroI ⟨false, ⟨t, k, y, 2 ^ n⟩⟩ rfl rfl hz3.out ?_; intro W5 k5 h5)
      have hb5 : Hid (Below g0 w W5) := hb4.out.trans (h5.below (fun k hk => by omega) (by omega))
      obtain ⟨x0, x1, x2, x3, x4⟩ := k5.c
      simp only [Nat.zero_add] at x0 x1 x2 x3 x4
      exact bodyPost_ret (v := .tuple #[inv ⟨false, ⟨t, k, y, 2 ^ n⟩⟩, .bool true]) (by simp [results, Try.results33, go_sem, x0, x1, x2, x3, x4]) rfl ⟨by rw [← hfin.out]; rfl, by rw [hg0.out]; exact hb5.out⟩
    | false =>
      go_wp2_with (refine wpList_store_I rfl _ _ rfl (g0 + 1) zeroI zeroI rfl rfl hz3.out ?_; intro W5 k5 h5)
      have hb5 : Hid (Below g0 w W5) := hb4.out.trans (h5.below (fun k hk => by omega) (by omega))
      obtain ⟨x0, x1, x2, x3, x4⟩ := k5.c
      simp only [Nat.zero_add, zeroI] at x0 x1 x2 x3 x4
      exact bodyPost_ret (v := .tuple #[inv zeroI, .bool false]) (by simp [results, Try.results33, go_sem, x0, x1, x2, x3, x4, zeroI]) rfl ⟨by rw [← hfin.out]; rfl, by rw [hg0.out]; exact hb5.out⟩
end Go.Proofs.Ytnamjnopicghhaa
/- Offer and Feed of a Cell. -/
namespace Go.Proofs.Ytnamjnopicghhaa
open Go.RowKit M
open O.MO (Oq Pq rightP)
set_option linter.unusedVariables false
set_option linter.unusedSimpArgs false
attribute [local go_sem ↓] Go.wp_at_zero Go.wp_at_succ

section
variable {W0 : World} {us : List Th} {c : Nat} {l s f : Int} {v : Value} {b : Nat} {i : Int} {vr vt : Value}
/-- Cell.refused. -/
theorem refused_is (why : Int) (w : World) (hS : St W0 w (cb c l s f v b i vr vt :: us)) (hf : 0 ≤ f ∧ f ≤ 1000000) :
    Calls Try.prog 34 #[.pointer (some ⟨c, 0, none⟩), .int .i64 why] w fun e w' => e = .returned (.int .i64 why) ∧ St W0 w' (cb c l s (f + 1) v b i vr vt :: us) := by
  go_enter Try.func34, Try.ntmps34
  go_wp2_with fail
  refine (refuse_is _ hS hf).mono ?_
  rintro e w' ⟨rfl, h⟩
  go_wp2_with fail
  go_ret
  exact ⟨rfl, h⟩
end
/-- What Offer answers, and what stands behind it. -/
def Off (n : Nat) (room : Int) (x : Inp) (l s f : Int) (wait : List Inp) (E l' s' f' : Int) (wait' : List Inp) : Prop :=
  (okO x = false ∧ E = 1 ∧ l' = l ∧ s' = s ∧ f' = f + 1 ∧ wait' = wait) ∨
  (okO x = true ∧ l = 0 ∧ E = 4 ∧ l' = l ∧ s' = s ∧ f' = f + 1 ∧ wait' = wait) ∨
  (okO x = true ∧ l ≠ 0 ∧ room < ((wait.length + 1 : Nat) : Int) ∧ E = 3 ∧ l' = l ∧ s' = s ∧ f' = f + 1 ∧ wait' = wait) ∨
  (okO x = true ∧ l ≠ 0 ∧ ((wait.length + 1 : Nat) : Int) ≤ room ∧ E = 0 ∧ l' = l - 1 ∧ s' = s + 1 ∧ f' = f ∧ wait' = wait ++ [ownI n x])
theorem off_ex (n : Nat) (room : Int) (x : Inp) (l s f : Int) (wait : List Inp) : ∃ E l' s' f' wait', Off n room x l s f wait E l' s' f' wait' := by
  unfold Off
  by_cases h1 : okO x = true
  · by_cases h2 : l = 0
    · exact ⟨_, _, _, _, _, .inr (.inl ⟨h1, h2, rfl, rfl, rfl, rfl, rfl⟩)⟩
    · by_cases h3 : room < ((wait.length + 1 : Nat) : Int)
      · exact ⟨_, _, _, _, _, .inr (.inr (.inl ⟨h1, h2, h3, rfl, rfl, rfl, rfl, rfl⟩))⟩
      · exact ⟨_, _, _, _, _, .inr (.inr (.inr ⟨h1, h2, by omega, rfl, rfl, rfl, rfl, rfl⟩))⟩
  · exact ⟨_, _, _, _, _, .inl ⟨by simpa using h1, rfl, rfl, rfl, rfl, rfl⟩⟩
theorem lit_rdi (w : World) (x : Inp) (hx : x.e.l < 18446744073709551616) (g : Nat) (hg : w.heap.size = g) : RdI (w.alloc (.cells #[.bool x.mrk, .int .i64 x.e.t, .int .i64 x.e.k, .int .i64 x.e.v, .int .u64 x.e.l] 31)) (.slice (some ⟨g, 0, none⟩) 1 1) g [x] := by
  subst hg
  exact rdi_lit w [x] (by simp) (Labl.one hx)
theorem ownI_lt (n : Nat) (hn : n < 8) (x : Inp) : (ownI n x).e.l < 18446744073709551616 := by
  unfold ownI
  split
  · show 0 < 18446744073709551616
    decide
  · exact Nat.lt_of_le_of_lt (Nat.pow_le_pow_right (by decide) (show n ≤ 7 by omega)) (by decide)
set_option maxHeartbeats 2000000 in
set_option maxRecDepth 100000 in
/-- Cell.Offer. -/
theorem offer_is {W0 : World} {us : List Th} {c n : Nat} {p : Pq} {l s f : Int} {wait taken : List Inp} (room : Int) (x : Inp) (w : World) (hS : St W0 w (cel c p (n : Nat) l s f wait taken :: us)) (hn : n < 8) (hl : 0 ≤ l ∧ l ≤ 1000000) (hs : 0 ≤ s ∧ s ≤ 1000000) (hf : 0 ≤ f ∧ f ≤ 1000000) (hw : wait.length ≤ 10000)
    (E l' s' f' : Int) (wait' : List Inp) (hE : Off n room x l s f wait E l' s' f' wait') :
    Calls Try.prog 10 #[.pointer (some ⟨c, 0, none⟩), .int .i64 room, inv x] w fun e w' => e = .returned (.int .i64 E) ∧ St W0 w' (cel c p (n : Nat) l' s' f' wait' taken :: us) := by
  obtain ⟨v, b, vr, vt, hO⟩ := hS.opn
  have hE' : Hid (Off n room x l s f wait E l' s' f' wait') := hE
  have hl' : Hid (0 ≤ l ∧ l ≤ 1000000) := hl
  have hs' : Hid (0 ≤ s ∧ s ≤ 1000000) := hs
  have hf' : Hid (0 ≤ f ∧ f ≤ 1000000) := hf
  have hw' : Hid (wait.length ≤ 10000) := hw
  clear hE hl hs hf hw hS
  obtain ⟨ok, hok⟩ : ∃ ok, Hid (okO x = ok) := ⟨_, rfl⟩
  go_enter Try.func10, Try.ntmps10
  go_upto_region 1 with fail
  refine world_gen (fun W => Hid (St W0 W (cb c l s f v b (n : Nat) vr vt :: inl v wait :: rnt b p (stR p r0 taken) :: rwl vr (rowsR p r0 taken) :: inl vt taken :: us)) ∧ Hid (Ink W w.heap.size x)) ⟨hO.below (below_alloc _ _), ink_new _ _⟩ ?_
  clear hO
  rintro W ⟨hO, hi⟩
  generalize w.heap.size = g0 at *
  obtain ⟨c0, c1, c2, c3, c4⟩ := hi.out.c
  simp only [Nat.zero_add] at c0 c1 c2 c3 c4
  go_wp2_with fail
  refine (own_is c l s f v b n vr vt x _ hO.out.ck hn ok hok.out).mono ?_
  rintro e w1 ⟨rfl, hb1⟩
  obtain ⟨z, hz⟩ : ∃ z, Hid ((if ok = true then ownI n x else zeroI) = z) := ⟨_, rfl⟩
  rw [hz.out]
  have hO1 : Hid (St W0 w1 (cb c l s f v b (n : Nat) vr vt :: inl v wait :: rnt b p (stR p r0 taken) :: rwl vr (rowsR p r0 taken) :: inl vt taken :: us)) := hO.out.below hb1
  clear c0 c1 c2 c3 c4 hi hO hb1
  go_upto_region 2 with fail
  refine world_gen (fun W => Hid (St W0 W (blkT w1.heap.size (.cells #[.bool z.mrk, .int .i64 z.e.t, .int .i64 z.e.k, .int .i64 z.e.v, .int .u64 z.e.l] 31) :: cb c l s f v b (n : Nat) vr vt :: inl v wait :: rnt b p (stR p r0 taken) :: rwl vr (rowsR p r0 taken) :: inl vt taken :: us))) (hO1.out.newBlk _ _ rfl) ?_
  clear hO1
  rintro W2 hO
  generalize w1.heap.size = g1 at *
  cases ok with
  | false =>
    obtain ⟨rfl, rfl, rfl, rfl, rfl⟩ : E = 1 ∧ l' = l ∧ s' = s ∧ f' = f + 1 ∧ wait' = wait := by
      rcases hE'.out with h | h | h | h
      · exact h.2
      · have := hok.out; rw [h.1] at this; cases this
      · have := hok.out; rw [h.1] at this; cases this
      · have := hok.out; rw [h.1] at this; cases this
    clear hE'
    go_wp2_with fail
    refine (refused_is 1 _ hO.out.drop hf'.out).mono ?_
    rintro e w3 ⟨rfl, h⟩
    have hfin : Hid (St W0 w3 (cel c p (n : Nat) l' s' (f + 1) wait' taken :: us)) := St.cls h
    clear h hO
    go_wp2_with fail
    go_ret
    exact ⟨rfl, hfin.out⟩
  | true =>
    obtain ⟨c0, c1, c2⟩ : W2.cell? ⟨c, 0, none⟩ = some (.int .i64 l) ∧ W2.cell? ⟨c, 1, none⟩ = some (.int .i64 s) ∧ W2.cell? ⟨c, 2, none⟩ = some (.int .i64 f) := ⟨hO.out.drop.ck.c0, hO.out.drop.ck.c1, hO.out.drop.ck.c2⟩
    go_wp2_with fail
    refine (qleft_is l s f _).mono ?_
    rintro e w3 ⟨rfl, hb3⟩
    have hO3 : Hid (St W0 w3 (blkT g1 (.cells #[.bool z.mrk, .int .i64 z.e.t, .int .i64 z.e.k, .int .i64 z.e.v, .int .u64 z.e.l] 31) :: cb c l s f v b (n : Nat) vr vt :: inl v wait :: rnt b p (stR p r0 taken) :: rwl vr (rowsR p r0 taken) :: inl vt taken :: us)) := hO.out.below hb3
    clear hO hb3 c0 c1 c2
    by_cases hl0 : l = 0
    · obtain ⟨rfl, rfl, rfl, rfl, rfl⟩ : E = 4 ∧ l' = l ∧ s' = s ∧ f' = f + 1 ∧ wait' = wait := by
        rcases hE'.out with h | h | h | h
        · have := hok.out; rw [h.1] at this; cases this
        · exact h.2.2
        · exact absurd hl0 h.2.1
        · exact absurd hl0 h.2.1
      clear hE'
      subst hl0
      go_wp2_with fail
      refine (refused_is 4 _ hO3.out.drop hf'.out).mono ?_
      rintro e w4 ⟨rfl, h⟩
      have hfin : Hid (St W0 w4 (cel c p (n : Nat) 0 s' (f + 1) wait' taken :: us)) := St.cls h
      clear h hO3
      go_wp2_with fail
      go_ret
      exact ⟨rfl, hfin.out⟩
    have hlb : Hid ((l == 0) = false) := by
      have h : (l == 0) = false := by simpa using hl0
      exact h
    have hi2 : Hid (Ink w3 g1 z) := hO3.out.blk
    obtain ⟨ok2, wait1, hpush, hE2⟩ : ∃ ok2 wait1, Hid ((room < ((wait.length + [z].length : Nat) : Int) ∧ ok2 = false ∧ wait1 = wait) ∨ (((wait.length + [z].length : Nat) : Int) ≤ room ∧ ok2 = true ∧ wait1 = wait ++ [z])) ∧ Hid ((ok2 = false ∧ E = 3 ∧ l' = l ∧ s' = s ∧ f' = f + 1 ∧ wait' = wait1) ∨ (ok2 = true ∧ E = 0 ∧ l' = l - 1 ∧ s' = s + 1 ∧ f' = f ∧ wait' = wait1)) := by
      have hzz : ownI n x = z := hz.out
      rcases hE'.out with h | h | h | h
      · have := hok.out; rw [h.1] at this; cases this
      · exact absurd h.2.1 hl0
      · exact ⟨false, wait, .inl ⟨h.2.2.1, rfl, rfl⟩, .inl ⟨rfl, h.2.2.2⟩⟩
      · exact ⟨true, wait ++ [z], .inr ⟨h.2.2.1, rfl, rfl⟩, .inr ⟨rfl, h.2.2.2.1, h.2.2.2.2.1, h.2.2.2.2.2.1, h.2.2.2.2.2.2.1, hzz ▸ h.2.2.2.2.2.2.2⟩⟩
    have hzl : Hid (z.e.l < 18446744073709551616) := by
      have h : z.e.l < 18446744073709551616 := by
        have hzz : ownI n x = z := hz.out
        rw [← hzz]; exact ownI_lt n hn x
      exact h
    clear hE' hok hz
    have hlx := hlb.out
    go_upto_region 6 with fail
    clear hlx
    refine wp_region_held_drew (S := fun X => Ink X g1 z) (by kernel_rfl) hi2.out (fun hHeld => ?_)
    have hO4 : Hid (St W0 w3.drew (blkT g1 (.cells #[.bool z.mrk, .int .i64 z.e.t, .int .i64 z.e.k, .int .i64 z.e.v, .int .u64 z.e.l] 31) :: cb c l s f v b (n : Nat) vr vt :: inl v wait :: rnt b p (stR p r0 taken) :: rwl vr (rowsR p r0 taken) :: inl vt taken :: us)) := hO3.out.below (Below.refl _ _).drew
    clear hO3 hi2
    generalize w3.drew = V at hHeld hO4 ⊢
    refine take_at (i := 0) (v := .pointer (some ⟨c, 0, none⟩)) rfl rfl (by kernel_rfl) (by kernel_rfl) (by kernel_rfl) (fun _ _ _ h => h) (Or.inl ⟨by rfl, fun X _ => by go_simp⟩) hHeld ?_
    try simp only [Act.put, List.setIfInBounds_toArray, List.set_cons_zero, List.set_cons_succ]
    refine take_at (i := 1) (v := .pointer (some ⟨c, 0, none⟩)) rfl rfl (by kernel_rfl) (by kernel_rfl) (by kernel_rfl) (fun _ _ _ h => h) (Or.inl ⟨by rfl, fun X _ => by go_simp⟩) hHeld ?_
    try simp only [Act.put, List.setIfInBounds_toArray, List.set_cons_zero, List.set_cons_succ]
    refine take_at (i := 2) (v := .pointer (some ⟨c, 3, none⟩)) rfl rfl (by kernel_rfl) (by kernel_rfl) (by kernel_rfl) (fun _ _ _ h => h) (Or.inl ⟨by rfl, fun X _ => by go_simp⟩) hHeld ?_
    try simp only [Act.put, List.setIfInBounds_toArray, List.set_cons_zero, List.set_cons_succ]
    refine take_at (i := 3) (v := .int .i64 room) rfl rfl (by kernel_rfl) (by kernel_rfl) (by kernel_rfl) (fun _ _ _ h => h) (Or.inl ⟨by rfl, fun X _ => by go_simp⟩) hHeld ?_
    try simp only [Act.put, List.setIfInBounds_toArray, List.set_cons_zero, List.set_cons_succ]
    refine take_at (i := 4) (v := inv z) rfl rfl (by kernel_rfl) (by kernel_rfl) (by kernel_rfl) (fun _ _ _ h => h) (Or.inl ⟨by rfl, fun X hX => by obtain ⟨k0, k1, k2, k3, k4⟩ := hX.c; simp only [Nat.zero_add] at k0 k1 k2 k3 k4; go_simp⟩) hHeld ?_
    try simp only [Act.put, List.setIfInBounds_toArray, List.set_cons_zero, List.set_cons_succ]
    refine wpAnyH_ready (rs := [5]) (by kernel_rfl) (by simp) ?_
    refine AllReadyH.cons rfl (fun K hK => ?_) AllReadyH.nil
    rw [if_pos (by rfl)]
    go_simp
    have hO5 : Hid (St W0 (V.alloc (.cells #[.bool z.mrk, .int .i64 z.e.t, .int .i64 z.e.k, .int .i64 z.e.v, .int .u64 z.e.l] 31)) (cb c l s f v b (n : Nat) vr vt :: inl v wait :: blkT g1 (.cells #[.bool z.mrk, .int .i64 z.e.t, .int .i64 z.e.k, .int .i64 z.e.v, .int .u64 z.e.l] 31) :: rnt b p (stR p r0 taken) :: rwl vr (rowsR p r0 taken) :: inl vt taken :: us)) := (hO4.out.below (below_alloc _ _)).perm (perm_pop _ _ _ _)
    have hrd : Hid (RdI (V.alloc (.cells #[.bool z.mrk, .int .i64 z.e.t, .int .i64 z.e.k, .int .i64 z.e.v, .int .u64 z.e.l] 31)) (.slice (some ⟨V.heap.size, 0, none⟩) 1 1) V.heap.size [z]) := lit_rdi V z hzl.out _ rfl
    clear hO4
    refine hK.out _ _ (hHeld.kept (below_alloc _ _)) (fun hHeld => ?_)
    clear hK K
    try simp only [Act.put, List.setIfInBounds_toArray, List.set_cons_zero, List.set_cons_succ]
    generalize V.alloc (.cells #[.bool z.mrk, .int .i64 z.e.t, .int .i64 z.e.k, .int .i64 z.e.v, .int .u64 z.e.l] 31) = V2 at *
    generalize V.heap.size = gv at *
    refine wpAnyH_ready (rs := [6]) (by kernel_rfl) (by simp) ?_
    refine AllReadyH.cons rfl (fun K hK => ?_) AllReadyH.nil
    rw [if_pos (by rfl)]
    go_wp2_with fail
    refine (push_is room (.slice (some ⟨gv, 0, none⟩) 1 1) gv [z] _ hO5.out hrd.out (by have := hw'.out; simp; omega) wait1 ok2 hpush.out).mono ?_
    rintro e V3 ⟨rfl, v', hO6⟩
    have hO7 : Hid (St W0 V3 (blkT g1 (.cells #[.bool z.mrk, .int .i64 z.e.t, .int .i64 z.e.k, .int .i64 z.e.v, .int .u64 z.e.l] 31) :: cb c l s f v' b (n : Nat) vr vt :: inl v' wait1 :: rnt b p (stR p r0 taken) :: rwl vr (rowsR p r0 taken) :: inl vt taken :: us)) := hO6.perm (perm_pop2 _ _ _ _)
    have hh : Ink V3 g1 z := hO7.out.blk
    clear hHeld hO5 hO6 hrd
    go_wp2_with fail
    refine hK.out _ _ (hh) (fun hHeld => ?_)
    clear hK K
    try simp only [Act.put, List.setIfInBounds_toArray, List.set_cons_zero, List.set_cons_succ]
    refine take_at (i := 7) (v := .bool (!ok2)) rfl rfl (by kernel_rfl) (by kernel_rfl) (by kernel_rfl) (fun _ _ _ h => h) (Or.inl ⟨by rfl, fun X _ => by go_simp⟩) hHeld ?_
    try simp only [Act.put, List.setIfInBounds_toArray, List.set_cons_zero, List.set_cons_succ]
    refine take_at (i := 8) (v := .bool (!ok2)) rfl rfl (by kernel_rfl) (by kernel_rfl) (by kernel_rfl) (fun _ _ _ h => h) (Or.inl ⟨by rfl, fun X _ => by go_simp⟩) hHeld ?_
    try simp only [Act.put, List.setIfInBounds_toArray, List.set_cons_zero, List.set_cons_succ]
    refine wpAnyH_done (by kernel_rfl) ?_ _
    have hO8 : Hid (St W0 V3 (cb c l s f v' b (n : Nat) vr vt :: inl v' wait1 :: rnt b p (stR p r0 taken) :: rwl vr (rowsR p r0 taken) :: inl vt taken :: us)) := hO7.out.drop
    clear hO7 hh hHeld
    cases ok2 with
    | false =>
      obtain ⟨rfl, rfl, rfl, rfl, rfl⟩ : E = 3 ∧ l' = l ∧ s' = s ∧ f' = f + 1 ∧ wait' = wait1 := by
        rcases hE2.out with h | h
        · exact h.2
        · exact absurd h.1 (by decide)
      clear hE2 hpush
      go_wp2_with fail
      refine (refused_is 3 _ hO8.out hf'.out).mono ?_
      rintro e w4 ⟨rfl, h⟩
      have hfin : Hid (St W0 w4 (cel c p (n : Nat) l' s' (f + 1) wait' taken :: us)) := St.cls h
      clear h hO8
      go_wp2_with fail
      go_ret
      exact ⟨rfl, hfin.out⟩
    | true =>
      obtain ⟨rfl, rfl, rfl, rfl, rfl⟩ : E = 0 ∧ l' = l - 1 ∧ s' = s + 1 ∧ f' = f ∧ wait' = wait1 := by
        rcases hE2.out with h | h
        · exact absurd h.1 (by decide)
        · exact h.2
      clear hE2 hpush
      go_wp2_with fail
      refine (spend_is (.slice (some ⟨V3.heap.size, 0, none⟩) 1 1) _ (hO8.out.below (below_alloc _ _)) (rd_lit V3 [1] (by simp)) ⟨by have := hl'.out; omega, hl'.out.2⟩ hs'.out).mono ?_
      rintro e w4 ⟨rfl, h⟩
      have hfin : Hid (St W0 w4 (cel c p (n : Nat) (l - 1) (s + 1) f' wait' taken :: us)) := St.cls h
      clear h hO8
      go_wp2_with fail
      go_ret
      exact ⟨rfl, hfin.out⟩
set_option maxHeartbeats 1000000 in
set_option maxRecDepth 100000 in
/-- Cell.Feed. -/
theorem feed_is {W0 : World} {us : List Th} {c : Nat} {p : Pq} {i l s f : Int} {wait taken : List Inp} (x : Ev) (w : World) (hS : St W0 w (cel c p i l s f wait taken :: us)) (hx : x.l < 18446744073709551616) (hw : wait.length ≤ 10000)
    (wait' : List Inp) (hE : (rightE x = true ∧ wait' = wait ++ [⟨false, x⟩]) ∨ (rightE x = false ∧ wait' = wait)) :
    Calls Try.prog 18 #[.pointer (some ⟨c, 0, none⟩), evv x] w fun e w' => e = .returned (.tuple #[]) ∧ St W0 w' (cel c p i l s f wait' taken :: us) := by
  obtain ⟨v, b, vr, vt, hO⟩ := hS.opn
  have hE' : Hid ((rightE x = true ∧ wait' = wait ++ [⟨false, x⟩]) ∨ (rightE x = false ∧ wait' = wait)) := hE
  have hw' : Hid (wait.length ≤ 10000) := hw
  have hx' : Hid (x.l < 18446744073709551616) := hx
  clear hE hw hS hx
  obtain ⟨t, k, y, lb⟩ := x
  simp only [evv]
  go_enter Try.func18, Try.ntmps18
  go_upto_region 1 with fail
  refine world_gen (fun W => Hid (St W0 W (blkT w.heap.size (.cells #[.int .i64 t, .int .i64 k, .int .i64 y, .int .u64 lb] 29) :: cb c l s f v b i vr vt :: inl v wait :: rnt b p (stR p r0 taken) :: rwl vr (rowsR p r0 taken) :: inl vt taken :: us))) (hO.newBlk _ _ rfl) ?_
  clear hO
  rintro W hO
  generalize w.heap.size = g1 at *
  have hi : Hid (Evk W g1 ⟨t, k, y, lb⟩) := hO.out.blk
  obtain ⟨c0, c1, c2, c3⟩ := hi.out.c
  obtain ⟨ok, hok⟩ : ∃ ok, Hid (rightE ⟨t, k, y, lb⟩ = ok) := ⟨_, rfl⟩
  go_wp2_with fail
  refine (eright_is ⟨t, k, y, lb⟩ _ ok hok.out).mono ?_
  rintro e w3 ⟨rfl, hb3⟩
  have hO3 : Hid (St W0 w3 (blkT g1 (.cells #[.int .i64 t, .int .i64 k, .int .i64 y, .int .u64 lb] 29) :: cb c l s f v b i vr vt :: inl v wait :: rnt b p (stR p r0 taken) :: rwl vr (rowsR p r0 taken) :: inl vt taken :: us)) := hO.out.below hb3
  clear c0 c1 c2 c3 hi hO hb3
  cases ok with
  | false =>
    obtain rfl : wait' = wait := by
      rcases hE'.out with h | h
      · have := hok.out; rw [h.1] at this; cases this
      · exact h.2
    have hfin : Hid (St W0 w3 (cel c p i l s f wait' taken :: us)) := St.cls hO3.out.drop
    clear hO3 hE'
    go_wp2_with fail
    go_end0
    exact ⟨rfl, hfin.out⟩
  | true =>
    obtain rfl : wait' = wait ++ [⟨false, ⟨t, k, y, lb⟩⟩] := by
      rcases hE'.out with h | h
      · exact h.2
      · have := hok.out; rw [h.1] at this; cases this
    clear hE'
    have hi2 : Hid (Evk w3 g1 ⟨t, k, y, lb⟩) := hO3.out.blk
    go_upto_region 2 with fail
    refine wp_region_held_drew (S := fun X => Evk X g1 ⟨t, k, y, lb⟩) (by kernel_rfl) hi2.out (fun hHeld => ?_)
    have hO4 : Hid (St W0 w3.drew (blkT g1 (.cells #[.int .i64 t, .int .i64 k, .int .i64 y, .int .u64 lb] 29) :: cb c l s f v b i vr vt :: inl v wait :: rnt b p (stR p r0 taken) :: rwl vr (rowsR p r0 taken) :: inl vt taken :: us)) := hO3.out.below (Below.refl _ _).drew
    clear hO3 hi2
    generalize w3.drew = V at hHeld hO4 ⊢
    refine take_at (i := 0) (v := .pointer (some ⟨c, 0, none⟩)) rfl rfl (by kernel_rfl) (by kernel_rfl) (by kernel_rfl) (fun _ _ _ h => h) (Or.inl ⟨by rfl, fun X _ => by go_simp⟩) hHeld ?_
    try simp only [Act.put, List.setIfInBounds_toArray, List.set_cons_zero, List.set_cons_succ]
    refine take_at (i := 1) (v := .pointer (some ⟨c, 0, none⟩)) rfl rfl (by kernel_rfl) (by kernel_rfl) (by kernel_rfl) (fun _ _ _ h => h) (Or.inl ⟨by rfl, fun X _ => by go_simp⟩) hHeld ?_
    try simp only [Act.put, List.setIfInBounds_toArray, List.set_cons_zero, List.set_cons_succ]
    refine take_at (i := 2) (v := .pointer (some ⟨c, 3, none⟩)) rfl rfl (by kernel_rfl) (by kernel_rfl) (by kernel_rfl) (fun _ _ _ h => h) (Or.inl ⟨by rfl, fun X _ => by go_simp⟩) hHeld ?_
    try simp only [Act.put, List.setIfInBounds_toArray, List.set_cons_zero, List.set_cons_succ]
    refine take_at (i := 3) (v := .agg #[.int .i64 t, .int .i64 k, .int .i64 y, .int .u64 lb]) rfl rfl (by kernel_rfl) (by kernel_rfl) (by kernel_rfl) (fun _ _ _ h => h) (Or.inl ⟨by rfl, fun X hX => by obtain ⟨k0, k1, k2, k3⟩ := hX.c; go_simp⟩) hHeld ?_
    try simp only [Act.put, List.setIfInBounds_toArray, List.set_cons_zero, List.set_cons_succ]
    refine take_at (i := 4) (v := inv ⟨false, ⟨t, k, y, lb⟩⟩) rfl rfl (by kernel_rfl) (by kernel_rfl) (by kernel_rfl) (fun _ _ _ h => h) (Or.inl ⟨by rfl, fun X _ => by go_simp⟩) hHeld ?_
    try simp only [Act.put, List.setIfInBounds_toArray, List.set_cons_zero, List.set_cons_succ]
    refine wpAnyH_ready (rs := [5]) (by kernel_rfl) (by simp) ?_
    refine AllReadyH.cons rfl (fun K hK => ?_) AllReadyH.nil
    rw [if_pos (by rfl)]
    go_simp
    have hO5 : Hid (St W0 (V.alloc (.cells #[.bool false, .int .i64 t, .int .i64 k, .int .i64 y, .int .u64 lb] 31)) (cb c l s f v b i vr vt :: inl v wait :: blkT g1 (.cells #[.int .i64 t, .int .i64 k, .int .i64 y, .int .u64 lb] 29) :: rnt b p (stR p r0 taken) :: rwl vr (rowsR p r0 taken) :: inl vt taken :: us)) := (hO4.out.below (below_alloc _ _)).perm (perm_pop _ _ _ _)
    have hrd : Hid (RdI (V.alloc (.cells #[.bool false, .int .i64 t, .int .i64 k, .int .i64 y, .int .u64 lb] 31)) (.slice (some ⟨V.heap.size, 0, none⟩) 1 1) V.heap.size [⟨false, ⟨t, k, y, lb⟩⟩]) := lit_rdi V ⟨false, ⟨t, k, y, lb⟩⟩ hx'.out _ rfl
    clear hO4
    refine hK.out _ _ (hHeld.below (below_alloc _ _)) (fun hHeld => ?_)
    clear hK K
    try simp only [Act.put, List.setIfInBounds_toArray, List.set_cons_zero, List.set_cons_succ]
    generalize V.alloc (.cells #[.bool false, .int .i64 t, .int .i64 k, .int .i64 y, .int .u64 lb] 31) = V2 at *
    generalize V.heap.size = gv at *
    refine wpAnyH_ready (rs := [6]) (by kernel_rfl) (by simp) ?_
    refine AllReadyH.cons rfl (fun K hK => ?_) AllReadyH.nil
    rw [if_pos (by rfl)]
    go_wp2_with fail
    refine (push_is 9223372036854775807 (.slice (some ⟨gv, 0, none⟩) 1 1) gv [⟨false, ⟨t, k, y, lb⟩⟩] _ hO5.out hrd.out (by have := hw'.out; simp; omega) (wait ++ [⟨false, ⟨t, k, y, lb⟩⟩]) true (.inr ⟨by have := hw'.out; simp; omega, rfl, rfl⟩)).mono ?_
    rintro e V3 ⟨rfl, v', hO6⟩
    have hO7 : Hid (St W0 V3 (blkT g1 (.cells #[.int .i64 t, .int .i64 k, .int .i64 y, .int .u64 lb] 29) :: cb c l s f v' b i vr vt :: inl v' (wait ++ [⟨false, ⟨t, k, y, lb⟩⟩]) :: rnt b p (stR p r0 taken) :: rwl vr (rowsR p r0 taken) :: inl vt taken :: us)) := hO6.perm (perm_pop2 _ _ _ _)
    have hh : Evk V3 g1 ⟨t, k, y, lb⟩ := hO7.out.blk
    clear hHeld hO5 hO6 hrd
    go_wp2_with fail
    refine hK.out _ _ (hh) (fun hHeld => ?_)
    clear hK K
    try simp only [Act.put, List.setIfInBounds_toArray, List.set_cons_zero, List.set_cons_succ]
    refine wpAnyH_done (by kernel_rfl) ?_ _
    have hfin : Hid (St W0 V3 (cel c p i l s f (wait ++ [⟨false, ⟨t, k, y, lb⟩⟩]) taken :: us)) := St.cls hO7.out.drop
    clear hO7 hh hHeld
    go_wp2_with fail
    go_end0
    exact ⟨rfl, hfin.out⟩
end Go.Proofs.Ytnamjnopicghhaa
/- Serve, Count, Taken, Rows of a Cell. -/
namespace Go.Proofs.Ytnamjnopicghhaa
open Go.RowKit M
open O.MO (Oq Pq rightP)
set_option linter.unusedVariables false
set_option linter.unusedSimpArgs false
attribute [local go_sem ↓] Go.wp_at_zero Go.wp_at_succ

/-- The first ones of n, none where n is below 0. -/
def Fst (nn : Int) (L k : Nat) : Prop := (nn < 0 ∧ k = 0) ∨ (0 ≤ nn ∧ nn ≤ ((L : Nat) : Int) ∧ nn = (k : Nat)) ∨ (((L : Nat) : Int) < nn ∧ k = L)
theorem fst_ex (nn : Int) (L : Nat) : ∃ k, Fst nn L k := by
  unfold Fst
  by_cases h : nn < 0
  · exact ⟨0, .inl ⟨h, rfl⟩⟩
  · by_cases h2 : nn ≤ (L : Int)
    · exact ⟨nn.toNat, .inr (.inl ⟨by omega, h2, by omega⟩)⟩
    · exact ⟨L, .inr (.inr ⟨by omega, rfl⟩)⟩
theorem Fst.le {nn : Int} {L k : Nat} (h : Fst nn L k) : k ≤ L := by unfold Fst at h; omega
section
variable {W0 : World} {us : List Th} {c : Nat} {p : Pq} {i l s f : Int} {wait taken : List Inp}
/-- Taken is appended. -/
theorem taken_mid {W0 w w1 : World} {us : List Th} {c : Nat} {l s f : Int} {v : Value} {b : Nat} {i : Int} {vr vt v1 : Value} {L L1 : List Inp} (h : St W0 w (cb c l s f v b i vr vt :: inl vt L :: us)) (hq1 : Qv w1 v1 L1) (hl1 : Labl L1) (hg1 : w.grownBy w1 vt.ownBlock) (hf1 : ∀ k, v1.ownBlock = some k → vt.ownBlock = some k ∨ w.heap.size ≤ k) :
    ∃ a1 n1 x1, v1 = .slice a1 n1 x1 ∧ w1.cell? ⟨c, 7, none⟩ = some vt ∧ w1.frozen? ⟨c, 7, none⟩ = false ∧ Hid (St W0 (w1.setCell ⟨c, 7, none⟩ v1) (cb c l s f v b i vr v1 :: inl v1 L1 :: us)) := by
  have h1 : St W0 w1 (inl v1 L1 :: cb c l s f v b i vr vt :: us) := h.sw.grow hq1 hl1 hg1 hf1
  have h2 := h1.sw
  obtain ⟨a1, x1, e, _⟩ := hq1.len
  exact ⟨a1, _, x1, e, h2.ck.c7, h2.ck.free 7, h2.setC _ _ (h2.ck.set7 _)⟩
theorem rows_mid {W0 w w1 : World} {us : List Th} {c : Nat} {l s f : Int} {v : Value} {b : Nat} {i : Int} {vr vt v1 : Value} {L L1 : List Pn} (h : St W0 w (cb c l s f v b i vr vt :: rwl vr L :: us)) (hq1 : w1.ownsRow 0 39 5 v1 L1.length (rcs L1)) (hg1 : w.grownBy w1 vr.ownBlock) (hf1 : ∀ k, v1.ownBlock = some k → vr.ownBlock = some k ∨ w.heap.size ≤ k) :
    ∃ a1 n1 x1, v1 = .slice a1 n1 x1 ∧ w1.cell? ⟨c, 6, none⟩ = some vr ∧ w1.frozen? ⟨c, 6, none⟩ = false ∧ Hid (St W0 (w1.setCell ⟨c, 6, none⟩ v1) (cb c l s f v b i v1 vt :: rwl v1 L1 :: us)) := by
  have h1 : St W0 w1 (rwl v1 L1 :: cb c l s f v b i vr vt :: us) := h.sw.growr hq1 hg1 hf1
  have h2 := h1.sw
  obtain ⟨a1, l1, x1, e⟩ := own_slice hq1
  exact ⟨a1, _, x1, e, h2.ck.c6, h2.ck.free 6, h2.setC _ _ (h2.ck.set6 _)⟩
theorem own_len' {w : World} {B : Nat} {e : TypeId} {size n : Nat} {v : Value} {xs : List Value} (h : w.ownsRow B e size v n xs) : ∃ a c, v = .slice a n c := by
  obtain ⟨h1, h | ⟨g, cap, cur, rfl, h2, hh, r⟩⟩ := h
  · obtain ⟨rfl, rfl⟩ := h
    exact ⟨none, 0, rfl⟩
  · exact ⟨_, _, rfl⟩
theorem rw_src {w : World} {v : Value} {R : List Pn} (h : w.ownsRow 0 39 5 v R.length (rcs R)) : SrcN 5 w v R.length (rcs R) := srcN_own h
set_option maxHeartbeats 2000000 in
set_option maxRecDepth 100000 in
/-- Cell.Serve. -/
theorem serve_is (nn : Int) (w : World) (hS : St W0 w (cel c p i l s f wait taken :: us)) (k : Nat) (hk : Fst nn wait.length k) (hw : wait.length + taken.length ≤ 10000) :
    Calls Try.prog 11 #[.pointer (some ⟨c, 0, none⟩), .int .i64 nn] w fun e w' => ∃ u, e = .returned u ∧ St W0 w' (rwl u (rowsR p (stR p r0 taken) (wait.take k)) :: cel c p i l s f (wait.drop k) (taken ++ wait.take k) :: us) := by
  obtain ⟨i0, hi, hz0, hz1, hz2⟩ := info_parts Try.info39
  obtain ⟨v, b, vr, vt, hO⟩ := hS.opn
  have hk' : Hid (Fst nn wait.length k) := hk
  have hw' : Hid (wait.length + taken.length ≤ 10000) := hw
  have hO' : Hid (St W0 w (cb c l s f v b i vr vt :: inl v wait :: rnt b p (stR p r0 taken) :: rwl vr (rowsR p r0 taken) :: inl vt taken :: us)) := hO
  clear hk hw hS hO
  obtain ⟨js, hjs⟩ : ∃ js, Hid (wait.take k = js) := ⟨_, rfl⟩
  obtain ⟨rest, hrest⟩ : ∃ rest, Hid (wait.drop k = rest) := ⟨_, rfl⟩
  have hjl : Hid (js.length + taken.length ≤ 10000) := by
    have h : js.length + taken.length ≤ 10000 := by have := hw'.out; rw [← hjs.out, List.length_take]; omega
    exact h
  obtain ⟨r, hr⟩ : ∃ r, Hid (stR p r0 taken = r) := ⟨_, rfl⟩
  obtain ⟨R, hR⟩ : ∃ R, Hid (rowsR p r0 taken = R) := ⟨_, rfl⟩
  have hb : Hid (r.L.length + 8 * js.length ≤ 800000 ∧ (0 ≤ r.l ∧ r.l + js.length ≤ 1000000) ∧ (0 ≤ r.s ∧ r.s + js.length ≤ 1000000) ∧ R.length ≤ 80000 ∧ (rowsR p r js).length ≤ 200000) := by
    have h : r.L.length + 8 * js.length ≤ 800000 ∧ (0 ≤ r.l ∧ r.l + js.length ≤ 1000000) ∧ (0 ≤ r.s ∧ r.s + js.length ≤ 1000000) ∧ R.length ≤ 80000 ∧ (rowsR p r js).length ≤ 200000 := by
      have h1 := rows_len p taken
      have h2 := all_counts p taken r0
      have h3 := all_total p js (stR p r0 taken)
      have h4 := hjl.out
      simp only [r0] at h2
      rw [← hr.out, ← hR.out]
      simp only [r0] at h1 h3 ⊢
      omega
    exact h
  have hnew : Hid (rowsR p r0 (taken ++ js) = R ++ rowsR p r js ∧ stR p r0 (taken ++ js) = stR p r js) := by
    have h : rowsR p r0 (taken ++ js) = R ++ rowsR p r js ∧ stR p r0 (taken ++ js) = stR p r js := by rw [rowsR_append, stR_append, hr.out, hR.out]; exact ⟨rfl, rfl⟩
    exact h
  rw [hr.out, hR.out] at hO'
  rw [hr.out, hjs.out, hrest.out]
  go_enter Try.func11, Try.ntmps11
  go_wp2_with fail
  refine (pop_is nn _ hO'.out (by have := hw'.out; omega) k hk'.out).mono ?_
  rintro e w1 ⟨u, v1, rfl, hO1⟩
  rw [hjs.out, hrest.out] at hO1
  have hO2 : Hid (St W0 w1 (rnt b p r :: inl u js :: cb c l s f v1 b i vr vt :: inl v1 rest :: rwl vr R :: inl vt taken :: us)) := hO1.re [3, 0, 1, 2] 4
  clear hO' hO1
  have d4 := (hO2.out.re [2, 0, 1] 3).ck.c4
  go_upto_region 2 with fail
  go_wp2_with fail
  refine (rtake_st b p r u js _ hO2.out hb.out.1 hb.out.2.1 hb.out.2.2.1).mono ?_
  rintro e w2 ⟨q, rfl, hO3⟩
  have hO4 : Hid (St W0 w2 (cb c l s f v1 b i vr vt :: inl vt taken :: inl u js :: rwl q (rowsR p r js) :: rnt b p (stR p r js) :: inl v1 rest :: rwl vr R :: us)) := hO3.re [3, 6, 2, 0, 1, 4, 5] 7
  clear hO2 hO3 d4
  have d7 := hO4.out.ck.c7
  obtain ⟨qt, htl⟩ := (hO4.out.re [1, 0] 2).qv
  obtain ⟨qu, hul⟩ := (hO4.out.re [2, 0, 1] 3).qv
  obtain ⟨qb, hrd, hx1, hx2⟩ := qu.rdi hul 0
  clear hx1 hx2
  obtain ⟨ta, tc, rfl, ht1, ht2, ht3⟩ := qt.len
  obtain ⟨ua, uc, rfl, hu1, hu2, hu3⟩ := qu.len
  have hlab : Hid (Labl (taken ++ js)) := htl.app hul
  have hrd' : Hid (RdI w2 (.slice ua js.length uc) qb js) := hrd
  have hqt : Hid (Qv w2 (.slice ta taken.length tc) taken) := qt
  clear qt qu htl hul hrd ht3 hu3
  obtain ⟨nt, hnt⟩ : ∃ nt, Hid (taken.length = nt) := ⟨_, rfl⟩
  obtain ⟨nj, hnj⟩ : ∃ nj, Hid (js.length = nj) := ⟨_, rfl⟩
  rw [hnt.out] at d7 ht1 hqt
  rw [hnj.out] at hu1 hrd'
  rw [hnt.out, hnj.out] at hO4 hjl
  rw [hnj.out]
  go_upto_region 3 with fail
  go_upto_region 4 with (at_builtin; refine wpList_append_q (by rfl) _ _ rfl (.slice ta nt tc) taken rfl hqt.out (.slice ua nj uc) qb js rfl hrd'.out (by rw [hnt.out, hnj.out]; have := hjl.out; omega) ?_; rintro v3 w3 hq3 hg3 hf3; obtain ⟨a3, n3, x3, rfl, d0, f0, hO5⟩ := taken_mid hO4.out hq3 hlab.out hg3 hf3; clear hq3 hg3 hf3 d7 hqt hrd')
  clear d0 f0 hO4
  generalize w3.setCell ⟨c, 7, none⟩ (.slice a3 n3 x3) = w4 at *
  have hO6 : Hid (St W0 w4 (cb c l s f v1 b i vr (.slice a3 n3 x3) :: rwl vr R :: rwl q (rowsR p r js) :: inl (.slice a3 n3 x3) (taken ++ js) :: rnt b p (stR p r js) :: inl v1 rest :: us)) := (hO5.out.re [0, 6, 3, 1, 4, 5, 2] 7).rm 6
  clear hO5
  have d6 := hO6.out.ck.c6
  have hr1 := (hO6.out.re [1, 0] 2).rw
  have hr2 := (hO6.out.re [2, 0, 1] 3).rw
  obtain ⟨ra, rl, rc, rfl⟩ := own_slice hr1
  obtain ⟨qa, ql, qc, rfl⟩ := own_slice hr2
  have hr1' : Hid (w4.ownsRow 0 39 5 (.slice ra rl rc) R.length (rcs R)) := hr1
  have hr2' : Hid (w4.ownsRow 0 39 5 (.slice qa ql qc) (rowsR p r js).length (rcs (rowsR p r js))) := hr2
  obtain ⟨N, hN⟩ : ∃ N, Hid (rowsR p r js = N) := ⟨_, rfl⟩
  have hb2 : R.length ≤ 80000 ∧ N.length ≤ 200000 := by have := hb.out; rw [hN.out] at this; exact this.2.2.2
  have hN2 : Hid (rowsR p r0 (taken ++ js) = R ++ N) := by
    have h : rowsR p r0 (taken ++ js) = R ++ N := by rw [hnew.out.1, hN.out]
    exact h
  rw [hN.out] at hr2' hO6
  clear hr1 hr2
  go_upto_region 5 with (at_builtin; refine wpList_append_srcF _ (by rfl) _ _ 34 rfl 5 0 39 i0 rzero 40 Try.underlying34 hi hz0 hz1 hz2 rfl (by decide) (.slice ra rl rc) R.length (rcs R) rfl hr1'.out (.slice qa ql qc) N.length (rcs N) rfl (srcN_own hr2'.out) (rcs_one _) (by unfold maxLen; omega) (by omega) (by omega) ?_; rintro v5 w5 hq5 _ hg5 hf5; obtain ⟨a5, n5, x5, rfl, d0, f0, hO7⟩ := rows_mid (L1 := R ++ N) hO6.out (by rw [rcs_append, List.length_append]; exact hq5) hg5 hf5; clear hq5 hg5 hf5 d6 hr1' hr2')
  clear d0 f0 hO6
  have hfin : Hid (St W0 (w5.setCell ⟨c, 6, none⟩ (.slice a5 n5 x5)) (rwl (.slice qa ql qc) N :: cel c p i l s f rest (taken ++ js) :: us)) := by
    have h : St W0 (w5.setCell ⟨c, 6, none⟩ (.slice a5 n5 x5)) (rwl (.slice qa ql qc) N :: cel c p i l s f rest (taken ++ js) :: us) := by
      have h1 := hO7.out.re [0, 5, 4, 1, 3, 2] 6
      have h2 : St W0 (w5.setCell ⟨c, 6, none⟩ (.slice a5 n5 x5)) (cb c l s f v1 b i (.slice a5 n5 x5) (.slice a3 n3 x3) :: inl v1 rest :: rnt b p (stR p r0 (taken ++ js)) :: rwl (.slice a5 n5 x5) (rowsR p r0 (taken ++ js)) :: inl (.slice a3 n3 x3) (taken ++ js) :: rwl (.slice qa ql qc) N :: us) := by
        rw [hnew.out.2, hN2.out]; exact h1
      exact St.sw h2.cls
    exact h
  clear hO7
  rw [← hN.out] at hfin
  go_wp2_with fail
  go_ret
  exact ⟨_, rfl, hfin.out⟩
/-- Cell.Count. -/
theorem count_is (w : World) (hS : St W0 w (cel c p i l s f wait taken :: us)) :
    Calls Try.prog 26 #[.pointer (some ⟨c, 0, none⟩)] w fun e w' => e = .returned (.int .i64 ((rowsR p r0 taken).length : Nat)) ∧ w' = w := by
  obtain ⟨v, b, vr, vt, hO⟩ := hS.opn
  have d6 := hO.ck.c6
  have hr := (hO.re [3, 0, 1, 2] 4).rw
  obtain ⟨ra, rc, rfl⟩ := own_len' hr
  generalize (rowsR p r0 taken).length = n at *
  clear hO hr hS
  go_enter Try.func26, Try.ntmps26
  go_wp2
  go_ret
  exact ⟨rfl, rfl⟩
/-- Cell.Taken. -/
theorem takenl_is (w : World) (hS : St W0 w (cel c p i l s f wait taken :: us)) (hl : taken.length ≤ 100000) :
    Calls Try.prog 25 #[.pointer (some ⟨c, 0, none⟩)] w fun e w' => ∃ u, e = .returned u ∧ St W0 w' (inl u taken :: cel c p i l s f wait taken :: us) ∧ Below w.heap.size w w' := by
  obtain ⟨v, b, vr, vt, hO⟩ := hS.opn
  have d7 := hO.ck.c7
  obtain ⟨qt, htl⟩ := (hO.re [4, 0, 1, 2, 3] 5).qv
  obtain ⟨qb, hrd, hx1, hx2⟩ := qt.rdi htl 0
  have hS' : Hid (St W0 w (cel c p i l s f wait taken :: us)) := hS
  have hlab : Hid (Labl taken) := htl
  clear hx1 hx2 hO qt htl hS
  go_enter Try.func25, Try.ntmps25
  go_wp2_with fail
  refine (ccopy_is vt qb taken _ hrd (by omega)).mono ?_
  rintro e w1 ⟨u, rfl, hu, hb, hf⟩
  have hS2 : Hid (St W0 w1 (inl u taken :: cel c p i l s f wait taken :: us)) := hS'.out.newl hb hu hlab.out hf
  go_wp2_with fail
  go_ret
  exact ⟨_, rfl, hS2.out, hb⟩
end
end Go.Proofs.Ytnamjnopicghhaa
/- Rows of a Cell: copies of a part of its rows. -/
namespace Go.Proofs.Ytnamjnopicghhaa
open Go.RowKit M
open O.MO (Oq Pq rightP)
set_option linter.unusedVariables false
set_option linter.unusedSimpArgs false
attribute [local go_sem ↓] Go.wp_at_zero Go.wp_at_succ

theorem rcs_drop : ∀ (es : List Pn) (i : Nat), rcs (es.drop i) = (rcs es).drop (i * 5)
  | [], i => by simp [rcs]
  | e :: r, 0 => by simp
  | e :: r, i + 1 => by
    have e1 : rcs (e :: r) = rcell e ++ rcs r := by simp [rcs]
    rw [List.drop_succ_cons, rcs_drop r i, e1, show (i + 1) * 5 = 5 + i * 5 by omega, ← List.drop_drop]
    rfl
theorem rcs_take : ∀ (es : List Pn) (i : Nat), rcs (es.take i) = (rcs es).take (i * 5)
  | [], i => by simp [rcs]
  | e :: r, 0 => by simp [rcs]
  | e :: r, i + 1 => by
    have e1 : rcs (e :: r) = rcell e ++ rcs r := by simp [rcs]
    have e2 : rcs (e :: r.take i) = rcell e ++ rcs (r.take i) := by simp [rcs]
    rw [List.take_succ_cons, e2, rcs_take r i, e1, show (i + 1) * 5 = (rcell e).length + i * 5 by show _ = 5 + i * 5; omega, List.take_length_add_append]
/-- A part of a list of rows, read. -/
theorem rows_part {w : World} {ao : Option Addr} {n cap : Nat} {R : List Pn} (h : w.ownsRow 0 39 5 (.slice ao n cap) n (rcs R)) (hn : n = R.length) (F m : Nat) (hm : F + m ≤ n) (ao' : Option Addr) (ha : ao' = if cap - F = 0 then ao else ao.map (fun x => x.add (F * 5))) :
    SrcN 5 w (.slice ao' m (cap - F)) m (rcs ((R.drop F).take m)) := by
  have h' := h
  obtain ⟨_, h0 | ⟨g, cap', cur, e, hb, hh, hnn, hmx, hs, ht⟩⟩ := h
  · obtain ⟨e, h0⟩ := h0
    cases e
    have : m = 0 := by omega
    subst this
    exact .inl ⟨by subst ha; simp, rfl, by simp [rcs]⟩
  · cases e
    have hlen : (rcs ((R.drop F).take m)).length = m * 5 := by rw [rcs_len, List.length_take, List.length_drop]; congr 1; omega
    by_cases hc : cap - F = 0
    · have : m = 0 := by omega
      subst this
      rw [if_pos hc] at ha
      subst ha
      exact .inr ⟨_, _, rfl, by simp [rcs], fun j x hj => by simp [rcs] at hj⟩
    · rw [if_neg hc] at ha
      have e1 : (some (⟨g, 0, none⟩ : Addr)).map (fun x => x.add (F * 5)) = some ⟨g, F * 5, none⟩ := by simp [Addr.add_lit]
      rw [e1] at ha
      subst ha
      refine .inr ⟨_, _, rfl, hlen, fun j x hj => ?_⟩
      have hjl := (List.getElem?_eq_some_iff.1 hj).1
      rw [hlen] at hjl
      have hx := h'.cellAt (F * 5 + j) (by omega)
      rw [Addr.add_lit, hx]
      rw [rcs_take, rcs_drop, List.getElem?_take, if_pos hjl, List.getElem?_drop] at hj
      exact hj
/-- cell.copyOf of rows. -/
theorem rcopy_is (u : Value) (L : List Pn) (w : World) (hs : SrcN 5 w u L.length (rcs L)) (hl : L.length ≤ 1000000) :
    Calls Try.prog 39 #[u] w fun e w' => ∃ v, e = .returned v ∧ w'.ownsRow w.heap.size 39 5 v L.length (rcs L) ∧ Below w.heap.size w w' := by
  obtain ⟨i0, hi, hz0, hz1, hz2⟩ := info_parts Try.info39
  go_enter Try.func39, Try.ntmps39
  go_wp2_with (at_builtin; refine wpList_append_srcF _ (by rfl) _ _ 34 rfl 5 w.heap.size 39 i0 rzero 40 Try.underlying34 hi hz0 hz1 hz2 rfl (by decide) (.slice none 0 0) 0 [] rfl (World.ownsRow_nil _ _ _ _) u L.length (rcs L) rfl hs (rcs_one _) (by unfold maxLen; omega) (by omega) (by omega) ?_; rintro v5 w5 hq5 hb5 _ _)
  go_ret
  exact ⟨_, rfl, by simpa using hq5, hb5⟩
/-- How many rows are told. -/
def Rwm (n : Int) (D m : Nat) : Prop := (n < 0 ∧ m = 0) ∨ (0 ≤ n ∧ n ≤ 32 ∧ n ≤ (D : Int) ∧ n = (m : Nat)) ∨ (32 < n ∧ 32 ≤ (D : Int) ∧ m = 32) ∨ (0 ≤ n ∧ (D : Int) < n ∧ (D : Int) < 32 ∧ m = D)
theorem rwm_ex (n : Int) (D : Nat) : ∃ m, Rwm n D m := by
  unfold Rwm
  by_cases h : n < 0
  · exact ⟨0, .inl ⟨h, rfl⟩⟩
  · by_cases h2 : n ≤ 32 ∧ n ≤ (D : Int)
    · exact ⟨n.toNat, .inr (.inl ⟨by omega, h2.1, h2.2, by omega⟩)⟩
    · by_cases h3 : 32 ≤ (D : Int)
      · exact ⟨32, .inr (.inr (.inl ⟨by omega, h3, rfl⟩))⟩
      · exact ⟨D, .inr (.inr (.inr ⟨by omega, by omega, by omega, rfl⟩))⟩
theorem Rwm.le {n : Int} {D m : Nat} (h : Rwm n D m) : m ≤ D ∧ m ≤ 32 := by unfold Rwm at h; omega
section
variable {W0 : World} {us : List Th} {c : Nat} {p : Pq} {i l s f : Int} {wait taken : List Inp}
/-- Cell.Rows from no number of a row. -/
theorem crows_no (fr n : Int) (w : World) (hS : St W0 w (cel c p i l s f wait taken :: us)) (hf : fr < 0 ∨ (((rowsR p r0 taken).length : Nat) : Int) < fr) :
    Calls Try.prog 12 #[.pointer (some ⟨c, 0, none⟩), .int .i64 fr, .int .i64 n] w fun e w' => e = .returned (.tuple #[.slice none 0 0, .int .i64 5]) ∧ w' = w := by
  obtain ⟨v, b, vr, vt, hO⟩ := hS.opn
  have d6 := hO.ck.c6
  obtain ⟨ra, rc, rfl⟩ := own_len' (hO.re [3, 0, 1, 2] 4).rw
  generalize (rowsR p r0 taken).length = N at *
  clear hO hS
  by_cases h0 : fr < 0
  · clear hf
    go_enter Try.func12, Try.ntmps12
    go_wp2
    exact bodyPost_ret (v := .tuple #[.slice none 0 0, .int .i64 5]) (by simp [results, Try.results12, go_sem]) rfl ⟨rfl, rfl⟩
  · have h1 : (N : Int) < fr := by omega
    clear hf
    go_enter Try.func12, Try.ntmps12
    go_wp2
    exact bodyPost_ret (v := .tuple #[.slice none 0 0, .int .i64 5]) (by simp [results, Try.results12, go_sem]) rfl ⟨rfl, rfl⟩
set_option maxHeartbeats 1000000 in
/-- Cell.Rows. -/
theorem crows_is (n : Int) (F : Nat) (w : World) (hS : St W0 w (cel c p i l s f wait taken :: us)) (hl : taken.length ≤ 10000) (D m : Nat) (hD : F + D = (rowsR p r0 taken).length) (hm : Rwm n D m) :
    Calls Try.prog 12 #[.pointer (some ⟨c, 0, none⟩), .int .i64 (F : Nat), .int .i64 n] w fun e w' => ∃ u, e = .returned (.tuple #[u, .int .i64 0]) ∧ St W0 w' (rwl u (((rowsR p r0 taken).drop F).take m) :: cel c p i l s f wait taken :: us) := by
  have hS' : Hid (St W0 w (cel c p i l s f wait taken :: us)) := hS
  obtain ⟨v, b, vr, vt, hO⟩ := hS.opn
  have d6 := hO.ck.c6
  have hr := (hO.re [3, 0, 1, 2] 4).rw
  have hlen := (rows_len p taken).1
  obtain ⟨ra, rc, rfl⟩ := own_len' hr
  obtain ⟨N, hN⟩ : ∃ N, Hid ((rowsR p r0 taken).length = N) := ⟨_, rfl⟩
  have hrc : N ≤ rc ∧ rc ≤ 9223372036854775807 := by
    rw [← hN.out]
    obtain ⟨_, h0 | ⟨g, cap', cur, e, hb, hh, hnn, hmx, hs, ht⟩⟩ := hr
    · obtain ⟨e, h0⟩ := h0; injection e with e1 e2 e3; omega
    · injection e with e1 e2 e3; unfold maxLen at hmx; omega
  rw [hN.out] at hr d6 hD hlen
  have hpart : Hid (∀ ao', ao' = (if rc - F = 0 then ra else ra.map (fun x => x.add (F * 5))) → SrcN 5 w (.slice ao' m (rc - F)) m (rcs (((rowsR p r0 taken).drop F).take m))) := by
    intro ao' ha
    exact rows_part hr hN.out.symm F m (by have := hm.le; omega) ao' ha
  have hml : Hid ((((rowsR p r0 taken).drop F).take m).length = m) := by
    have h : (((rowsR p r0 taken).drop F).take m).length = m := by
      rw [List.length_take, List.length_drop, hN.out]; have := hm.le; omega
    exact h
  obtain ⟨M, hM⟩ : ∃ M, Hid (((rowsR p r0 taken).drop F).take m = M) := ⟨_, rfl⟩
  rw [hM.out] at hpart hml ⊢
  have hle := hm.le
  have hsub : (N : Int) - (F : Int) = (D : Int) := by omega
  clear hO hr hS hlen
  go_enter Try.func12, Try.ntmps12
  go_upto_region 3 with fail
  go_cut [2] (fun x wx => x = .int .i64 ((m : Nat) : Int) ∧ wx = w)
  case first =>
    rcases hm with ⟨h4, rfl⟩ | ⟨h4, h5, h6, rfl⟩ | ⟨h4, h5, rfl⟩ | ⟨h4, h5, h6, rfl⟩
    · go_wp2_with fail
      go_meet
      exact ⟨rfl, rfl⟩
    · go_wp2_with fail
      go_meet
      exact ⟨rfl, rfl⟩
    · go_wp2_with fail
      go_meet
      exact ⟨rfl, rfl⟩
    · go_wp2_with fail
      go_meet
      exact ⟨rfl, rfl⟩
  obtain ⟨rfl, he⟩ := hcut
  obtain rfl := he.symm
  clear hm
  obtain ⟨G, hG⟩ : ∃ G, Hid (F + m = G) := ⟨_, rfl⟩
  have hsum : (F : Int) + (m : Int) = (G : Int) := by have := hG.out; omega
  have hG1 : F ≤ G := by have := hG.out; omega
  have hG2 : G ≤ N := by have := hG.out; omega
  have hG3 : G - F = m := by have := hG.out; omega
  go_wp2_with fail
  · have hz : rc - F = 0 := by omega
    have hq := hpart.out ra (by rw [if_pos hz])
    rw [hz] at hq
    refine (rcopy_is (.slice ra m 0) M _ (by rw [hml.out]; exact hq) (by rw [hml.out]; omega)).mono ?_
    rintro e w1 ⟨u, rfl, hu, hb⟩
    have hfin : Hid (St W0 w1 (rwl u M :: cel c p i l s f wait taken :: us)) := hS'.out.newr hb hu (Nat.le_refl _)
    clear hS' hu hb hpart hml
    go_wp2_with fail
    exact bodyPost_ret (v := .tuple #[u, .int .i64 0]) (by simp [results, Try.results12, go_sem]) rfl ⟨u, rfl, hfin.out⟩
  · rename_i hz
    have hq := hpart.out (ra.map (fun x => x.add (F * 5))) (by rw [if_neg (by omega)])
    refine (rcopy_is (.slice (ra.map (fun x => x.add (F * 5))) m (rc - F)) M _ (by rw [hml.out]; exact hq) (by rw [hml.out]; omega)).mono ?_
    rintro e w1 ⟨u, rfl, hu, hb⟩
    have hfin : Hid (St W0 w1 (rwl u M :: cel c p i l s f wait taken :: us)) := hS'.out.newr hb hu (Nat.le_refl _)
    clear hS' hu hb hpart hml
    go_wp2_with fail
    exact bodyPost_ret (v := .tuple #[u, .int .i64 0]) (by simp [results, Try.results12, go_sem]) rfl ⟨u, rfl, hfin.out⟩
end
end Go.Proofs.Ytnamjnopicghhaa
/- Twin and New of a Cell. -/
namespace Go.Proofs.Ytnamjnopicghhaa
open Go.RowKit M
open O.MO (Oq Pq rightP)
set_option linter.unusedVariables false
set_option linter.unusedSimpArgs false
attribute [local go_sem ↓] Go.wp_at_zero Go.wp_at_succ

section
variable {W0 : World} {us : List Th} {c : Nat} {p : Pq} {i l s f : Int} {wait taken : List Inp}
set_option maxHeartbeats 2000000 in
set_option maxRecDepth 100000 in
/-- Cell.Twin. -/
theorem ctwin_is (w : World) (hS : St W0 w (cel c p i l s f wait taken :: us)) (hw : wait.length ≤ 10000) (ht : taken.length ≤ 10000) (hos : p.os.length ≤ 1000) :
    Calls Try.prog 20 #[.pointer (some ⟨c, 0, none⟩)] w fun e w' => ∃ c', e = .returned (.pointer (some ⟨c', 0, none⟩)) ∧ St W0 w' (cel c' p i l s f wait taken :: cel c p i l s f wait taken :: us) := by
  obtain ⟨v, b, vr, vt, hO0⟩ := hS.opn
  have hlen := rows_len p taken
  have hw' : Hid (wait.length ≤ 10000) := hw
  have ht' : Hid (taken.length ≤ 1000000) := Nat.le_trans ht (by decide)
  have hos' : Hid (p.os.length ≤ 1000) := hos
  have hb' : Hid ((stR p r0 taken).L.length ≤ 1000000) := by
    have h : (stR p r0 taken).L.length ≤ 1000000 := by omega
    exact h
  have hrl' : Hid ((rowsR p r0 taken).length ≤ 1000000) := by
    have h : (rowsR p r0 taken).length ≤ 1000000 := by omega
    exact h
  obtain ⟨va, vc, ev, _, _, _⟩ := (hO0.re [1, 0] 2).qv.1.len
  obtain ⟨ta, tc, et, _, _, _⟩ := (hO0.re [4, 0, 1, 2, 3] 5).qv.1.len
  obtain ⟨ra, rl, rc, er⟩ := own_slice (hO0.re [3, 0, 1, 2] 4).rw
  subst ev et er
  generalize hvl : wait.length = vl at *
  generalize htl0 : taken.length = tl at *
  have hO : Hid (St W0 w (cb c l s f (.slice va vl vc) b i (.slice ra rl rc) (.slice ta tl tc) :: inl (.slice va vl vc) wait :: rnt b p (stR p r0 taken) :: rwl (.slice ra rl rc) (rowsR p r0 taken) :: inl (.slice ta tl tc) taken :: us)) := hO0
  clear hO0 hS hlen hw ht hos
  rw [← hvl] at hw'
  rw [← htl0] at ht'
  clear hvl htl0
  go_enter Try.func20, Try.ntmps20
  go_upto_region 1 with fail
  refine wp_region_held_drew (S := fun X => Ckb X c l s f (.slice va vl vc) b i (.slice ra rl rc) (.slice ta tl tc)) (by kernel_rfl) hO.out.ck (fun hHeld => ?_)
  have hO1 : Hid (St W0 w.drew (cb c l s f (.slice va vl vc) b i (.slice ra rl rc) (.slice ta tl tc) :: inl (.slice va vl vc) wait :: rnt b p (stR p r0 taken) :: rwl (.slice ra rl rc) (rowsR p r0 taken) :: inl (.slice ta tl tc) taken :: us)) := hO.out.below (Below.refl _ _).drew
  clear hO
  generalize w.drew = V at hHeld hO1 ⊢
  refine take_at (i := 0) (v := .pointer (some ⟨c, 0, none⟩)) rfl rfl (by kernel_rfl) (by kernel_rfl) (by kernel_rfl) (fun _ _ _ h => h) (Or.inl ⟨by rfl, fun X _ => by go_simp⟩) hHeld ?_
  try simp only [Act.put, List.setIfInBounds_toArray, List.set_cons_zero, List.set_cons_succ]
  refine take_at (i := 1) (v := .pointer (some ⟨c, 0, none⟩)) rfl rfl (by kernel_rfl) (by kernel_rfl) (by kernel_rfl) (fun _ _ _ h => h) (Or.inl ⟨by rfl, fun X _ => by go_simp⟩) hHeld ?_
  try simp only [Act.put, List.setIfInBounds_toArray, List.set_cons_zero, List.set_cons_succ]
  refine take_at (i := 2) (v := .pointer (some ⟨c, 0, none⟩)) rfl rfl (by kernel_rfl) (by kernel_rfl) (by kernel_rfl) (fun _ _ _ h => h) (Or.inl ⟨by rfl, fun X _ => by go_simp⟩) hHeld ?_
  try simp only [Act.put, List.setIfInBounds_toArray, List.set_cons_zero, List.set_cons_succ]
  refine take_at (i := 3) (v := .agg #[.int .i64 l, .int .i64 s, .int .i64 f]) rfl rfl (by kernel_rfl) (by kernel_rfl) (by kernel_rfl) (fun _ _ _ h => h) (Or.inl ⟨by rfl, fun X hX => by have k0 := hX.c0; have k1 := hX.c1; have k2 := hX.c2; have k3 := hX.c3; have k4 := hX.c4; have k5 := hX.c5; have k6 := hX.c6; have k7 := hX.c7; go_simp⟩) hHeld ?_
  try simp only [Act.put, List.setIfInBounds_toArray, List.set_cons_zero, List.set_cons_succ]
  refine take_at (i := 4) (v := .pointer (some ⟨c, 0, none⟩)) rfl rfl (by kernel_rfl) (by kernel_rfl) (by kernel_rfl) (fun _ _ _ h => h) (Or.inl ⟨by rfl, fun X _ => by go_simp⟩) hHeld ?_
  try simp only [Act.put, List.setIfInBounds_toArray, List.set_cons_zero, List.set_cons_succ]
  refine take_at (i := 5) (v := .pointer (some ⟨c, 0, none⟩)) rfl rfl (by kernel_rfl) (by kernel_rfl) (by kernel_rfl) (fun _ _ _ h => h) (Or.inl ⟨by rfl, fun X _ => by go_simp⟩) hHeld ?_
  try simp only [Act.put, List.setIfInBounds_toArray, List.set_cons_zero, List.set_cons_succ]
  refine take_at (i := 6) (v := .pointer (some ⟨c, 3, none⟩)) rfl rfl (by kernel_rfl) (by kernel_rfl) (by kernel_rfl) (fun _ _ _ h => h) (Or.inl ⟨by rfl, fun X _ => by go_simp⟩) hHeld ?_
  try simp only [Act.put, List.setIfInBounds_toArray, List.set_cons_zero, List.set_cons_succ]
  refine take_at (i := 7) (v := .agg #[.slice va vl vc]) rfl rfl (by kernel_rfl) (by kernel_rfl) (by kernel_rfl) (fun _ _ _ h => h) (Or.inl ⟨by rfl, fun X hX => by have k0 := hX.c0; have k1 := hX.c1; have k2 := hX.c2; have k3 := hX.c3; have k4 := hX.c4; have k5 := hX.c5; have k6 := hX.c6; have k7 := hX.c7; go_simp⟩) hHeld ?_
  try simp only [Act.put, List.setIfInBounds_toArray, List.set_cons_zero, List.set_cons_succ]
  refine take_at (i := 9) (v := .pointer (some ⟨c, 0, none⟩)) rfl rfl (by kernel_rfl) (by kernel_rfl) (by kernel_rfl) (fun _ _ _ h => h) (Or.inl ⟨by rfl, fun X _ => by go_simp⟩) hHeld ?_
  try simp only [Act.put, List.setIfInBounds_toArray, List.set_cons_zero, List.set_cons_succ]
  refine take_at (i := 10) (v := .pointer (some ⟨c, 0, none⟩)) rfl rfl (by kernel_rfl) (by kernel_rfl) (by kernel_rfl) (fun _ _ _ h => h) (Or.inl ⟨by rfl, fun X _ => by go_simp⟩) hHeld ?_
  try simp only [Act.put, List.setIfInBounds_toArray, List.set_cons_zero, List.set_cons_succ]
  refine take_at (i := 11) (v := .pointer (some ⟨c, 4, none⟩)) rfl rfl (by kernel_rfl) (by kernel_rfl) (by kernel_rfl) (fun _ _ _ h => h) (Or.inl ⟨by rfl, fun X _ => by go_simp⟩) hHeld ?_
  try simp only [Act.put, List.setIfInBounds_toArray, List.set_cons_zero, List.set_cons_succ]
  refine take_at (i := 12) (v := .pointer (some ⟨b, 0, none⟩)) rfl rfl (by kernel_rfl) (by kernel_rfl) (by kernel_rfl) (fun _ _ _ h => h) (Or.inl ⟨by rfl, fun X hX => by have k0 := hX.c0; have k1 := hX.c1; have k2 := hX.c2; have k3 := hX.c3; have k4 := hX.c4; have k5 := hX.c5; have k6 := hX.c6; have k7 := hX.c7; go_simp⟩) hHeld ?_
  try simp only [Act.put, List.setIfInBounds_toArray, List.set_cons_zero, List.set_cons_succ]
  refine take_at (i := 14) (v := .pointer (some ⟨c, 0, none⟩)) rfl rfl (by kernel_rfl) (by kernel_rfl) (by kernel_rfl) (fun _ _ _ h => h) (Or.inl ⟨by rfl, fun X _ => by go_simp⟩) hHeld ?_
  try simp only [Act.put, List.setIfInBounds_toArray, List.set_cons_zero, List.set_cons_succ]
  refine take_at (i := 15) (v := .pointer (some ⟨c, 0, none⟩)) rfl rfl (by kernel_rfl) (by kernel_rfl) (by kernel_rfl) (fun _ _ _ h => h) (Or.inl ⟨by rfl, fun X _ => by go_simp⟩) hHeld ?_
  try simp only [Act.put, List.setIfInBounds_toArray, List.set_cons_zero, List.set_cons_succ]
  refine take_at (i := 16) (v := .pointer (some ⟨c, 5, none⟩)) rfl rfl (by kernel_rfl) (by kernel_rfl) (by kernel_rfl) (fun _ _ _ h => h) (Or.inl ⟨by rfl, fun X _ => by go_simp⟩) hHeld ?_
  try simp only [Act.put, List.setIfInBounds_toArray, List.set_cons_zero, List.set_cons_succ]
  refine take_at (i := 17) (v := .int .i64 i) rfl rfl (by kernel_rfl) (by kernel_rfl) (by kernel_rfl) (fun _ _ _ h => h) (Or.inl ⟨by rfl, fun X hX => by have k0 := hX.c0; have k1 := hX.c1; have k2 := hX.c2; have k3 := hX.c3; have k4 := hX.c4; have k5 := hX.c5; have k6 := hX.c6; have k7 := hX.c7; go_simp⟩) hHeld ?_
  try simp only [Act.put, List.setIfInBounds_toArray, List.set_cons_zero, List.set_cons_succ]
  refine take_at (i := 18) (v := .pointer (some ⟨c, 0, none⟩)) rfl rfl (by kernel_rfl) (by kernel_rfl) (by kernel_rfl) (fun _ _ _ h => h) (Or.inl ⟨by rfl, fun X _ => by go_simp⟩) hHeld ?_
  try simp only [Act.put, List.setIfInBounds_toArray, List.set_cons_zero, List.set_cons_succ]
  refine take_at (i := 19) (v := .pointer (some ⟨c, 0, none⟩)) rfl rfl (by kernel_rfl) (by kernel_rfl) (by kernel_rfl) (fun _ _ _ h => h) (Or.inl ⟨by rfl, fun X _ => by go_simp⟩) hHeld ?_
  try simp only [Act.put, List.setIfInBounds_toArray, List.set_cons_zero, List.set_cons_succ]
  refine take_at (i := 20) (v := .pointer (some ⟨c, 6, none⟩)) rfl rfl (by kernel_rfl) (by kernel_rfl) (by kernel_rfl) (fun _ _ _ h => h) (Or.inl ⟨by rfl, fun X _ => by go_simp⟩) hHeld ?_
  try simp only [Act.put, List.setIfInBounds_toArray, List.set_cons_zero, List.set_cons_succ]
  refine take_at (i := 21) (v := .slice ra rl rc) rfl rfl (by kernel_rfl) (by kernel_rfl) (by kernel_rfl) (fun _ _ _ h => h) (Or.inl ⟨by rfl, fun X hX => by have k0 := hX.c0; have k1 := hX.c1; have k2 := hX.c2; have k3 := hX.c3; have k4 := hX.c4; have k5 := hX.c5; have k6 := hX.c6; have k7 := hX.c7; go_simp⟩) hHeld ?_
  try simp only [Act.put, List.setIfInBounds_toArray, List.set_cons_zero, List.set_cons_succ]
  refine take_at (i := 23) (v := .pointer (some ⟨c, 0, none⟩)) rfl rfl (by kernel_rfl) (by kernel_rfl) (by kernel_rfl) (fun _ _ _ h => h) (Or.inl ⟨by rfl, fun X _ => by go_simp⟩) hHeld ?_
  try simp only [Act.put, List.setIfInBounds_toArray, List.set_cons_zero, List.set_cons_succ]
  refine take_at (i := 24) (v := .pointer (some ⟨c, 0, none⟩)) rfl rfl (by kernel_rfl) (by kernel_rfl) (by kernel_rfl) (fun _ _ _ h => h) (Or.inl ⟨by rfl, fun X _ => by go_simp⟩) hHeld ?_
  try simp only [Act.put, List.setIfInBounds_toArray, List.set_cons_zero, List.set_cons_succ]
  refine take_at (i := 25) (v := .pointer (some ⟨c, 7, none⟩)) rfl rfl (by kernel_rfl) (by kernel_rfl) (by kernel_rfl) (fun _ _ _ h => h) (Or.inl ⟨by rfl, fun X _ => by go_simp⟩) hHeld ?_
  try simp only [Act.put, List.setIfInBounds_toArray, List.set_cons_zero, List.set_cons_succ]
  refine take_at (i := 26) (v := .slice ta tl tc) rfl rfl (by kernel_rfl) (by kernel_rfl) (by kernel_rfl) (fun _ _ _ h => h) (Or.inl ⟨by rfl, fun X hX => by have k0 := hX.c0; have k1 := hX.c1; have k2 := hX.c2; have k3 := hX.c3; have k4 := hX.c4; have k5 := hX.c5; have k6 := hX.c6; have k7 := hX.c7; go_simp⟩) hHeld ?_
  try simp only [Act.put, List.setIfInBounds_toArray, List.set_cons_zero, List.set_cons_succ]
  refine wpAnyH_ready (rs := [8]) (by kernel_rfl) (by simp) ?_
  refine AllReadyH.cons rfl (fun K hK => ?_) AllReadyH.nil
  rw [if_pos (by rfl)]
  go_wp2_with fail
  refine (qsplit_is (.slice va vl vc) wait _ (hO1.out.re [1, 0] 2).qv.1 (hO1.out.re [1, 0] 2).qv.2 (by have := hw'.out; omega)).mono ?_
  rintro e V2 ⟨u, rfl, hq, hb, hf⟩
  have hO2 : Hid (St W0 V2 (inl u wait :: cb c l s f (.slice va vl vc) b i (.slice ra rl rc) (.slice ta tl tc) :: inl (.slice va vl vc) wait :: rnt b p (stR p r0 taken) :: rwl (.slice ra rl rc) (rowsR p r0 taken) :: inl (.slice ta tl tc) taken :: us)) := hO1.out.newl hb hq (hO1.out.re [1, 0] 2).qv.2 hf
  obtain ⟨ua, uc, rfl, _, _, _⟩ := hq.len
  have hh : Ckb V2 c l s f (.slice va vl vc) b i (.slice ra rl rc) (.slice ta tl tc) := hHeld.call hb
  clear hO1 hHeld hb hq hf
  go_wp2_with fail
  refine hK.out _ _ (hh) (fun hHeld => ?_)
  clear hK K
  try simp only [Act.put, List.setIfInBounds_toArray, List.set_cons_zero, List.set_cons_succ]
  clear hh
  generalize wait.length = ul at *
  refine wpAnyH_ready (rs := [13]) (by kernel_rfl) (by simp) ?_
  refine AllReadyH.cons rfl (fun K hK => ?_) AllReadyH.nil
  rw [if_pos (by rfl)]
  go_wp2_with fail
  refine (rtwin_st b p (stR p r0 taken) _ (hO2.out.re [3, 0, 1, 2] 4) hb'.out hos'.out).mono ?_
  rintro e V3 ⟨b2, rfl, hO3, hb⟩
  have hO4 : Hid (St W0 V3 (rnt b2 p (stR p r0 taken) :: inl (.slice ua ul uc) wait :: cb c l s f (.slice va vl vc) b i (.slice ra rl rc) (.slice ta tl tc) :: inl (.slice va vl vc) wait :: rnt b p (stR p r0 taken) :: rwl (.slice ra rl rc) (rowsR p r0 taken) :: inl (.slice ta tl tc) taken :: us)) := hO3.re [0, 2, 3, 4, 1] 5
  have hh : Ckb V3 c l s f (.slice va vl vc) b i (.slice ra rl rc) (.slice ta tl tc) := hHeld.call hb
  clear hO2 hO3 hHeld hb
  go_wp2_with fail
  refine hK.out _ _ (hh) (fun hHeld => ?_)
  clear hK K
  try simp only [Act.put, List.setIfInBounds_toArray, List.set_cons_zero, List.set_cons_succ]
  clear hh
  refine wpAnyH_ready (rs := [22]) (by kernel_rfl) (by simp) ?_
  refine AllReadyH.cons rfl (fun K hK => ?_) AllReadyH.nil
  rw [if_pos (by rfl)]
  go_wp2_with fail
  refine (rcopy_is (.slice ra rl rc) (rowsR p r0 taken) _ (srcN_own (hO4.out.re [5, 0, 1, 2, 3, 4] 6).rw) hrl'.out).mono ?_
  rintro e V4 ⟨u2, rfl, hq, hb⟩
  have hO5 : Hid (St W0 V4 (rwl u2 (rowsR p r0 taken) :: rnt b2 p (stR p r0 taken) :: inl (.slice ua ul uc) wait :: cb c l s f (.slice va vl vc) b i (.slice ra rl rc) (.slice ta tl tc) :: inl (.slice va vl vc) wait :: rnt b p (stR p r0 taken) :: rwl (.slice ra rl rc) (rowsR p r0 taken) :: inl (.slice ta tl tc) taken :: us)) := hO4.out.newr hb hq (Nat.le_refl _)
  obtain ⟨xa, xl, xc, rfl⟩ := own_slice hq
  have hh : Ckb V4 c l s f (.slice va vl vc) b i (.slice ra rl rc) (.slice ta tl tc) := hHeld.call hb
  clear hO4 hHeld hb hq
  go_wp2_with fail
  refine hK.out _ _ (hh) (fun hHeld => ?_)
  clear hK K
  try simp only [Act.put, List.setIfInBounds_toArray, List.set_cons_zero, List.set_cons_succ]
  clear hh
  obtain ⟨qt, htl⟩ := (hO5.out.re [7, 0, 1, 2, 3, 4, 5, 6] 8).qv
  obtain ⟨qb, hrd, hx1, hx2⟩ := qt.rdi htl 0
  clear hx1 hx2 qt
  refine wpAnyH_ready (rs := [27]) (by kernel_rfl) (by simp) ?_
  refine AllReadyH.cons rfl (fun K hK => ?_) AllReadyH.nil
  rw [if_pos (by rfl)]
  go_wp2_with fail
  refine (ccopy_is (.slice ta tl tc) qb taken _ hrd ht'.out).mono ?_
  rintro e V5 ⟨u3, rfl, hq, hb, hf⟩
  have hO6 : Hid (St W0 V5 (inl u3 taken :: rwl (.slice xa xl xc) (rowsR p r0 taken) :: rnt b2 p (stR p r0 taken) :: inl (.slice ua ul uc) wait :: cb c l s f (.slice va vl vc) b i (.slice ra rl rc) (.slice ta tl tc) :: inl (.slice va vl vc) wait :: rnt b p (stR p r0 taken) :: rwl (.slice ra rl rc) (rowsR p r0 taken) :: inl (.slice ta tl tc) taken :: us)) := hO5.out.newl hb hq htl hf
  obtain ⟨ya, yc, rfl, _, _, _⟩ := hq.len
  have hh : Ckb V5 c l s f (.slice va vl vc) b i (.slice ra rl rc) (.slice ta tl tc) := hHeld.call hb
  clear hO5 hHeld hb hq hf htl hrd
  generalize taken.length = yl at *
  go_wp2_with fail
  refine hK.out _ _ (hh) (fun hHeld => ?_)
  clear hK K
  try simp only [Act.put, List.setIfInBounds_toArray, List.set_cons_zero, List.set_cons_succ]
  clear hh
  refine take_at (i := 28) (v := .agg #[.int .i64 l, .int .i64 s, .int .i64 f, .slice ua ul uc, .pointer (some ⟨b2, 0, none⟩), .int .i64 i, .slice xa xl xc, .slice ya yl yc]) rfl rfl (by kernel_rfl) (by kernel_rfl) (by kernel_rfl) (fun _ _ _ h => h) (Or.inl ⟨by rfl, fun X _ => by go_simp⟩) hHeld ?_
  try simp only [Act.put, List.setIfInBounds_toArray, List.set_cons_zero, List.set_cons_succ]
  refine wpAnyH_ready (rs := [29]) (by kernel_rfl) (by simp) ?_
  refine AllReadyH.cons rfl (fun K hK => ?_) AllReadyH.nil
  rw [if_pos (by rfl)]
  go_simp
  have hO7 : Hid (St W0 (V5.alloc (.cells #[.int .i64 l, .int .i64 s, .int .i64 f, .slice ua ul uc, .pointer (some ⟨b2, 0, none⟩), .int .i64 i, .slice xa xl xc, .slice ya yl yc] 49)) (cb V5.heap.size l s f (.slice ua ul uc) b2 i (.slice xa xl xc) (.slice ya yl yc) :: inl (.slice ya yl yc) taken :: rwl (.slice xa xl xc) (rowsR p r0 taken) :: rnt b2 p (stR p r0 taken) :: inl (.slice ua ul uc) wait :: cb c l s f (.slice va vl vc) b i (.slice ra rl rc) (.slice ta tl tc) :: inl (.slice va vl vc) wait :: rnt b p (stR p r0 taken) :: rwl (.slice ra rl rc) (rowsR p r0 taken) :: inl (.slice ta tl tc) taken :: us)) := hO6.out.newBlk _ _ rfl
  clear hO6
  refine hK.out _ _ (hHeld.call (below_alloc _ _)) (fun hHeld => ?_)
  clear hK K
  try simp only [Act.put, List.setIfInBounds_toArray, List.set_cons_zero, List.set_cons_succ]
  refine take_at (i := 30) (v := .pointer (some ⟨V5.heap.size, 0, none⟩)) rfl rfl (by kernel_rfl) (by kernel_rfl) (by kernel_rfl) (fun _ _ _ h => h) (Or.inl ⟨by rfl, fun X _ => by go_simp⟩) hHeld ?_
  try simp only [Act.put, List.setIfInBounds_toArray, List.set_cons_zero, List.set_cons_succ]
  refine wpAnyH_done (by kernel_rfl) ?_ _
  have h8 := (hO7.out.re [0, 4, 3, 2, 1] 5).cls
  have h9 := (h8.re [1, 2, 3, 4, 5, 0] 6).cls
  have h10 : Hid (St W0 _ _) := h9.sw
  clear h8 h9 hO7 hHeld
  go_wp2_with fail
  go_ret
  exact ⟨_, rfl, h10.out⟩
set_option maxHeartbeats 1000000 in
set_option maxRecDepth 100000 in
/-- cell.New of a right pipe. -/
theorem cnew_is (v : Value) (i m x : Int) (w : World) (hS : St W0 w us) (hv : OpsIn w v p.os) (hr : rightP p = true) (hl : p.os.length ≤ 1000) (hi : 0 ≤ i ∧ i ≤ 7) (hx : 0 ≤ m ∧ x = m ∨ m < 0 ∧ x = 0) :
    Calls Try.prog 9 #[.int .i64 i, .int .i64 m, O.pv v p.n p.s p.a p.k p.f] w fun e w' => ∃ c, e = .returned (.pointer (some ⟨c, 0, none⟩)) ∧ St W0 w' (cel c p i x 0 0 [] [] :: us) := by
  obtain ⟨os, n, sl, a, k, f⟩ := p
  simp only at hv hl ⊢
  obtain ⟨va, vl, vc, rfl⟩ := hv.form
  have hr' : Hid (rightP ⟨os, n, sl, a, k, f⟩ = true) := hr
  have hl' : Hid (os.length ≤ 1000) := hl
  have hx' : Hid (0 ≤ m ∧ x = m ∨ m < 0 ∧ x = 0) := hx
  obtain ⟨hi1, hi2⟩ := hi
  clear hr hl hx
  go_enter Try.func9, Try.ntmps9
  go_upto_region 1 with fail
  refine world_gen (fun W => Hid (O.Pik W w.heap.size (.slice va vl vc) n sl a k f) ∧ Hid (OpsIn W (.slice va vl vc) os) ∧ Hid (St W0 W us)) ⟨O.pik_new _ _ _ _ _ _ _, hv.below (below_alloc _ _), hS.below (below_alloc _ _)⟩ ?_
  clear hv hS
  rintro W ⟨k0, hv, hS⟩
  generalize w.heap.size = g0 at *
  have c0 := k0.out.c0
  have c1 := k0.out.c1
  have c2 := k0.out.c2
  have c3 := k0.out.c3
  have c4 := k0.out.c4
  have c5 := k0.out.c5
  go_wp2_with fail
  refine (rnew_st (.slice va vl vc) ⟨os, n, sl, a, k, f⟩ _ hS.out hv.out hr'.out hl'.out).mono ?_
  rintro e w1 ⟨b, rfl, hS1⟩
  have hS1' : Hid (St W0 w1 (rnt b ⟨os, n, sl, a, k, f⟩ r0 :: us)) := hS1
  clear c0 c1 c2 c3 c4 c5 k0 hv hS hS1
  go_wp2_with fail
  refine (qof_is m x _ hx'.out).mono ?_
  rintro e w2 ⟨rfl, hb2⟩
  have hS2 : Hid (St W0 (w2.alloc (.cells #[.int .i64 x, .int .i64 0, .int .i64 0, .slice none 0 0, .pointer (some ⟨b, 0, none⟩), .int .i64 i, .slice none 0 0, .slice none 0 0] 49)) (cb w2.heap.size x 0 0 (.slice none 0 0) b i (.slice none 0 0) (.slice none 0 0) :: rnt b ⟨os, n, sl, a, k, f⟩ r0 :: us)) := (hS1'.out.below hb2).newBlk _ _ rfl
  clear hS1' hb2
  have hfin : Hid (St W0 (w2.alloc (.cells #[.int .i64 x, .int .i64 0, .int .i64 0, .slice none 0 0, .pointer (some ⟨b, 0, none⟩), .int .i64 i, .slice none 0 0, .slice none 0 0] 49)) (cel w2.heap.size ⟨os, n, sl, a, k, f⟩ i x 0 0 [] [] :: us)) := by
    have h0 := hS2.out
    have h1 := h0.newl (Below.refl _ _) (qv_nil _) Labl.nil (fun k hk => by cases hk)
    have h2 := h1.newr (R := []) (Below.refl _ _) (World.ownsRow_nil _ _ _ _) (Nat.le_refl _)
    have h3 := h2.newl (Below.refl _ _) (qv_nil _) Labl.nil (fun k hk => by cases hk)
    have h4 : St W0 _ (cel w2.heap.size ⟨os, n, sl, a, k, f⟩ i x 0 0 [] [] :: us) := (h3.re [3, 0, 4, 1, 2] 5).cls
    exact h4
  clear hS2
  go_wp2_with fail
  go_ret
  exact ⟨_, rfl, hfin.out⟩
end
/-- cell.New of a number of no tenant. -/
theorem cnew_id (v : Value) (n s a k f : Int) (i m : Int) (w : World) (hi : i < 0 ∨ 8 ≤ i) :
    Calls Try.prog 9 #[.int .i64 i, .int .i64 m, O.pv v n s a k f] w fun e w' => e = .returned (.pointer none) ∧ Below w.heap.size w w' := by
  by_cases h0 : i < 0
  · clear hi
    go_enter Try.func9, Try.ntmps9
    go_wp2
    go_ret
    exact ⟨rfl, below_alloc _ _⟩
  · have h1 : 8 ≤ i := by omega
    clear hi
    go_enter Try.func9, Try.ntmps9
    go_wp2
    go_ret
    exact ⟨rfl, below_alloc _ _⟩
set_option maxHeartbeats 1000000 in
/-- cell.New of a pipe that isn't right. -/
theorem cnew_no (v : Value) (os : List Oq) (n s a k f : Int) (i m : Int) (w : World) (hv : OpsIn w v os) (hr : rightP ⟨os, n, s, a, k, f⟩ = false) (hi : 0 ≤ i ∧ i ≤ 7) :
    Calls Try.prog 9 #[.int .i64 i, .int .i64 m, O.pv v n s a k f] w fun e w' => e = .returned (.pointer none) ∧ Below w.heap.size w w' := by
  obtain ⟨hi1, hi2⟩ := hi
  obtain ⟨va, vl, vc, rfl⟩ := hv.form
  have hr' : Hid (rightP ⟨os, n, s, a, k, f⟩ = false) := hr
  clear hr
  go_enter Try.func9, Try.ntmps9
  go_upto_region 1 with fail
  refine world_gen (fun W => Hid (O.Pik W w.heap.size (.slice va vl vc) n s a k f) ∧ Hid (OpsIn W (.slice va vl vc) os) ∧ Hid (Below w.heap.size w W)) ⟨O.pik_new _ _ _ _ _ _ _, hv.below (below_alloc _ _), below_alloc _ _⟩ ?_
  clear hv
  rintro W ⟨k0, hv, hb⟩
  obtain ⟨g0, hg0⟩ : ∃ g, Hid (w.heap.size = g) := ⟨_, rfl⟩
  rw [hg0.out] at k0 hb ⊢
  have c0 := k0.out.c0
  have c1 := k0.out.c1
  have c2 := k0.out.c2
  have c3 := k0.out.c3
  have c4 := k0.out.c4
  have c5 := k0.out.c5
  go_wp2_with fail
  refine (new_no (.slice va vl vc) os n s a k f _ hv.out hr'.out).mono ?_
  rintro e w1 ⟨rfl, hb1⟩
  have hlt := k0.out.lt
  have hb2 : Hid (Below g0 w w1) := hb.out.trans (hb1.mono (by omega))
  clear c0 c1 c2 c3 c4 c5 k0 hv hb hb1
  go_wp2_with fail
  go_ret
  exact ⟨rfl, by rw [hg0.out]; exact hb2.out⟩
end Go.Proofs.Ytnamjnopicghhaa
/- CellRuns: chapter 15's runs. -/
namespace Go.Proofs.Ytnamjnopicghhaa
open Go.RowKit M
open O.MO (Oq Pq rightP)
set_option linter.unusedVariables false
set_option linter.unusedSimpArgs false
attribute [local go_sem ↓] Go.wp_at_zero Go.wp_at_succ

def runsP : Pq := ⟨[], 10, 10, 2, -1, -1⟩
def runsI : List Inp := [ownI 2 ⟨false, ⟨3, 0, 5, 0⟩⟩, ownI 2 ⟨true, ⟨10, 0, 0, 0⟩⟩]
theorem runs_right : rightP runsP = true := by kernel_rfl
theorem runs_rows : rowsR runsP r0 runsI = [⟨0, 0, 1, 5, 4⟩] := by kernel_rfl
set_option maxHeartbeats 4000000 in
set_option maxRecDepth 100000 in
theorem runs_is (w : World) : Calls Try.prog 3 #[] w fun e w' => e = .returned (.bool true) ∧ Below w.heap.size w w' := by
  go_enter Try.func3, Try.ntmps3
  go_wp2_with fail
  refine (cnew_is (p := runsP) (.slice none 0 0) 2 9 9 _ (st_start w) (opsIn_nil _) runs_right (by decide) (by decide) (.inl ⟨by decide, rfl⟩)).mono ?_
  rintro e w1 ⟨c, rfl, hS⟩
  have hS0 : Hid (St w w1 (cel c runsP (2 : Nat) 9 0 0 [] [] :: [])) := hS
  clear hS
  go_upto_region 5 with fail
  refine world_gen (fun W => Hid (St w W (blkT w1.heap.size (.cells #[.bool false, .int .i64 3, .int .i64 0, .int .i64 5, .int .u64 0] 31) :: cel c runsP (2 : Nat) 9 0 0 [] [] :: []))) (hS0.out.newBlk _ _ rfl) ?_
  clear hS0
  rintro W1 hS1
  generalize w1.heap.size = g at *
  have hi : Hid (Ink W1 g ⟨false, ⟨3, 0, 5, 0⟩⟩) := hS1.out.blk
  refine wp_region_held_drew (S := fun X => Ink X g ⟨false, ⟨3, 0, 5, 0⟩⟩) (by kernel_rfl) hi.out (fun hHeld => ?_)
  have hS2 : Hid (St w W1.drew (cel c runsP (2 : Nat) 9 0 0 [] [] :: blkT g (.cells #[.bool false, .int .i64 3, .int .i64 0, .int .i64 5, .int .u64 0] 31) :: [])) := (hS1.out.below (Below.refl _ _).drew).sw
  clear hS1 hi
  generalize W1.drew = V at hHeld hS2 ⊢
  refine take_at (i := 0) (v := .pointer (some ⟨c, 0, none⟩)) rfl rfl (by kernel_rfl) (by kernel_rfl) (by kernel_rfl) (fun _ _ _ h => h) (Or.inl ⟨by rfl, fun X _ => by go_simp⟩) hHeld ?_
  try simp only [Act.put, List.setIfInBounds_toArray, List.set_cons_zero, List.set_cons_succ]
  refine take_at (i := 1) (v := inv ⟨false, ⟨3, 0, 5, 0⟩⟩) rfl rfl (by kernel_rfl) (by kernel_rfl) (by kernel_rfl) (fun _ _ _ h => h) (Or.inl ⟨by rfl, fun X hX => by obtain ⟨k0, k1, k2, k3, k4⟩ := hX.c; simp only [Nat.zero_add] at k0 k1 k2 k3 k4; go_simp⟩) hHeld ?_
  try simp only [Act.put, List.setIfInBounds_toArray, List.set_cons_zero, List.set_cons_succ]
  refine take_at (i := 3) (v := .pointer (some ⟨c, 0, none⟩)) rfl rfl (by kernel_rfl) (by kernel_rfl) (by kernel_rfl) (fun _ _ _ h => h) (Or.inl ⟨by rfl, fun X _ => by go_simp⟩) hHeld ?_
  try simp only [Act.put, List.setIfInBounds_toArray, List.set_cons_zero, List.set_cons_succ]
  refine take_at (i := 4) (v := .agg #[.int .i64 10, .int .i64 0, .int .i64 0, .int .u64 0]) rfl rfl (by kernel_rfl) (by kernel_rfl) (by kernel_rfl) (fun _ _ _ h => h) (Or.inl ⟨by rfl, fun X _ => by go_simp⟩) hHeld ?_
  try simp only [Act.put, List.setIfInBounds_toArray, List.set_cons_zero, List.set_cons_succ]
  refine take_at (i := 5) (v := inv ⟨true, ⟨10, 0, 0, 0⟩⟩) rfl rfl (by kernel_rfl) (by kernel_rfl) (by kernel_rfl) (fun _ _ _ h => h) (Or.inl ⟨by rfl, fun X _ => by go_simp⟩) hHeld ?_
  try simp only [Act.put, List.setIfInBounds_toArray, List.set_cons_zero, List.set_cons_succ]
  refine take_at (i := 7) (v := .pointer (some ⟨c, 0, none⟩)) rfl rfl (by kernel_rfl) (by kernel_rfl) (by kernel_rfl) (fun _ _ _ h => h) (Or.inl ⟨by rfl, fun X _ => by go_simp⟩) hHeld ?_
  try simp only [Act.put, List.setIfInBounds_toArray, List.set_cons_zero, List.set_cons_succ]
  refine take_at (i := 8) (v := inv ⟨false, ⟨3, 0, 5, 0⟩⟩) rfl rfl (by kernel_rfl) (by kernel_rfl) (by kernel_rfl) (fun _ _ _ h => h) (Or.inl ⟨by rfl, fun X hX => by obtain ⟨k0, k1, k2, k3, k4⟩ := hX.c; simp only [Nat.zero_add] at k0 k1 k2 k3 k4; go_simp⟩) hHeld ?_
  try simp only [Act.put, List.setIfInBounds_toArray, List.set_cons_zero, List.set_cons_succ]
  refine wpAnyH_ready (rs := [2]) (by kernel_rfl) (by simp) ?_
  refine AllReadyH.cons rfl (fun K hK => ?_) AllReadyH.nil
  rw [if_pos (by rfl)]
  go_wp2_with fail
  refine (offer_is 2 ⟨false, ⟨3, 0, 5, 0⟩⟩ _ hS2.out (by decide) (by decide) (by decide) (by decide) (by decide) 0 8 1 0 [ownI 2 ⟨false, ⟨3, 0, 5, 0⟩⟩] (.inr (.inr (.inr ⟨by decide, by decide, by decide, rfl, by decide, by decide, rfl, rfl⟩)))).mono ?_
  rintro e V3 ⟨rfl, hN⟩
  have hS3 : Hid (St w V3 (cel c runsP (2 : Nat) 8 1 0 [ownI 2 ⟨false, ⟨3, 0, 5, 0⟩⟩] [] :: blkT g (.cells #[.bool false, .int .i64 3, .int .i64 0, .int .i64 5, .int .u64 0] 31) :: [])) := hN
  have hh : Ink V3 g ⟨false, ⟨3, 0, 5, 0⟩⟩ := hN.sw.blk
  clear hS2 hN hHeld
  go_wp2_with fail
  refine hK.out _ _ (hh) (fun hHeld => ?_)
  clear hK K
  try simp only [Act.put, List.setIfInBounds_toArray, List.set_cons_zero, List.set_cons_succ]
  clear hh
  refine wpAnyH_ready (rs := [6]) (by kernel_rfl) (by simp) ?_
  refine AllReadyH.cons rfl (fun K hK => ?_) AllReadyH.nil
  rw [if_pos (by rfl)]
  go_wp2_with fail
  refine (offer_is 2 ⟨true, ⟨10, 0, 0, 0⟩⟩ _ hS3.out (by decide) (by decide) (by decide) (by decide) (by decide) 0 7 2 0 [ownI 2 ⟨false, ⟨3, 0, 5, 0⟩⟩, ownI 2 ⟨true, ⟨10, 0, 0, 0⟩⟩] (.inr (.inr (.inr ⟨by decide, by decide, by decide, rfl, by decide, by decide, rfl, rfl⟩)))).mono ?_
  rintro e V4 ⟨rfl, hN⟩
  have hS4 : Hid (St w V4 (cel c runsP (2 : Nat) 7 2 0 [ownI 2 ⟨false, ⟨3, 0, 5, 0⟩⟩, ownI 2 ⟨true, ⟨10, 0, 0, 0⟩⟩] [] :: blkT g (.cells #[.bool false, .int .i64 3, .int .i64 0, .int .i64 5, .int .u64 0] 31) :: [])) := hN
  have hh : Ink V4 g ⟨false, ⟨3, 0, 5, 0⟩⟩ := hN.sw.blk
  clear hS3 hN hHeld
  go_wp2_with fail
  refine hK.out _ _ (hh) (fun hHeld => ?_)
  clear hK K
  try simp only [Act.put, List.setIfInBounds_toArray, List.set_cons_zero, List.set_cons_succ]
  clear hh
  refine wpAnyH_ready (rs := [9]) (by kernel_rfl) (by simp) ?_
  refine AllReadyH.cons rfl (fun K hK => ?_) AllReadyH.nil
  rw [if_pos (by rfl)]
  go_wp2_with fail
  refine (offer_is 2 ⟨false, ⟨3, 0, 5, 0⟩⟩ _ hS4.out (by decide) (by decide) (by decide) (by decide) (by decide) 3 7 2 1 [ownI 2 ⟨false, ⟨3, 0, 5, 0⟩⟩, ownI 2 ⟨true, ⟨10, 0, 0, 0⟩⟩] (.inr (.inr (.inl ⟨by decide, by decide, by decide, rfl, rfl, rfl, by decide, rfl⟩)))).mono ?_
  rintro e V5 ⟨rfl, hN⟩
  have hS5 : Hid (St w V5 (cel c runsP (2 : Nat) 7 2 1 [ownI 2 ⟨false, ⟨3, 0, 5, 0⟩⟩, ownI 2 ⟨true, ⟨10, 0, 0, 0⟩⟩] [] :: blkT g (.cells #[.bool false, .int .i64 3, .int .i64 0, .int .i64 5, .int .u64 0] 31) :: [])) := hN
  have hh : Ink V5 g ⟨false, ⟨3, 0, 5, 0⟩⟩ := hN.sw.blk
  clear hS4 hN hHeld
  go_wp2_with fail
  refine hK.out _ _ (hh) (fun hHeld => ?_)
  clear hK K
  try simp only [Act.put, List.setIfInBounds_toArray, List.set_cons_zero, List.set_cons_succ]
  clear hh
  refine take_at (i := 10) (v := .int .i64 0) rfl rfl (by kernel_rfl) (by kernel_rfl) (by kernel_rfl) (fun _ _ _ h => h) (Or.inl ⟨by rfl, fun X _ => by go_simp⟩) hHeld ?_
  try simp only [Act.put, List.setIfInBounds_toArray, List.set_cons_zero, List.set_cons_succ]
  refine take_at (i := 11) (v := .int .i64 0) rfl rfl (by kernel_rfl) (by kernel_rfl) (by kernel_rfl) (fun _ _ _ h => h) (Or.inl ⟨by rfl, fun X _ => by go_simp⟩) hHeld ?_
  try simp only [Act.put, List.setIfInBounds_toArray, List.set_cons_zero, List.set_cons_succ]
  refine take_at (i := 12) (v := .int .i64 3) rfl rfl (by kernel_rfl) (by kernel_rfl) (by kernel_rfl) (fun _ _ _ h => h) (Or.inl ⟨by rfl, fun X _ => by go_simp⟩) hHeld ?_
  try simp only [Act.put, List.setIfInBounds_toArray, List.set_cons_zero, List.set_cons_succ]
  refine wpAnyH_done (by kernel_rfl) ?_ _
  clear hHeld
  go_wp2_with fail
  refine (serve_is 2 _ hS5.out 2 (.inr (.inl ⟨by decide, by decide, by decide⟩)) (by decide)).mono ?_
  rintro e w6 ⟨u, rfl, hN⟩
  have e1 : rowsR runsP (stR runsP r0 []) (List.take 2 [ownI 2 ⟨false, ⟨3, 0, 5, 0⟩⟩, ownI 2 ⟨true, ⟨10, 0, 0, 0⟩⟩]) = [⟨0, 0, 1, 5, 4⟩] := runs_rows
  rw [e1] at hN
  have hS6 : Hid (St w w6 (cel c runsP (2 : Nat) 7 2 1 [] runsI :: rwl u [⟨0, 0, 1, 5, 4⟩] :: blkT g (.cells #[.bool false, .int .i64 3, .int .i64 0, .int .i64 5, .int .u64 0] 31) :: [])) := hN.sw
  clear hS5 hN
  go_wp2_with fail
  refine (crows_is 5 0 _ hS6.out (by decide) 1 1 (by rw [runs_rows]; rfl) (.inr (.inr (.inr ⟨by decide, by decide, by decide, rfl⟩)))).mono ?_
  rintro e w7 ⟨u2, rfl, hN⟩
  rw [runs_rows] at hN
  have hS7 : Hid (St w w7 (cel c runsP (2 : Nat) 7 2 1 [] runsI :: rwl u2 [⟨0, 0, 1, 5, 4⟩] :: rwl u [⟨0, 0, 1, 5, 4⟩] :: blkT g (.cells #[.bool false, .int .i64 3, .int .i64 0, .int .i64 5, .int .u64 0] 31) :: [])) := hN.sw
  clear hS6 hN
  go_wp2_with fail
  refine (crows_no 2 1 _ hS7.out (.inr (by rw [runs_rows]; decide))).mono ?_
  rintro e w8 ⟨rfl, he⟩; obtain rfl := he.symm; clear he
  obtain ⟨ua, uc, rfl⟩ := own_len' (hS7.out.re [2, 0, 1] 3).rw
  obtain ⟨ub, ud, rfl⟩ := own_len' (hS7.out.re [1, 0] 2).rw
  have hr1 := rdr_own (hS7.out.re [2, 0, 1] 3).rw
  have hr2 := rdr_own (hS7.out.re [1, 0] 2).rw
  have hr1' : Hid (RdR w7 (.slice ua [(⟨0, 0, 1, 5, 4⟩ : Pn)].length uc) [⟨0, 0, 1, 5, 4⟩]) := hr1
  have hr2' : Hid (RdR w7 (.slice ub [(⟨0, 0, 1, 5, 4⟩ : Pn)].length ud) [⟨0, 0, 1, 5, 4⟩]) := hr2
  obtain ⟨hln, ao, cap, e1, h1, h2, hcell⟩ := hr1
  obtain ⟨b1, o1, e2, h3, h4⟩ := hcell (by simp)
  obtain ⟨_, _, _, _, g4⟩ := h4 0 (by simp)
  subst e2
  injection e1 with e3 e4 e5
  subst e3
  have g4' : w7.cell? ⟨b1, o1 + 4, none⟩ = some (.int .u64 4) := by simpa [pAt] using g4
  clear g4 h4 hcell h1 h2 hln e4 e5 hr2
  obtain ⟨v, b, vr, vt, hO⟩ := hS7.out.opn
  have hkb : Hid (Ckb w7 c 7 2 1 v b (2 : Nat) vr vt) := hO.ck
  have hB : Hid (Below w.heap.size w w7) := hS7.out.b
  clear hO hS7
  go_wp2_with fail
  refine (same_r (.slice ub 1 ud) (.slice (some ⟨b1, o1, none⟩) 1 uc) [⟨0, 0, 1, 5, 4⟩] _ hr2'.out hr1'.out).mono ?_
  rintro e w8 ⟨rfl, hb8⟩
  have hkb8 : Hid (Ckb w8 c 7 2 1 v b (2 : Nat) vr vt) := hkb.out.call hb8
  have hB8 : Hid (Below w.heap.size w w8) := below_call hB.out hb8
  clear hkb hB hb8 hr1' hr2' g4'
  have d0 := hkb8.out.c0
  have d1 := hkb8.out.c1
  have d2 := hkb8.out.c2
  go_wp2_with fail
  refine (qleft_is 7 2 1 _).mono ?_
  rintro e w9 ⟨rfl, hb9⟩
  have hkb9 : Hid (Ckb w9 c 7 2 1 v b (2 : Nat) vr vt) := hkb8.out.call hb9
  have hB9 : Hid (Below w.heap.size w w9) := below_call hB8.out hb9
  clear hkb8 hB8 hb9 d0 d1 d2
  have d0 := hkb9.out.c0
  have d1 := hkb9.out.c1
  have d2 := hkb9.out.c2
  go_wp2_with fail
  refine (qrefused_is 7 2 1 _).mono ?_
  rintro e w10 ⟨rfl, hb10⟩
  have hB10 : Hid (Below w.heap.size w w10) := below_call hB9.out hb10
  clear hkb9 hB9 hb10 d0 d1 d2
  go_wp2_with fail
  go_ret
  exact ⟨rfl, hB10.out⟩
theorem cellRuns_walk (w : World) : Calls Try.prog 3 #[] w fun e w' => e = .returned (.bool true) ∧ Below w.heap.size w w' := runs_is w
end Go.Proofs.Ytnamjnopicghhaa
/- cordonbook.Same of inputs that are the same. -/
namespace Go.Proofs.Ytnamjnopicghhaa
open Go.RowKit M
set_option linter.unusedVariables false
set_option linter.unusedSimpArgs false
attribute [local go_sem ↓] Go.wp_at_zero Go.wp_at_succ
set_option maxHeartbeats 1000000 in
set_option maxRecDepth 100000 in
theorem same_i (v1 v2 : Value) (q1 q2 : Nat) (L : List Inp) (w : World) (h1 : RdI w v1 q1 L) (h2 : RdI w v2 q2 L) :
    Calls Try.prog 22 #[v1, v2] w fun e w' => e = .returned (.bool true) ∧ Below w.heap.size w w' := by
  obtain ⟨hl1, _, ao, cap, rfl, _, _, hc0⟩ := h1
  obtain ⟨_, _, ao2, cap2, rfl, _, _, hc2⟩ := h2
  have hc' : Hid (L.length ≠ 0 → ∃ off, ao = some ⟨q1, off, none⟩ ∧ q1 < w.heap.size ∧ ∀ j, j < L.length → InAt w q1 (off + j * 5) (iAt L j)) := hc0
  have hd' : Hid (L.length ≠ 0 → ∃ off, ao2 = some ⟨q2, off, none⟩ ∧ q2 < w.heap.size ∧ ∀ j, j < L.length → InAt w q2 (off + j * 5) (iAt L j)) := hc2
  clear hc0 hc2
  obtain ⟨m, hm⟩ : ∃ m, Hid (L.length = m) := ⟨_, rfl⟩
  rw [hm.out] at hc' hd' hl1 ⊢
  go_enter Try.func22, Try.ntmps22
  go_wp2_with fail
  go_loopw [5] (fun i wr => ∃ k n : Nat, k ≤ m ∧ i = .int .i64 k ∧ wr = w.drewN n) (fun i _ => m - (intOf i).toNat)
  case atStart => exact ⟨0, 0, Nat.zero_le _, rfl, rfl⟩
  case round =>
    obtain ⟨k, n, hk, rfl, rfl⟩ := hrel
    by_cases hlt : k < m
    · obtain ⟨off, rfl, _, hc⟩ := hc'.out (by omega)
      obtain ⟨off2, rfl, _, hd⟩ := hd'.out (by omega)
      obtain ⟨p0, p1, p2, p3, p4⟩ := hc k hlt
      obtain ⟨r0, r1, r2, r3, r4⟩ := hd k hlt
      clear hc hd hc' hd'
      obtain ⟨⟨x1, ⟨x2, x3, x4, x5⟩⟩, hee⟩ : ∃ x, iAt L k = x := ⟨_, rfl⟩
      rw [hee] at p0 p1 p2 p3 p4 r0 r1 r2 r3 r4
      clear hee
      simp only at p0 p1 p2 p3 p4 r0 r1 r2 r3 r4
      go_wp2_with fail
      go_quiet (fail)
      go_wp2_with fail
      go_roundw
      case rel => exact ⟨k + 1, n + nq, by omega, by go_num, rfl⟩
      case measure => simp [intOf]; omega
    · go_wp2_with fail
      go_ret
      exact ⟨rfl, below_drewN (Below.refl _ _) _⟩
end Go.Proofs.Ytnamjnopicghhaa
/- Lists of plain numbers that came in; a slot of a list of inputs of the call's own, of rows. -/
/- What the statements on a Cell stand on: a kept pipe, inputs, labels of rows. -/
namespace Go.Proofs.Ytnamjnopicghhaa
open Go.RowKit M
open O (Small Ints kv Kpk Pik)
open O.MO (Oq Pq rightP)
set_option linter.unusedVariables false
set_option linter.unusedSimpArgs false
attribute [local go_sem ↓] Go.wp_at_zero Go.wp_at_succ

namespace M
/-- All rows bear this label. -/
def LabE (M : Nat) (L : List Pn) : Prop := ∀ q ∈ L, q.l = M
theorem labE_nil (M : Nat) : LabE M [] := fun q h => by cases h
theorem labE_upd {M : Nat} {K s k x : Int} {L : List Pn} (h : LabE M L) : LabE M (upd K s k x M L) := by
  intro q hq
  rcases mem_upd K s k x M L q hq with rfl | hq | ⟨z, hz, rfl⟩
  · show 0 ||| M = M
    exact Nat.zero_or M
  · exact h q hq
  · show z.l ||| M = M
    rw [h z hz]; exact Nat.or_self M
theorem labE_putS {M : Nat} {K k x : Int} : ∀ (ss : List Int) (L : List Pn), LabE M L → LabE M (putS K k x M L ss)
  | [], L, h => h
  | s :: r, L, h => labE_putS r _ (labE_upd h)
theorem labE_step {p : Pq} {r : Rs} {i : Inp} {M : Nat} (h : LabE M r.L) (hl : i.mrk = true ∨ i.e.l = M) : LabE M (stepR p r i).L ∧ LabE M (rowR p r i) := by
  cases hm : i.mrk with
  | true =>
    cases hg : goes r.m i.e.t with
    | true => rw [(step_mark hm hg).1, (step_mark (p := p) hm hg).2]; exact ⟨fun q hq => h q (List.mem_of_mem_drop hq), fun q hq => h q (List.mem_of_mem_take hq)⟩
    | false => rw [(step_still hm hg).1, (step_still (p := p) hm hg).2]; exact ⟨h, labE_nil _⟩
  | false =>
    rw [row_event hm]
    refine ⟨?_, labE_nil _⟩
    have hl' : i.e.l = M := by
      rcases hl with h | h
      · rw [hm] at h; cases h
      · exact h
    cases hk : okT i.e.t with
    | false => rw [step_none hm hk]; exact h
    | true =>
      by_cases hl : i.e.t < r.m
      · rw [step_late hm hk hl]; exact h
      · cases hx : runE p.os i.e with
        | none => rw [step_drop hm hk hl hx]; exact h
        | some x =>
          rw [step_put hm hk hl hx]
          have e : x.l = M := (runE_some hx).2.2.trans hl'
          show LabE M (putS p.a x.k x.v x.l r.L (starts x.t p.n p.s))
          rw [e]
          exact labE_putS _ _ h
theorem labE_all {p : Pq} {M : Nat} : ∀ (is : List Inp) (r : Rs), LabE M r.L → (∀ i ∈ is, i.mrk = true ∨ i.e.l = M) → LabE M (stR p r is).L ∧ LabE M (rowsR p r is)
  | [], r, h, _ => ⟨h, labE_nil _⟩
  | i :: is, r, h, hl => by
    have h1 := labE_step (p := p) h (hl i (by simp))
    have h2 := labE_all (p := p) is (stepR p r i) h1.1 (fun j hj => hl j (by simp [hj]))
    refine ⟨h2.1, fun q hq => ?_⟩
    have e : rowsR p r (i :: is) = rowR p r i ++ rowsR p (stepR p r i) is := rfl
    rw [e] at hq
    rcases List.mem_append.1 hq with hq | hq
    · exact h1.2 q hq
    · exact h2.2 q hq
end M
section
variable {W0 : World} {us : List Th}
/-- A pipe in its variable. -/
abbrev pkT (b : Nat) (v : Value) (p : Pq) : Th := blkT b (.cells #[v, .int .i64 p.n, .int .i64 p.s, .int .i64 p.a, .int .i64 p.k, .int .i64 p.f] 26)
/-- An input in its variable. -/
abbrev inkT (b : Nat) (x : Inp) : Th := blkT b (.cells #[.bool x.mrk, .int .i64 x.e.t, .int .i64 x.e.k, .int .i64 x.e.v, .int .u64 x.e.l] 31)
theorem St.opAt {w : World} {v : Value} {os : List Oq} (h : St W0 w us) (hm : opT v os ∈ us) : OpsIn w v os := by
  obtain ⟨F, h1, _⟩ := h.mem hm
  exact h1.1
theorem St.qvAt {w : World} {v : Value} {is : List Inp} (h : St W0 w us) (hm : inl v is ∈ us) : Qv w v is ∧ Labl is := by
  obtain ⟨F, h1, _⟩ := h.mem hm
  exact ⟨h1.1, h1.2.1⟩
theorem St.rwAt {w : World} {v : Value} {R : List Pn} (h : St W0 w us) (hm : rwl v R ∈ us) : w.ownsRow 0 39 5 v R.length (rcs R) := by
  obtain ⟨F, h1, _⟩ := h.mem hm
  exact h1.1
theorem Ink.setl {w : World} {b : Nat} {x : Inp} (h : Ink w b x) (l : Nat) : Ink (w.setCell ⟨b, 4, none⟩ (.int .u64 (l : Int))) b ⟨x.mrk, ⟨x.e.t, x.e.k, x.e.v, l⟩⟩ := by
  unfold Ink at *; simp [World.setCell, Array.getElem?_modify, h]
/-- The kept pipe, made. -/
theorem kpipe_st (ao : Option Addr) (lo co : Nat) (an : Option Addr) (ln cn : Nat) (n s a k f : Int) (w : World) (hS : St W0 w us) (ho : Ints w ao lo co) (hn : Ints w an ln cn) :
    Calls Try.prog 16 #[kv (.slice ao lo co) (.slice an ln cn) n s a k f] w fun e w' => ∃ (p : Pq) (ua : Option Addr) (uc : Nat), Small p ∧ e = .returned (O.pv (.slice ua p.os.length uc) p.n p.s p.a p.k p.f) ∧ St W0 w' (opT (.slice ua p.os.length uc) p.os :: us) ∧ Below w.heap.size w w' := by
  refine (O.keep_any ao lo co an ln cn n s a k f w ho hn).mono ?_
  rintro e w' ⟨p, u, hs, rfl, hu, _, hb⟩
  obtain ⟨ua, uc, rfl⟩ := own_len hu
  exact ⟨p, ua, uc, hs, rfl, hS.new (F := fun k => (Value.slice ua p.os.length uc).ownBlock = some k) hb ⟨⟨O.own_base hu (Nat.zero_le _), (small_new hs).2.2.1⟩, fun k => Iff.rfl⟩ (fun k hk => (hu.lt k hk).1), hb⟩
/-- The inputs, made. -/
theorem inputs_st (la : Option Addr) (ll lc : Nat) (w : World) (hS : St W0 w us) (hI : Ins4 w la ll lc) :
    Calls Try.prog 27 #[.slice la ll lc] w fun e w' => ∃ (is : List Inp) (ia : Option Addr) (ic : Nat), e = .returned (.slice ia is.length ic) ∧ is.length ≤ 25 ∧ (∀ i ∈ is, Good i) ∧ St W0 w' (inl (.slice ia is.length ic) is :: us) := by
  refine (inputs_is la ll lc w hI).mono ?_
  rintro e w' ⟨u, is, rfl, hl, hG, hu, hb⟩
  obtain ⟨ia, ic, rfl⟩ := own_len hu
  exact ⟨is, ia, ic, rfl, hl, hG, hS.newl hb (qv_own hu) (fun i hi => (hG i hi).lt) (fun k hk => (hu.lt k hk).1)⟩
end
end Go.Proofs.Ytnamjnopicghhaa
/- Lists of plain numbers that came in; a slot of a list of inputs of the call's own, of rows. -/
namespace Go.Proofs.Ytnamjnopicghhaa
open Go.RowKit M
set_option linter.unusedVariables false
set_option linter.unusedSimpArgs false

/-- A slice of uint64s that came in. -/
def IsU64s (w : World) (a : Option Addr) (len cap : Nat) : Prop :=
  len ≤ 9223372036854775807 ∧ cap ≤ 9223372036854775807 ∧ len ≤ cap ∧ ∀ k, k < len → ∃ b off x, a = some ⟨b, off, none⟩ ∧ b < w.heap.size ∧ w.cell? ⟨b, off + k, none⟩ = some (.int .u64 ((x : Nat) : Int)) ∧ x < 18446744073709551616
theorem IsU64s.below {w w' : World} {a : Option Addr} {len cap B : Nat} (h : IsU64s w a len cap) (hb : Below B w w') (hB : w.heap.size ≤ B) (hs : w.heap.size ≤ w'.heap.size) : IsU64s w' a len cap := by
  obtain ⟨h1, h2, h3, h4⟩ := h
  refine ⟨h1, h2, h3, fun k hk => ?_⟩
  obtain ⟨b, off, x, rfl, hl, hc, hx⟩ := h4 k hk
  exact ⟨b, off, x, rfl, Nat.lt_of_lt_of_le hl hs, (hb.cell (p := ⟨b, off + k, none⟩) (Nat.lt_of_lt_of_le hl hB)).trans hc, hx⟩
section
variable {H : Type} {enc : TypeId × Value → H}
theorem open_u64s {W : World} {fuel : Nat} {a : Option Addr} {len cap : Nat} {x : DataW H × List MemPlace}
    (h : DataW.trod enc Try.prog W 0 (fun _ => true) true fuel 75 [.slice a len cap] = some x) : IsU64s W a len cap := by
  rcases Deep.open_slice Try.underlying75 h with ⟨hcs, _⟩ | ⟨ad, l, c, m, n, D, Pl, hcs, _, hl, hm, hmm, _, hcell⟩
  · simp at hcs
    obtain ⟨rfl, rfl, rfl⟩ := hcs
    exact ⟨by decide, by decide, by decide, fun k hk => absurd hk (Nat.not_lt_zero _)⟩
  · simp at hcs
    obtain ⟨rfl, rfl, rfl⟩ := hcs
    simp at hmm
    subst hmm
    unfold maxLen at hm
    have hx : ∀ i, i < m → ∃ z : Nat, W.cell? (ad.add i) = some (.int .u64 ((z : Nat) : Int)) ∧ z < 18446744073709551616 := fun i hi => by
      obtain ⟨cs', hc, ht⟩ := hcell i hi
      rw [Try.cells27] at hc
      obtain ⟨_, hlen, hce⟩ := World.cells?_some hc
      obtain ⟨z, rfl, -, wz⟩ := DataW.trod_int Try.underlying27 ht
      obtain ⟨y, rfl, hy⟩ := wf_nat wz
      have e0 := hce 0 (by omega)
      rw [Deep.add_add] at e0
      exact ⟨y, by simpa using e0, hy⟩
    refine ⟨by omega, by omega, hl, fun k hk => ?_⟩
    obtain ⟨z0, h0, _⟩ := hx 0 (by omega)
    obtain ⟨b, off, rfl⟩ := plain_addr h0
    obtain ⟨z, hz, hzl⟩ := hx k (by omega)
    rw [Addr.add_lit] at hz
    exact ⟨b, off, z, rfl, World.block_lt_of_cell? W _ hz, hz, hzl⟩
end
section
variable {W0 w : World} {us : List Th}
theorem St.inAt {v : Option Addr} {n c : Nat} {is : List Inp} (h : St W0 w us) (hm : inl (.slice v n c) is ∈ us) (j : Nat) (hj : j < is.length) : ∃ g off, v = some ⟨g, off, none⟩ ∧ InAt w g (off + j * 5) (iAt is j) := by
  obtain ⟨hq, _⟩ := h.qvAt hm
  have hq' := hq
  rcases hq with ⟨_, rfl⟩ | ⟨g, off, cap, cur, e, _⟩
  · simp at hj
  · cases e
    exact ⟨g, off, rfl, hq'.inat j hj⟩
theorem St.rowAt {v : Option Addr} {n c : Nat} {R : List Pn} (h : St W0 w us) (hm : rwl (.slice v n c) R ∈ us) (j : Nat) (hj : j < R.length) : ∃ g off, v = some ⟨g, off, none⟩ ∧ RwAt w g (off + j * 5) (pAt R j) := by
  obtain ⟨_, ao, cap, e, _, _, hc⟩ := rdr_own (h.rwAt hm)
  obtain ⟨b, off, rfl, _, h2⟩ := hc (by omega)
  cases e
  exact ⟨b, off, rfl, h2 j hj⟩
end
end Go.Proofs.Ytnamjnopicghhaa
/- Rows behind a list of rows of the call's own, as a thing. -/
namespace Go.Proofs.Ytnamjnopicghhaa
open Go.RowKit M
open O.MO (Oq Pq rightP)
set_option linter.unusedVariables false
set_option linter.unusedSimpArgs false

theorem wpList_append_rows {W0 w : World} {us : List Th} {ops : Array Oper} {rest : List Oper} {o : Oper} {a : Act} {Q : Exit → Act → World → Prop} (hw : Region.wanted o (yielded ops a.tmps) = true) (s x : Operand)
    (ho : o.op = .call { callee := .builtin .append, args := #[s, x], argTypes := #[34, 34] })
    (v : Value) (R : List Pn) (hs : a.eval s = v) (hS : St W0 w (rwl v R :: us)) (u : Value) (R2 : List Pn) (hx : a.eval x = u) (hR2 : w.ownsRow 0 39 5 u R2.length (rcs R2))
    (hl : R.length + R2.length ≤ 1000000) (R3 : List Pn) (n : Nat) (h3 : R ++ R2 = R3) (hn : R3.length = n)
    (h : ∀ a1 x1 w', St W0 w' (rwl (.slice a1 n x1) R3 :: us) → wpList Try.prog ops Q rest (a.put o.dst (.slice a1 n x1)) w') : wpList Try.prog ops Q (o :: rest) a w := by
  subst h3 hn
  obtain ⟨i0, hi, hz0, hz1, hz2⟩ := info_parts Try.info39
  refine wpList_append_srcF w hw s x 34 ho 5 0 39 i0 rzero 40 Try.underlying34 hi hz0 hz1 hz2 rfl (by decide) v R.length (rcs R) hs hS.rw u R2.length (rcs R2) hx (srcN_own hR2) (rcs_one _) (by unfold maxLen; omega) (by omega) (by omega) ?_
  intro v' w' hq _ hg hf
  have hq' : w'.ownsRow 0 39 5 v' (R ++ R2).length (rcs (R ++ R2)) := by rw [rcs_append, List.length_append]; exact hq
  obtain ⟨a1, x1, rfl⟩ := own_len' hq'
  exact h a1 x1 w' (hS.growr hq' hg hf)
theorem ints_at {w w' : World} {a : Option Addr} {l c : Nat} (h : O.Ints w a l c) (hb : Below w.heap.size w w') (k : Nat) (hk : k < l) : ∃ b off n, a = some ⟨b, off, none⟩ ∧ w'.cell? ⟨b, off + k, none⟩ = some (.int .i64 n) := by
  obtain ⟨b, off, n, e, hl, hc⟩ := h.2.2.2 k hk
  exact ⟨b, off, n, e, (hb.cell (p := ⟨b, off + k, none⟩) hl).trans hc⟩
end Go.Proofs.Ytnamjnopicghhaa
/- Calls that came in, an append among operations whose order is open, a part of rows, the document's own rows. -/
namespace Go.Proofs.Ytnamjnopicghhaa
open Go.RowKit M
open O (Small Ints kv Kpk Pik)
open O.MO (Oq Pq rightP)
set_option linter.unusedVariables false
set_option linter.unusedSimpArgs false
attribute [local go_sem ↓] Go.wp_at_zero Go.wp_at_succ

/-- A call: its kind, two numbers, an input. -/
structure Ask where
  (kd n m : Int) (x : Inp)
def AskAt (w : World) (b o : Nat) (q : Ask) : Prop :=
  w.cell? ⟨b, o, none⟩ = some (.int .i64 q.kd) ∧ w.cell? ⟨b, o + 1, none⟩ = some (.int .i64 q.n) ∧ w.cell? ⟨b, o + 2, none⟩ = some (.int .i64 q.m) ∧ w.cell? ⟨b, o + 3, none⟩ = some (.bool q.x.mrk) ∧
  w.cell? ⟨b, o + 4, none⟩ = some (.int .i64 q.x.e.t) ∧ w.cell? ⟨b, o + 5, none⟩ = some (.int .i64 q.x.e.k) ∧ w.cell? ⟨b, o + 6, none⟩ = some (.int .i64 q.x.e.v) ∧ w.cell? ⟨b, o + 7, none⟩ = some (.int .u64 q.x.e.l)
theorem AskAt.keep {w w' : World} {b o : Nat} {q : Ask} (h : AskAt w b o q) (hb : w'.heap[b]? = w.heap[b]?) : AskAt w' b o q := by
  have hc : ∀ p : Addr, p.block = b → w'.cell? p = w.cell? p := fun p hp => World.cell?_of_block (w := w) (by rw [hp]; exact hb)
  obtain ⟨e0, e1, e2, e3, e4, e5, e6, e7⟩ := h
  exact ⟨(hc _ rfl).trans e0, (hc _ rfl).trans e1, (hc _ rfl).trans e2, (hc _ rfl).trans e3, (hc _ rfl).trans e4, (hc _ rfl).trans e5, (hc _ rfl).trans e6, (hc _ rfl).trans e7⟩
/-- Calls that came in. -/
def IsAsks (w : World) (a : Option Addr) (len cap : Nat) : Prop :=
  len ≤ 9223372036854775807 ∧ cap ≤ 9223372036854775807 ∧ len ≤ cap ∧ ∀ k, k < len → ∃ b off q, a = some ⟨b, off, none⟩ ∧ b < w.heap.size ∧ AskAt w b (off + k * 8) q ∧ q.x.e.l < 18446744073709551616 ∧ (Lit.int .i64 q.n).wf = true ∧ (Lit.int .i64 q.m).wf = true
theorem IsAsks.at {w w' : World} {a : Option Addr} {l c : Nat} (h : IsAsks w a l c) (hb : Below w.heap.size w w') (k : Nat) (hk : k < l) : ∃ b off q, a = some ⟨b, off, none⟩ ∧ AskAt w' b (off + k * 8) q ∧ q.x.e.l < 18446744073709551616 ∧ (Lit.int .i64 q.n).wf = true ∧ (Lit.int .i64 q.m).wf = true := by
  obtain ⟨b, off, q, e, hl, hc, r⟩ := h.2.2.2 k hk
  exact ⟨b, off, q, e, hc.keep (hb.block b hl), r⟩
section
open Go.ChangeShapes Go.WideShapes Go.ChangeAt Go.Joins
variable {H : Type} {enc : TypeId × Value → H}
theorem Try.cells58 : Try.prog.cellsOf 58 = 8 := by kernel_rfl
set_option maxRecDepth 100000 in
theorem open_asks {W : World} {fuel : Nat} {a : Option Addr} {len cap : Nat} {x : DataW H × List MemPlace}
    (h : DataW.trod enc Try.prog W 0 (fun _ => true) true fuel 54 [.slice a len cap] = some x) : IsAsks W a len cap := by
  rcases Deep.open_slice Try.underlying54 h with ⟨hcs, _⟩ | ⟨ad, l, c, m, n, D, Pl, hcs, _, hl, hm, hmm, _, hcell⟩
  · simp at hcs
    obtain ⟨rfl, rfl, rfl⟩ := hcs
    exact ⟨by decide, by decide, by decide, fun k hk => absurd hk (Nat.not_lt_zero _)⟩
  · simp at hcs
    obtain ⟨rfl, rfl, rfl⟩ := hcs
    simp at hmm
    subst hmm
    unfold maxLen at hm
    have hx : ∀ i, i < m → ∃ q : Ask, W.cell? (ad.add (i * 8)) = some (.int .i64 q.kd) ∧ W.cell? (ad.add (i * 8 + 1)) = some (.int .i64 q.n) ∧ W.cell? (ad.add (i * 8 + 2)) = some (.int .i64 q.m) ∧ W.cell? (ad.add (i * 8 + 3)) = some (.bool q.x.mrk) ∧ W.cell? (ad.add (i * 8 + 4)) = some (.int .i64 q.x.e.t) ∧ W.cell? (ad.add (i * 8 + 5)) = some (.int .i64 q.x.e.k) ∧ W.cell? (ad.add (i * 8 + 6)) = some (.int .i64 q.x.e.v) ∧ W.cell? (ad.add (i * 8 + 7)) = some (.int .u64 q.x.e.l) ∧ q.x.e.l < 18446744073709551616 ∧ (Lit.int .i64 q.n).wf = true ∧ (Lit.int .i64 q.m).wf = true := fun i hi => by
      obtain ⟨cs', hc, ht⟩ := hcell i hi
      rw [Try.cells58] at hc
      obtain ⟨_, hlen, hce⟩ := World.cells?_some hc
      obtain ⟨z0, z1, z2, z3, n1, _, _, i0, i1, i2, i3⟩ := trod_struct4 Try.underlying58 ht
      match cs', hlen with
      | [k0, k1, k2, c0, c1, c2, c3, c4], _ =>
        have u0 := hce 0 (by omega)
        have u1 := hce 1 (by omega)
        have u2 := hce 2 (by omega)
        have e0 := hce 3 (by omega)
        have e1 := hce 4 (by omega)
        have e2 := hce 5 (by omega)
        have e3 := hce 6 (by omega)
        have e4 := hce 7 (by omega)
        rw [Deep.add_add] at u0 u1 u2 e0 e1 e2 e3 e4
        simp [Try.cells3, Try.cells31] at i0 i1 i2 i3
        obtain ⟨xs, n', _, _, hl2, hlen2, hff⟩ := DataW.trod_struct Try.underlying31 i3
        have f0 := hff 0 _ rfl
        have f1 := hff 1 _ rfl
        have hx2 : xs.length = 2 := hlen2
        obtain ⟨x0, x1, rfl⟩ : ∃ x0 x1, xs = [x0, x1] := by
          match xs, hx2 with
          | [a, b], _ => exact ⟨a, b, rfl⟩
        have g0 : DataW.trod enc Try.prog W 0 (fun _ => true) true n' 4 (List.take (Try.prog.cellsOf 4) (List.drop 0 [c0, c1, c2, c3, c4])) = some x0 := f0
        have g1 : DataW.trod enc Try.prog W 0 (fun _ => true) true n' 29 (List.take (Try.prog.cellsOf 29) (List.drop 1 [c0, c1, c2, c3, c4])) = some x1 := f1
        rw [Try.cells4] at g0
        rw [Try.cells29] at g1
        simp only [List.drop_zero, List.take_succ_cons, List.take_zero, List.drop_succ_cons] at g0 g1
        obtain ⟨y0, y1, y2, y3, n2, _, _, h0, h1, h2, h3⟩ := trod_struct4 Try.underlying29 g1
        simp [Try.cells3, Try.cells27] at h0 h1 h2 h3
        obtain ⟨b0, q9, -⟩ := DataW.trod_bool Try.underlying4 g0
        obtain ⟨a0, q0, -, w0⟩ := DataW.trod_int Try.underlying3 h0
        obtain ⟨a1, q1, -, w1⟩ := DataW.trod_int Try.underlying3 h1
        obtain ⟨a2, q2, -, w2⟩ := DataW.trod_int Try.underlying3 h2
        obtain ⟨a3, q3, -, w3⟩ := DataW.trod_int Try.underlying27 h3
        obtain ⟨j0, p0, -, v0⟩ := DataW.trod_int Try.underlying3 i0
        obtain ⟨j1, p1, -, v1⟩ := DataW.trod_int Try.underlying3 i1
        obtain ⟨j2, p2, -, v2⟩ := DataW.trod_int Try.underlying3 i2
        obtain ⟨l9, rfl, hl9⟩ := wf_nat w3
        simp only [List.cons.injEq, and_true] at q0 q1 q2 q3 q9 p0 p1 p2
        subst q0 q1 q2 q3 q9 p0 p1 p2
        exact ⟨⟨j0, j1, j2, ⟨b0, ⟨a0, a1, a2, l9⟩⟩⟩, by simpa using u0, by simpa using u1, by simpa using u2, by simpa using e0, by simpa using e1, by simpa using e2, by simpa using e3, by simpa using e4, hl9, v1, v2⟩
    refine ⟨by omega, by omega, hl, fun k hk => ?_⟩
    obtain ⟨_, h0, _⟩ := hx 0 (by omega)
    rw [Nat.zero_mul] at h0
    obtain ⟨b, off, rfl⟩ := plain_addr h0
    obtain ⟨q, e0, e1, e2, e3, e4, e5, e6, e7, r⟩ := hx k (by omega)
    rw [Addr.add_lit] at e0 e1 e2 e3 e4 e5 e6 e7
    exact ⟨b, off, q, rfl, World.block_lt_of_cell? W _ e0, ⟨e0, by rw [Nat.add_assoc]; exact e1, by rw [Nat.add_assoc]; exact e2, by rw [Nat.add_assoc]; exact e3, by rw [Nat.add_assoc]; exact e4, by rw [Nat.add_assoc]; exact e5, by rw [Nat.add_assoc]; exact e6, by rw [Nat.add_assoc]; exact e7⟩, r⟩
end
/-- A call in its variable. -/
abbrev askT (b : Nat) (q : Ask) : Th := blkT b (.cells #[.int .i64 q.kd, .int .i64 q.n, .int .i64 q.m, .bool q.x.mrk, .int .i64 q.x.e.t, .int .i64 q.x.e.k, .int .i64 q.x.e.v, .int .u64 q.x.e.l] 58)
def Akk (w : World) (b : Nat) (q : Ask) : Prop := w.heap[b]? = some (.cells #[.int .i64 q.kd, .int .i64 q.n, .int .i64 q.m, .bool q.x.mrk, .int .i64 q.x.e.t, .int .i64 q.x.e.k, .int .i64 q.x.e.v, .int .u64 q.x.e.l] 58 (0, 0))
theorem Akk.c {w : World} {b : Nat} {q : Ask} (h : Akk w b q) : AskAt w b 0 q := by
  unfold Akk at h
  exact ⟨by simp [World.cell?, h], by simp [World.cell?, h], by simp [World.cell?, h], by simp [World.cell?, h], by simp [World.cell?, h], by simp [World.cell?, h], by simp [World.cell?, h], by simp [World.cell?, h]⟩
section
variable {W0 w : World} {us : List Th}
theorem RdI.lab {w : World} {v : Value} {qb : Nat} {is : List Inp} (h : RdI w v qb is) : Labl is := h.2.1
/-- An append to a list among the things, where the order is open. -/
theorem step_append_St {ops : Array Oper} {o : Oper} {a : Act} {K : Act → World → Prop} {Q : Exit → Act → World → Prop} {E : Prop} {kd : Nat} (hd : o.dst = some kd) (hgd : o.guard = none) (s x : Operand)
    (ho : o.op = .call { callee := .builtin .append, args := #[s, x], argTypes := #[44, 44] })
    (v : Value) (is : List Inp) (hs : a.eval s = v) (hS : St W0 w (inl v is :: us)) (u : Value) (qb : Nat) (js : List Inp) (hx : a.eval x = u) (hu : RdI w u qb js) (hl : is.length + js.length ≤ 1000000)
    (h : ∀ v' w', St W0 w' (inl v' (is ++ js) :: us) → K (a.put (some kd) v') w') :
    if Region.wanted o (yielded ops a.tmps) = true then Oper.wp Try.prog o a w K Q else E := by
  have hw : Region.wanted o (yielded ops a.tmps) = true := by simp [Region.wanted, hgd]
  rw [if_pos hw]
  rw [← hd] at h
  obtain ⟨v', w', hr, h2, h3, h4⟩ := run_append_q w o.type v is hS.qv.1 u qb js hu hl
  unfold Oper.wp execOp
  simp only [ho, resolve, invoke, builtin, Sem.run_bind, Sem.run_pure, Result.andThen_ok, List.map_toArray, List.map_cons, List.map_nil, hs, hx, hr]
  exact h v' w' (hS.grow h2 (hS.qv.2.app hu.lab) h3 h4)
theorem St.newlit (h : St W0 w us) (is : List Inp) (hl : is.length ≤ 1000) (hb : Labl is) : St W0 (w.alloc (.cells (ins is).toArray 31)) (inl (.slice (some ⟨w.heap.size, 0, none⟩) is.length is.length) is :: us) :=
  h.newl (below_alloc _ _) (qv_lit w is hl) hb (fun k hk => by simp only [Value.ownBlock, Option.some.injEq] at hk; omega)
/-- An event in its variable. -/
abbrev evT (b : Nat) (e : Ev) : Th := blkT b (.cells #[.int .i64 e.t, .int .i64 e.k, .int .i64 e.v, .int .u64 e.l] 29)
theorem Try.size29 : (Try.prog.info? 29).map (·.size) = some 4 := by kernel_rfl
/-- A whole event is stored into its variable. -/
theorem wpList_store_E {ops : Array Oper} {rest : List Oper} {o : Oper} {a : Act} {Q : Exit → Act → World → Prop} (hgd : o.guard = none) (x y : Operand) (ho : o.op = .store 29 x y)
    (b : Nat) (i0 i1 : Ev) (hx : a.eval x = .pointer (some ⟨b, 0, none⟩)) (hy : a.eval y = .agg #[.int .i64 i1.t, .int .i64 i1.k, .int .i64 i1.v, .int .u64 i1.l]) (hS : St W0 w (evT b i0 :: us))
    (h : ∀ W, St W0 W (evT b i1 :: us) → wpList Try.prog ops Q rest (a.put o.dst undef) W) : wpList Try.prog ops Q (o :: rest) a w := by
  have hK := hS.blk
  refine wpList_store_row hgd 29 x y ho b _ hx hy 29 _ hK Try.size29 rfl (all_oneCell_toArray (cs := [.int .i64 i1.t, .int .i64 i1.k, .int .i64 i1.v, .int .u64 i1.l]) (fun v hv => by simp only [List.mem_cons, List.not_mem_nil, or_false] at hv; rcases hv with rfl | rfl | rfl | rfl <;> rfl)) (h _ ?_)
  obtain ⟨F, h1, _, h2⟩ := hS.act
  refine h2 _ _ F ⟨setRow_heap w b _ _ 29 _ hK, h1.2⟩ (fun k hk => .inl hk) ⟨rfl, rfl, rfl, by simp, fun k hl hk => setRow_other w b k _ (fun e => hk ((h1.2 k).2 e))⟩
theorem St.evAt {b : Nat} {e : Ev} (h : St W0 w us) (hm : evT b e ∈ us) : Evk w b e := h.blkAt hm
theorem St.ikAt {b : Nat} {i : Inp} (h : St W0 w us) (hm : inkT b i ∈ us) : Ink w b i := h.blkAt hm
theorem St.pkAt {b : Nat} {v : Value} {p : Pq} (h : St W0 w us) (hm : pkT b v p ∈ us) : O.Pik w b v p.n p.s p.a p.k p.f := h.blkAt hm
theorem St.akAt {b : Nat} {q : Ask} (h : St W0 w us) (hm : askT b q ∈ us) : Akk w b q := h.blkAt hm
/-- A list of no inputs, of one: a literal among operations whose order is open. -/
theorem step_lit0 {ops : Array Oper} {o : Oper} {a : Act} {K : Act → World → Prop} {Q : Exit → Act → World → Prop} {E : Prop} {kd : Nat} (hd : o.dst = some kd) (hgd : o.guard = none)
    (ho : o.op = .buildSlice 44 0 #[]) (hS : St W0 w us)
    (h : ∀ g w', St W0 w' (inl (.slice (some ⟨g, 0, none⟩) 0 0) [] :: us) → K (a.put (some kd) (.slice (some ⟨g, 0, none⟩) 0 0)) w') :
    if Region.wanted o (yielded ops a.tmps) = true then Oper.wp Try.prog o a w K Q else E := by
  have hw : Region.wanted o (yielded ops a.tmps) = true := by simp [Region.wanted, hgd]
  rw [if_pos hw]
  have h2 := h w.heap.size _ (hS.newlit [] (by decide) Labl.nil)
  unfold Oper.wp execOp
  simp only [ho, hd]
  go_simp
  exact h2
theorem step_lit1 {ops : Array Oper} {o : Oper} {a : Act} {K : Act → World → Prop} {Q : Exit → Act → World → Prop} {E : Prop} {kd : Nat} (hd : o.dst = some kd) (hgd : o.guard = none) (x : Operand)
    (ho : o.op = .buildSlice 44 1 #[(0, x)]) (i : Inp) (hx : a.eval x = inv i) (hS : St W0 w us) (hl : Labl [i])
    (h : ∀ g w', St W0 w' (inl (.slice (some ⟨g, 0, none⟩) 1 1) [i] :: us) → K (a.put (some kd) (.slice (some ⟨g, 0, none⟩) 1 1)) w') :
    if Region.wanted o (yielded ops a.tmps) = true then Oper.wp Try.prog o a w K Q else E := by
  have hw : Region.wanted o (yielded ops a.tmps) = true := by simp [Region.wanted, hgd]
  rw [if_pos hw]
  have h2 := h w.heap.size _ (hS.newlit [i] (by simp) hl)
  unfold Oper.wp execOp
  simp only [ho, hd, List.map_toArray, List.map_cons, List.map_nil, hx]
  go_simp
  exact h2
/-- Pure operations over any frame: what each yields. -/
theorem mv_op {o : Oper} {a : Act} {w : World} (x : Operand) (v : Value) (ho : o.op = .move x) (hx : a.eval x = v) : (execOp a.eval o).run Try.prog w = .ok (.value v) w := by
  unfold execOp
  simp only [ho, hx]
  rfl
theorem as_op {o : Oper} {a : Act} {w : World} (x : Operand) (v : Value) (ho : o.op = .assign x) (hx : a.eval x = v) : (execOp a.eval o).run Try.prog w = .ok (.value v) w := by
  unfold execOp
  simp only [ho, hx]
  rfl
theorem fa31_op {o : Oper} {a : Act} {w : World} (x : Operand) (b : Nat) (ho : o.op = .fieldAddr 31 x 0) (hx : a.eval x = .pointer (some ⟨b, 0, none⟩)) : (execOp a.eval o).run Try.prog w = .ok (.value (.pointer (some ⟨b, 0, none⟩))) w := by
  unfold execOp
  simp only [ho, hx]
  go_simp
theorem fa58_op {o : Oper} {a : Act} {w : World} (x : Operand) (b : Nat) (ho : o.op = .fieldAddr 58 x 1) (hx : a.eval x = .pointer (some ⟨b, 0, none⟩)) : (execOp a.eval o).run Try.prog w = .ok (.value (.pointer (some ⟨b, 1, none⟩))) w := by
  unfold execOp
  simp only [ho, hx]
  go_simp
theorem ld4_op {o : Oper} {a : Act} {w : World} (x : Operand) (b : Nat) (v : Bool) (ho : o.op = .load 4 x) (hx : a.eval x = .pointer (some ⟨b, 0, none⟩)) (h0 : w.cell? ⟨b, 0, none⟩ = some (.bool v)) : (execOp a.eval o).run Try.prog w = .ok (.value (.bool v)) w := by
  unfold execOp
  simp only [ho, hx]
  go_simp
theorem ld3_op {o : Oper} {a : Act} {w : World} (x : Operand) (b : Nat) (v : Int) (ho : o.op = .load 3 x) (hx : a.eval x = .pointer (some ⟨b, 1, none⟩)) (h0 : w.cell? ⟨b, 1, none⟩ = some (.int .i64 v)) : (execOp a.eval o).run Try.prog w = .ok (.value (.int .i64 v)) w := by
  unfold execOp
  simp only [ho, hx]
  go_simp
theorem ld29_op {o : Oper} {a : Act} {w : World} (x : Operand) (b : Nat) (e : Ev) (ho : o.op = .load 29 x) (hx : a.eval x = .pointer (some ⟨b, 0, none⟩)) (h0 : Evk w b e) : (execOp a.eval o).run Try.prog w = .ok (.value (.agg #[.int .i64 e.t, .int .i64 e.k, .int .i64 e.v, .int .u64 e.l])) w := by
  obtain ⟨k0, k1, k2, k3⟩ := h0.c
  unfold execOp
  simp only [ho, hx]
  go_simp
theorem ld26_op {o : Oper} {a : Act} {w : World} (x : Operand) (b : Nat) (v : Value) (n s g k f : Int) (ho : o.op = .load 26 x) (hx : a.eval x = .pointer (some ⟨b, 0, none⟩)) (h0 : O.Pik w b v n s g k f) : (execOp a.eval o).run Try.prog w = .ok (.value (O.pv v n s g k f)) w := by
  have k0 := h0.c0
  have k1 := h0.c1
  have k2 := h0.c2
  have k3 := h0.c3
  have k4 := h0.c4
  have k5 := h0.c5
  unfold execOp
  simp only [ho, hx]
  go_simp
theorem bd31_op {o : Oper} {a : Act} {w : World} (x y : Operand) (z : Inp) (ho : o.op = .build 31 #[(0, x), (1, y)]) (hx : a.eval x = .bool z.mrk) (hy : a.eval y = .agg #[.int .i64 z.e.t, .int .i64 z.e.k, .int .i64 z.e.v, .int .u64 z.e.l]) : (execOp a.eval o).run Try.prog w = .ok (.value (inv z)) w := by
  unfold execOp
  simp only [ho, List.map_toArray, List.map_cons, List.map_nil, hx, hy]
  go_simp
theorem bd31e_op {o : Oper} {a : Act} {w : World} (y : Operand) (e : Ev) (ho : o.op = .build 31 #[(1, y)]) (hy : a.eval y = .agg #[.int .i64 e.t, .int .i64 e.k, .int .i64 e.v, .int .u64 e.l]) : (execOp a.eval o).run Try.prog w = .ok (.value (inv ⟨false, e⟩)) w := by
  unfold execOp
  simp only [ho, List.map_toArray, List.map_cons, List.map_nil, hy]
  go_simp
theorem sub1_op {o : Oper} {a : Act} {w : World} (x : Operand) (l : Int) (ho : o.op = .binOp .sub 3 x (.const (.int .i64 1)) 3) (hx : a.eval x = .int .i64 l) (h0 : 0 ≤ l) (h1 : l ≤ 30) : (execOp a.eval o).run Try.prog w = .ok (.value (.int .i64 (l - 1))) w := by
  unfold execOp
  simp only [ho, hx]
  go_simp
  exact IntWalk.i64_in _ ⟨by omega, by omega⟩
theorem not_op {o : Oper} {a : Act} {w : World} (x : Operand) (b : Bool) (ho : o.op = .unOp .not 4 x) (hx : a.eval x = .bool b) : (execOp a.eval o).run Try.prog w = .ok (.value (.bool (!b))) w := by
  unfold execOp
  simp only [ho, hx]
  go_simp
theorem cf11 (args : Array Value) : (callFunc 11 args).run Try.prog w = .ok (.enter 11 args) w := by go_simp
theorem cf13 (args : Array Value) : (callFunc 13 args).run Try.prog w = .ok (.enter 13 args) w := by go_simp
theorem cf19 (args : Array Value) : (callFunc 19 args).run Try.prog w = .ok (.enter 19 args) w := by go_simp
/-- A call of two arguments among operations whose order is open. -/
theorem step_call2 {ops : Array Oper} {o : Oper} {a : Act} {K : Act → World → Prop} {Q : Exit → Act → World → Prop} {E : Prop} {kd : Nat} {R : Ending → World → Prop} (hd : o.dst = some kd) (hgd : o.guard = none) (fn : FuncId) (hf : ∀ args, (callFunc fn args).run Try.prog w = .ok (.enter fn args) w) (x y : Operand) (ts : Array TypeId)
    (ho : o.op = .call { callee := .value (.func fn), args := #[x, y], argTypes := ts }) (u v : Value) (hx : a.eval x = u) (hy : a.eval y = v) (hc : Calls Try.prog fn #[u, v] w R)
    (h : ∀ e w', R e w' → ∃ r, e = .returned r ∧ K (a.put (some kd) r) w') :
    if Region.wanted o (yielded ops a.tmps) = true then Oper.wp Try.prog o a w K Q else E := by
  have hw : Region.wanted o (yielded ops a.tmps) = true := by simp [Region.wanted, hgd]
  rw [if_pos hw]
  have hv : a.eval (.func fn) = .func (.func fn) #[] #[] := rfl
  unfold Oper.wp execOp
  simp only [ho, resolve, invoke, Sem.run_bind, Sem.run_pure, Result.andThen_ok, List.map_toArray, List.map_cons, List.map_nil, hx, hy, hv, Deferred.ofValue, List.append_toArray, List.append_nil, List.nil_append, List.cons_append, hf, Oper.upon_enter]
  refine hc.mono ?_
  intro e w' hR
  obtain ⟨r, rfl, hk⟩ := h e w' hR
  simp only [hd]
  exact hk
theorem nc_op {o : Oper} {a : Act} {w : World} (x : Operand) (z : Addr) (ho : o.op = .nilCheck x) (hx : a.eval x = .pointer (some z)) : (execOp a.eval o).run Try.prog w = .ok (.value (.pointer (some z))) w := by
  unfold execOp
  simp only [ho, hx]
  rfl
theorem fa49_0 {o : Oper} {a : Act} {w : World} (x : Operand) (b : Nat) (ho : o.op = .fieldAddr 49 x 0) (hx : a.eval x = .pointer (some ⟨b, 0, none⟩)) : (execOp a.eval o).run Try.prog w = .ok (.value (.pointer (some ⟨b, 0, none⟩))) w := by
  unfold execOp
  simp only [ho, hx]
  go_simp
theorem fa49_1 {o : Oper} {a : Act} {w : World} (x : Operand) (b : Nat) (ho : o.op = .fieldAddr 49 x 1) (hx : a.eval x = .pointer (some ⟨b, 0, none⟩)) : (execOp a.eval o).run Try.prog w = .ok (.value (.pointer (some ⟨b, 3, none⟩))) w := by
  unfold execOp
  simp only [ho, hx]
  go_simp
theorem fa49_3 {o : Oper} {a : Act} {w : World} (x : Operand) (b : Nat) (ho : o.op = .fieldAddr 49 x 3) (hx : a.eval x = .pointer (some ⟨b, 0, none⟩)) : (execOp a.eval o).run Try.prog w = .ok (.value (.pointer (some ⟨b, 5, none⟩))) w := by
  unfold execOp
  simp only [ho, hx]
  go_simp
theorem ld46_op {o : Oper} {a : Act} {w : World} (x : Operand) (b : Nat) (v : Value) (ho : o.op = .load 46 x) (hx : a.eval x = .pointer (some ⟨b, 3, none⟩)) (h0 : w.cell? ⟨b, 3, none⟩ = some v) : (execOp a.eval o).run Try.prog w = .ok (.value (.agg #[v])) w := by
  unfold execOp
  simp only [ho, hx]
  go_simp
theorem ld43_op {o : Oper} {a : Act} {w : World} (x : Operand) (b : Nat) (u v z : Value) (ho : o.op = .load 43 x) (hx : a.eval x = .pointer (some ⟨b, 0, none⟩)) (h0 : w.cell? ⟨b, 0, none⟩ = some u) (h1 : w.cell? ⟨b, 1, none⟩ = some v) (h2 : w.cell? ⟨b, 2, none⟩ = some z) : (execOp a.eval o).run Try.prog w = .ok (.value (.agg #[u, v, z])) w := by
  unfold execOp
  simp only [ho, hx]
  go_simp
theorem ld35_op {o : Oper} {a : Act} {w : World} (x : Operand) (b : Nat) (v : Int) (ho : o.op = .load 3 x) (hx : a.eval x = .pointer (some ⟨b, 5, none⟩)) (h0 : w.cell? ⟨b, 5, none⟩ = some (.int .i64 v)) : (execOp a.eval o).run Try.prog w = .ok (.value (.int .i64 v)) w := by
  unfold execOp
  simp only [ho, hx]
  go_simp
theorem neq_op {o : Oper} {a : Act} {w : World} (x y : Operand) (i : Int) (ho : o.op = .binOp .neq 3 x y 3) (hx : a.eval x = .int .i64 i) (hy : a.eval y = .int .i64 i) : (execOp a.eval o).run Try.prog w = .ok (.value (.bool false)) w := by
  unfold execOp
  simp only [ho, hx, hy]
  go_simp
theorem sub_op {o : Oper} {a : Act} {w : World} (x y : Operand) (i j k : Int) (ho : o.op = .binOp .sub 3 x y 3) (hx : a.eval x = .int .i64 i) (hy : a.eval y = .int .i64 j) (h : i - j = k) (hk : 0 ≤ k ∧ k ≤ 30) : (execOp a.eval o).run Try.prog w = .ok (.value (.int .i64 k)) w := by
  unfold execOp
  simp only [ho, hx, hy]
  go_simp
  exact IntWalk.i64_in _ ⟨by omega, by omega⟩
theorem pick_op {o : Oper} {a : Act} {w : World} (x y z : Operand) (v : Value) (ho : o.op = .pick x y z) (hx : a.eval x = .bool false) (hz : a.eval z = v) : (execOp a.eval o).run Try.prog w = .ok (.value v) w := by
  unfold execOp
  simp only [ho, hx, hz]
  rfl
theorem len_op44 {o : Oper} {a : Act} {w : World} (x : Operand) (ao : Option Addr) (n c : Nat) (ho : o.op = .call { callee := .builtin .len, args := #[x], argTypes := #[44] }) (hx : a.eval x = .slice ao n c) :
    (execOp a.eval o).run Try.prog w = .ok (.value (.int .i64 ((n : Nat) : Int))) w := by
  unfold execOp
  simp only [ho, resolve, invoke, builtin, Sem.run_bind, Sem.run_pure, Result.andThen_ok, List.map_toArray, List.map_cons, List.map_nil, hx]
  go_simp
theorem cf14 (args : Array Value) : (callFunc 14 args).run Try.prog w = .ok (.enter 14 args) w := by go_simp
theorem cf15 (args : Array Value) : (callFunc 15 args).run Try.prog w = .ok (.enter 15 args) w := by go_simp
theorem cf21 (args : Array Value) : (callFunc 21 args).run Try.prog w = .ok (.enter 21 args) w := by go_simp
theorem cf22 (args : Array Value) : (callFunc 22 args).run Try.prog w = .ok (.enter 22 args) w := by go_simp
theorem cf23 (args : Array Value) : (callFunc 23 args).run Try.prog w = .ok (.enter 23 args) w := by go_simp
theorem cf24 (args : Array Value) : (callFunc 24 args).run Try.prog w = .ok (.enter 24 args) w := by go_simp
theorem cf25 (args : Array Value) : (callFunc 25 args).run Try.prog w = .ok (.enter 25 args) w := by go_simp
theorem cf26 (args : Array Value) : (callFunc 26 args).run Try.prog w = .ok (.enter 26 args) w := by go_simp
/-- A call of one argument, of two, among operations whose order is open, that may be guarded. -/
theorem step_callg1 {ops : Array Oper} {o : Oper} {a : Act} {K : Act → World → Prop} {Q : Exit → Act → World → Prop} {E : Prop} {kd : Nat} {R : Ending → World → Prop} (hd : o.dst = some kd) (hw : Region.wanted o (yielded ops a.tmps) = true) (fn : FuncId) (hf : ∀ args, (callFunc fn args).run Try.prog w = .ok (.enter fn args) w) (x : Operand) (ts : Array TypeId)
    (ho : o.op = .call { callee := .value (.func fn), args := #[x], argTypes := ts }) (u : Value) (hx : a.eval x = u) (hc : Calls Try.prog fn #[u] w R)
    (h : ∀ e w', R e w' → ∃ r, e = .returned r ∧ K (a.put (some kd) r) w') :
    if Region.wanted o (yielded ops a.tmps) = true then Oper.wp Try.prog o a w K Q else E := by
  rw [if_pos hw]
  have hv : a.eval (.func fn) = .func (.func fn) #[] #[] := rfl
  unfold Oper.wp execOp
  simp only [ho, resolve, invoke, Sem.run_bind, Sem.run_pure, Result.andThen_ok, List.map_toArray, List.map_cons, List.map_nil, hx, hv, Deferred.ofValue, List.append_toArray, List.append_nil, List.nil_append, List.cons_append, hf, Oper.upon_enter]
  refine hc.mono ?_
  intro e w' hR
  obtain ⟨r, rfl, hk⟩ := h e w' hR
  simp only [hd]
  exact hk
theorem step_callg2 {ops : Array Oper} {o : Oper} {a : Act} {K : Act → World → Prop} {Q : Exit → Act → World → Prop} {E : Prop} {kd : Nat} {R : Ending → World → Prop} (hd : o.dst = some kd) (hw : Region.wanted o (yielded ops a.tmps) = true) (fn : FuncId) (hf : ∀ args, (callFunc fn args).run Try.prog w = .ok (.enter fn args) w) (x y : Operand) (ts : Array TypeId)
    (ho : o.op = .call { callee := .value (.func fn), args := #[x, y], argTypes := ts }) (u v : Value) (hx : a.eval x = u) (hy : a.eval y = v) (hc : Calls Try.prog fn #[u, v] w R)
    (h : ∀ e w', R e w' → ∃ r, e = .returned r ∧ K (a.put (some kd) r) w') :
    if Region.wanted o (yielded ops a.tmps) = true then Oper.wp Try.prog o a w K Q else E := by
  rw [if_pos hw]
  have hv : a.eval (.func fn) = .func (.func fn) #[] #[] := rfl
  unfold Oper.wp execOp
  simp only [ho, resolve, invoke, Sem.run_bind, Sem.run_pure, Result.andThen_ok, List.map_toArray, List.map_cons, List.map_nil, hx, hy, hv, Deferred.ofValue, List.append_toArray, List.append_nil, List.nil_append, List.cons_append, hf, Oper.upon_enter]
  refine hc.mono ?_
  intro e w' hR
  obtain ⟨r, rfl, hk⟩ := h e w' hR
  simp only [hd]
  exact hk
theorem len_op34 {o : Oper} {a : Act} {w : World} (x : Operand) (ao : Option Addr) (n c : Nat) (ho : o.op = .call { callee := .builtin .len, args := #[x], argTypes := #[34] }) (hx : a.eval x = .slice ao n c) :
    (execOp a.eval o).run Try.prog w = .ok (.value (.int .i64 ((n : Nat) : Int))) w := by
  unfold execOp
  simp only [ho, resolve, invoke, builtin, Sem.run_bind, Sem.run_pure, Result.andThen_ok, List.map_toArray, List.map_cons, List.map_nil, hx]
  go_simp
/-- x[:k] and x[k:], of inputs and of rows. -/
theorem slice_hd44 {o : Oper} {a : Act} {w : World} (x y : Operand) (ao : Option Addr) (n c K : Nat) (ho : o.op = .slice 44 x none (some y) none) (hx : a.eval x = .slice ao n c) (hy : a.eval y = .int .i64 ((K : Nat) : Int)) (hK : K ≤ c) (hc : c ≤ 9223372036854775807) (hnil : ao = none → c = 0) :
    (execOp a.eval o).run Try.prog w = .ok (.value (.slice ao K c)) w := by
  unfold execOp
  simp only [ho, Sem.run_bind, Sem.run_pure, Option.map_some, Option.map_none, hx, hy]
  cases ao with
  | none =>
    obtain rfl := hnil rfl
    obtain rfl : K = 0 := by omega
    go_simp
  | some z =>
    have hk : ¬ c < K := by omega
    go_simp
def tlA (ao : Option Addr) (c K : Nat) : Option Addr := if c - K = 0 then ao else ao.map (fun z => z.add (K * 5))
theorem slice_tl44 {o : Oper} {a : Act} {w : World} (x y : Operand) (ao : Option Addr) (n c K : Nat) (ho : o.op = .slice 44 x (some y) none none) (hx : a.eval x = .slice ao n c) (hy : a.eval y = .int .i64 ((K : Nat) : Int)) (hK : K ≤ n) (hn : n ≤ c) (hc : c ≤ 9223372036854775807) (hnil : ao = none → c = 0) :
    (execOp a.eval o).run Try.prog w = .ok (.value (.slice (tlA ao c K) (n - K) (c - K))) w := by
  unfold execOp tlA
  simp only [ho, Sem.run_bind, Sem.run_pure, Option.map_some, Option.map_none, hx, hy]
  cases ao with
  | none =>
    obtain rfl := hnil rfl
    obtain rfl : K = 0 := by omega
    obtain rfl : n = 0 := by omega
    go_simp
  | some z =>
    by_cases hz : c - K = 0
    · go_simp
      intro h; omega
    · go_simp
      intro h; omega
theorem slice_tl34 {o : Oper} {a : Act} {w : World} (x y : Operand) (ao : Option Addr) (n c K : Nat) (ho : o.op = .slice 34 x (some y) none none) (hx : a.eval x = .slice ao n c) (hy : a.eval y = .int .i64 ((K : Nat) : Int)) (hK : K ≤ n) (hn : n ≤ c) (hc : c ≤ 9223372036854775807) (hnil : ao = none → c = 0) :
    (execOp a.eval o).run Try.prog w = .ok (.value (.slice (tlA ao c K) (n - K) (c - K))) w := by
  unfold execOp tlA
  simp only [ho, Sem.run_bind, Sem.run_pure, Option.map_some, Option.map_none, hx, hy]
  cases ao with
  | none =>
    obtain rfl := hnil rfl
    obtain rfl : K = 0 := by omega
    obtain rfl : n = 0 := by omega
    go_simp
  | some z =>
    by_cases hz : c - K = 0
    · go_simp
      intro h; omega
    · go_simp
      intro h; omega
theorem own_cap {w : World} {B : Nat} {e : TypeId} {size n m c : Nat} {ao : Option Addr} {xs : List Value} (h : w.ownsRow B e size (.slice ao m c) n xs) : n ≤ c ∧ c ≤ 9223372036854775807 ∧ (ao = none → c = 0) := by
  obtain ⟨h1, ⟨h2, h3⟩ | ⟨g, cap, cur, h2, hb, hh, hn, hm, hs, ht⟩⟩ := h
  · cases h2; exact ⟨by omega, by decide, fun _ => rfl⟩
  · cases h2; unfold maxLen at hm; exact ⟨hn, by omega, fun h => by cases h⟩
/-- Some rows of a list of rows, as they are read. -/
theorem rdr_part {w : World} {ao : Option Addr} {n cap : Nat} {R : List Pn} (h : RdR w (.slice ao n cap) R) (F m : Nat) (hm : F + m ≤ R.length) (ao' : Option Addr) (ha : ao' = if cap - F = 0 then ao else ao.map (fun x => x.add (F * 5))) :
    RdR w (.slice ao' m (cap - F)) ((R.drop F).take m) := by
  obtain ⟨h1, ao2, cap2, e, h2, h3, h4⟩ := h
  cases e
  have hl : ((R.drop F).take m).length = m := by rw [List.length_take, List.length_drop]; omega
  refine ⟨by omega, ao', cap - F, by rw [hl], by omega, by omega, fun hn => ?_⟩
  obtain ⟨b, off, rfl, hb, hc⟩ := h4 (by omega)
  rw [if_neg (by omega)] at ha
  simp only [Option.map_some, Addr.add_lit] at ha
  refine ⟨b, off + F * 5, ha, hb, fun j hj => ?_⟩
  have h5 := hc (F + j) (by omega)
  have e1 : pAt ((R.drop F).take m) j = pAt R (F + j) := by
    unfold pAt
    rw [List.getD_eq_getElem?_getD, List.getD_eq_getElem?_getD, List.getElem?_take, if_pos (by omega), List.getElem?_drop]
  rw [e1]
  have e2 : off + F * 5 + j * 5 = off + (F + j) * 5 := by omega
  rw [e2]
  exact h5
/-- The document's own rows. -/
theorem whole_st (p : Pq) (v iv : Value) (is : List Inp) (w : World) (hS : St W0 w us) (hv : opT v p.os ∈ us) (hi : inl iv is ∈ us) (hr : rightB p.n p.s = true) (hnb : -1099511627776 ≤ p.n ∧ p.n ≤ 1099511627776) (hn : is.length ≤ 60) :
    Calls Try.prog 19 #[O.pv v p.n p.s p.a p.k p.f, iv] w fun e w' => ∃ (ua : Option Addr) (uc : Nat), e = .returned (.slice ua (rowsR p r0 is).length uc) ∧ St W0 w' (rwl (.slice ua (rowsR p r0 is).length uc) (rowsR p r0 is) :: us) := by
  obtain ⟨q, hl⟩ := hS.qvAt hi
  obtain ⟨qb, hq, hk1, hk2⟩ := q.rdi hl w.heap.size
  have hqb : qb ≤ w.heap.size := by
    cases ho : iv.ownBlock with
    | none => exact Nat.le_of_eq (hk2 ho)
    | some k =>
      have h1 := hk1 k ho
      have h2 := q.lt k ho
      omega
  refine (wwhole_is v p iv qb is w (hS.opAt hv) hr hnb hq hqb hn).mono ?_
  rintro e w' ⟨u, rfl, hu, hb⟩
  obtain ⟨ua, uc, rfl⟩ := own_len' hu
  exact ⟨ua, uc, rfl, hS.newr hb hu (Nat.le_refl _)⟩
/-- The same, with what stays. -/
theorem whole_st2 (p : Pq) (v iv : Value) (is : List Inp) (w : World) (hS : St W0 w us) (hv : opT v p.os ∈ us) (hi : inl iv is ∈ us) (hr : rightB p.n p.s = true) (hnb : -1099511627776 ≤ p.n ∧ p.n ≤ 1099511627776) (hn : is.length ≤ 60) :
    Calls Try.prog 19 #[O.pv v p.n p.s p.a p.k p.f, iv] w fun e w' => ∃ (ua : Option Addr) (uc : Nat), e = .returned (.slice ua (rowsR p r0 is).length uc) ∧ St W0 w' (rwl (.slice ua (rowsR p r0 is).length uc) (rowsR p r0 is) :: us) ∧ Below w.heap.size w w' := by
  obtain ⟨q, hl⟩ := hS.qvAt hi
  obtain ⟨qb, hq, hk1, hk2⟩ := q.rdi hl w.heap.size
  have hqb : qb ≤ w.heap.size := by
    cases ho : iv.ownBlock with
    | none => exact Nat.le_of_eq (hk2 ho)
    | some k =>
      have h1 := hk1 k ho
      have h2 := q.lt k ho
      omega
  refine (wwhole_is v p iv qb is w (hS.opAt hv) hr hnb hq hqb hn).mono ?_
  rintro e w' ⟨u, rfl, hu, hb⟩
  obtain ⟨ua, uc, rfl⟩ := own_len' hu
  exact ⟨ua, uc, rfl, hS.newr hb hu (Nat.le_refl _), hb⟩
end
end Go.Proofs.Ytnamjnopicghhaa
