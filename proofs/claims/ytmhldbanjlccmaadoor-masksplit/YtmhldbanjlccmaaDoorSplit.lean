/- MaskSplit, walked: of any set and any number it returns true, and nothing that was there is written. -/
import Derived.Test.YtmhldbanjlccmaaDoorOwn
import Derived.Deep.DeepCutAuto
import Derived.Deep.RegionLaw
import Derived.Deep.RegionHeld3
namespace Go.Proofs.YtmhldbanjlccmaaDoor
open Go.RowKit M

def us (l : List Nat) : List Value := (toI l).map (Value.int .u64)
theorem us_len (l : List Nat) : (us l).length = l.length := by simp [us, toI]
theorem us_one (l : List Nat) : ∀ u ∈ us l, u.oneCell' = true := ints_oneCell _ _
theorem us_snoc (l : List Nat) (x : Nat) : us (l ++ [x]) = us l ++ [.int .u64 x] := by simp [us, toI]
theorem rd_us {w : World} {base : Nat} {v : Value} {ns : List Nat} {e : TypeId} (h : w.ownsRow base e 1 v ns.length (us ns)) : Rd .u64 w v (toI ns) :=
  rd_own (zs := toI ns) (by rw [toI_len]; exact h)
theorem rd_vals {w : World} {base : Nat} {v : Value} {l : List Nat} {e : TypeId} (h : w.ownsRow base e 1 v l.length (vals l)) : Rd .i64 w v (toI l) :=
  rd_own (zs := toI l) (by rw [toI_len]; exact h)
theorem own_below {w w' : World} {base : Nat} {e : TypeId} {size : Nat} {v : Value} {n : Nat} {xs : List Value} (h : w.ownsRow base e size v n xs) (hb : Below w.heap.size w w') : w'.ownsRow base e size v n xs := by
  obtain ⟨h1, h | ⟨g, cap, cur, rfl, h2, hh, r⟩⟩ := h
  · exact ⟨h1, .inl h⟩
  · have hg : g < w.heap.size := (Array.getElem?_eq_some_iff.1 hh).1
    exact ⟨h1, .inr ⟨g, cap, cur, rfl, h2, (hb.block g hg).trans hh, r⟩⟩

/-- The single ones of a list of numbers. -/
def ones1 (l : List Nat) : List Nat := l.map fun k => 2 ^ k
theorem ones1_len (l : List Nat) : (ones1 l).length = l.length := by simp [ones1]
theorem ones1_snoc (l : List Nat) (x : Nat) : ones1 (l ++ [x]) = ones1 l ++ [2 ^ x] := by simp [ones1]
theorem ones1_lt (l : List Nat) (h : ∀ x ∈ l, x < 64) : ∀ y ∈ ones1 l, y < 18446744073709551616 := by
  intro y hy
  obtain ⟨k, hk, rfl⟩ := List.mem_map.1 hy
  exact two_pow_lt k (h k hk)
theorem wl_pow_all : ∀ k : Fin 64, wl (2 ^ k.val) = 0 ∧ Lib.ctz 64 (2 ^ k.val) = k.val := by decide +kernel
theorem wl_pow (k : Nat) (h : k < 64) : wl (2 ^ k) = 0 ∧ Lib.ctz 64 (2 ^ k) = k := wl_pow_all ⟨k, h⟩
theorem pow_sub (m k : Nat) (h : m.testBit k = true) : decide (2 ^ k &&& m = 2 ^ k) = true := by
  rw [decide_eq_true_iff, Nat.and_comm, and_pow, if_pos h]

theorem join_ones (m : Nat) (hm : m < 18446744073709551616) : joinL (ones1 (ids 64 m)) = m := by
  have h := ofL_ids m hm
  rw [ofL_join] at h
  have e : (toI (ids 64 m)).map bitN = ones1 (ids 64 m) := by
    unfold toI ones1
    rw [List.map_map]
    apply List.map_congr_left
    intro k hk
    exact bitN_nat k ((mem_ids _ _ _).1 hk).1
  rw [e] at h; exact h
theorem join_is (v : Value) (ns : List Nat) (w : World) (n : Int) (hv : Rd .u64 w v (toI ns)) (hlt : ∀ x ∈ ns, x < 18446744073709551616) (hn : ((joinL ns : Nat) : Int) = n) :
    Calls Tryd.prog 11 #[v] w fun e w' => e = .returned (.int .u64 n) ∧ w' = w := by rw [← hn]; exact join_any v ns w hv hlt
/-- One more, behind a list of the call's own. -/
theorem one_src (w : World) (x : Nat) : ∀ j u, ([.int .u64 (x : Int)] : List Value)[j]? = some u → (w.alloc (.cells #[.int .u64 (x : Int)] 24)).cell? ((⟨w.heap.size, 0, none⟩ : Addr).add j) = some u := by
  intro j u hj
  match j, hj with
  | 0, hj => simp at hj; subst hj; simp [Addr.add]

/-- An append onto a list of the call's own, as one step of a region that draws its order. -/
theorem step_append_own {P : Program} {ops : Array Oper} {o : Oper} {a : Act} {w : World} {K : Act → World → Prop} {Q : Exit → Act → World → Prop} {E : Prop} (hgd : o.guard = none) (s x : Operand) (t : TypeId)
    (ho : o.op = .call { callee := .builtin .append, args := #[s, x], argTypes := #[t, t] })
    (base : Nat) (e : TypeId) (i : TypeInfo) (z : Value) (size bytes : Nat) (ht : P.underlying t = some (.slice e)) (hi : P.info? e = some i) (hz : i.zero = some z)
    (hsize : i.size = size) (hby : i.bytes = bytes) (hzs : z.cells.size = size) (hsz : 0 < size)
    (v : Value) (n : Nat) (xs : List Value) (hs : a.eval s = v) (hown : w.ownsRow base e size v n xs)
    (ad : Addr) (m c : Nat) (news : List Value) (hx : a.eval x = .slice (some ad) m c) (hl : news.length = m * size) (hnews : ∀ j u, news[j]? = some u → w.cell? (ad.add j) = some u) (h1 : ∀ u ∈ news, u.oneCell' = true)
    (h63 : n + m ≤ maxLen) (hbytes : (n + m) * bytes ≤ 140737488355328) (hbase : base ≤ w.heap.size)
    (h : ∀ v' w', w'.ownsRow base e size v' (n + m) (xs ++ news) → w.grownBy w' v.ownBlock → K (a.put o.dst v') w') :
    if Region.wanted o (yielded ops a.tmps) = true then Oper.wp P o a w K Q else E := by
  have hw : Region.wanted o (yielded ops a.tmps) = true := by simp [Region.wanted, hgd]
  rw [if_pos hw]
  obtain ⟨v', w', hr, h2, h3, _⟩ := run_append_own (P := P) w base t o.type e i z size bytes ht hi hz hsize hby hzs hsz v n xs hown ad m c news hl hnews h1 h63 hbytes hbase
  unfold Oper.wp execOp
  simp only [ho, resolve, invoke, builtin, Sem.run_bind, Sem.run_pure, Result.andThen_ok, List.map_toArray, List.map_cons, List.map_nil, hs, hx, hr]
  exact h v' w' h2 h3
/-- Some of the cells of a list of the call's own, from place p on, read in a later world. -/
theorem src_own {w w' : World} {base : Nat} {g cap : Nat} {O : List Nat} (h : w.ownsRow base 24 1 (.slice (some ⟨g, 0, none⟩) O.length cap) O.length (us O)) (hg : g < w.heap.size) (hb : Below w.heap.size w w') (p : Nat) (l : List Nat) (hl : ∀ j, j < l.length → O[p + j]? = l[j]?) :
    ∀ j u, (us l)[j]? = some u → w'.cell? ((⟨g, p, none⟩ : Addr).add j) = some u := by
  intro j u hj
  have hjl : j < l.length := by
    have := (List.getElem?_eq_some_iff.1 hj).1
    rwa [us_len] at this
  rw [Addr.add_lit, hb.cell (p := ⟨g, p + j, none⟩) hg]
  have hO := hl j hjl
  have hpl : p + j < O.length := by
    rw [List.getElem?_eq_getElem hjl] at hO
    exact (List.getElem?_eq_some_iff.1 hO).1
  rw [h.cellAt (p + j) (by omega)]
  unfold us toI at hj ⊢
  rw [List.getElem?_map, List.getElem?_map] at hj ⊢
  rw [hO]; exact hj

theorem rest_below {w w1 w2 : World} (hb : Below w.heap.size w w1) (hg : w1.grownBy w2 (Value.ownBlock (.slice (some ⟨w.heap.size, 0, none⟩) 0 0))) : Below w.heap.size w w2 :=
  hb.grown hg hb.size (fun k hk => by simp [Value.ownBlock] at hk; omega)
theorem rest_own {w : World} {base : Nat} {v : Value} {a b : List Nat} {n m : Nat} (hl : (a ++ b).length = 0 + n + m) (h : w.ownsRow base 24 1 v (0 + n + m) ([] ++ us a ++ us b)) : w.ownsRow base 24 1 v (a ++ b).length (us (a ++ b)) := by
  have e : us (a ++ b) = [] ++ us a ++ us b := by simp [us, toI]
  rw [hl, e]; exact h
theorem rest_lt {O : List Nat} (h : ∀ y ∈ O, y < 18446744073709551616) (i k : Nat) : ∀ y ∈ O.take i ++ O.drop k, y < 18446744073709551616 := by
  intro y hy
  rcases List.mem_append.1 hy with hy | hy
  · exact h y (List.mem_of_mem_take hy)
  · exact h y (List.mem_of_mem_drop hy)

theorem rest_call {w : World} {base : Nat} {v : Value} {O : List Nat} {i k n m : Nat} (hl : (O.take i ++ O.drop k).length = 0 + n + m) (hlt : ∀ y ∈ O, y < 18446744073709551616) (h : w.ownsRow base 24 1 v (0 + n + m) ([] ++ us (O.take i) ++ us (O.drop k))) :
    Calls Tryd.prog 11 #[v] w fun e w' => e = .returned (.int .u64 ((joinL (O.take i ++ O.drop k) : Nat) : Int)) ∧ w' = w :=
  join_any v _ w (rd_us (rest_own hl h)) (rest_lt hlt i k)

/-- A set without one of its numbers. -/
theorem rest_facts (m i : Nat) (hm : m < 18446744073709551616) (hi : i < (ids 64 m).length) :
    joinL ((ones1 (ids 64 m)).take i ++ (ones1 (ids 64 m)).drop (i + 1)) < 18446744073709551616 ∧ (ones1 (ids 64 m)).getD i 0 < 18446744073709551616 ∧
    (decide (0 ≤ (((ids 64 m).getD i 0 : Nat) : Int) ∧ (((ids 64 m).getD i 0 : Nat) : Int) < 64) && (joinL ((ones1 (ids 64 m)).take i ++ (ones1 (ids 64 m)).drop (i + 1))).testBit (((ids 64 m).getD i 0 : Nat) : Int).toNat) = false ∧
    ((cnt (joinL ((ones1 (ids 64 m)).take i ++ (ones1 (ids 64 m)).drop (i + 1))) : Nat) : Int) = ((ids 64 m).length : Int) - 1 ∧
    decide (joinL ((ones1 (ids 64 m)).take i ++ (ones1 (ids 64 m)).drop (i + 1)) &&& m = joinL ((ones1 (ids 64 m)).take i ++ (ones1 (ids 64 m)).drop (i + 1))) = true ∧
    decide (m &&& joinL ((ones1 (ids 64 m)).take i ++ (ones1 (ids 64 m)).drop (i + 1)) = m) = false ∧
    ((joinL ((ones1 (ids 64 m)).take i ++ (ones1 (ids 64 m)).drop (i + 1)) &&& (ones1 (ids 64 m)).getD i 0 : Nat) : Int) = 0 := by
  have hsort := ids_sorted 64 m
  have hmem := fun x => mem_ids 64 m x
  have hcard : cnt m = (ids 64 m).length := rfl
  generalize ids 64 m = L at *
  have hxm : L.getD i 0 ∈ L := by rw [List.getD_eq_getElem?_getD, List.getElem?_eq_getElem hi]; exact List.getElem_mem hi
  have hspl : L = L.take i ++ L.getD i 0 :: L.drop (i + 1) := by
    rw [List.getD_eq_getElem?_getD, List.getElem?_eq_getElem hi]
    simp
  generalize hx : L.getD i 0 = x at *
  have hx64 := ((hmem x).1 hxm).1
  have hxb := ((hmem x).1 hxm).2
  have hy : (ones1 L).getD i 0 = 2 ^ x := by
    rw [← hx]
    unfold ones1
    rw [List.getD_eq_getElem?_getD, List.getElem?_map, List.getElem?_eq_getElem hi]
    simp [List.getD_eq_getElem?_getD, hi]
  have hR : (ones1 L).take i ++ (ones1 L).drop (i + 1) = ones1 (L.take i ++ L.drop (i + 1)) := by
    unfold ones1
    rw [List.map_append, List.map_take, List.map_drop]
  have hnot : x ∉ L.take i ++ L.drop (i + 1) := by
    intro h
    rw [hspl, List.pairwise_append] at hsort
    rcases List.mem_append.1 h with h | h
    · have := hsort.2.2 x h x (by simp)
      omega
    · have := (List.pairwise_cons.1 hsort.2.1).1 x h
      omega
  have hin : ∀ j, j ∈ L.take i ++ L.drop (i + 1) ↔ j ∈ L ∧ j ≠ x := by
    intro j
    constructor
    · intro h
      refine ⟨?_, fun e => hnot (e ▸ h)⟩
      rcases List.mem_append.1 h with h | h
      · exact List.mem_of_mem_take h
      · exact List.mem_of_mem_drop h
    · rintro ⟨h, hne⟩
      rw [hspl] at h
      rcases List.mem_append.1 h with h | h
      · exact List.mem_append.2 (.inl h)
      · rcases List.mem_cons.1 h with h | h
        · exact absurd h hne
        · exact List.mem_append.2 (.inr h)
  rw [hR, hy]
  have hbit : ∀ j, (joinL (ones1 (L.take i ++ L.drop (i + 1)))).testBit j = decide (j ∈ L ∧ j ≠ x) := by
    intro j
    rw [testBit_joinL]
    unfold ones1
    rw [any_pow]
    exact decide_eq_decide.2 (hin j)
  have hlt : joinL (ones1 (L.take i ++ L.drop (i + 1))) < 18446744073709551616 := by
    apply joinL_lt
    apply ones1_lt
    intro z hz
    exact ((hmem z).1 ((hin z).1 hz).1).1
  generalize joinL (ones1 (L.take i ++ L.drop (i + 1))) = r at *
  have hrx : r.testBit x = false := by rw [hbit]; simp
  have hor : r ||| 2 ^ x = m := by
    apply Nat.eq_of_testBit_eq
    intro j
    rw [Nat.testBit_or, hbit, Nat.testBit_two_pow]
    by_cases hj : x = j
    · subst hj; simp [hxb]
    · cases hb : m.testBit j
      · have : j ∉ L := fun h => by rw [((hmem j).1 h).2] at hb; cases hb
        simp [hj, this]
      · have : j ∈ L := (hmem j).2 ⟨testBit_hi m j hm hb, hb⟩
        have hne : j ≠ x := fun e => hj e.symm
        simp [this, hne]
  have hand : r &&& 2 ^ x = 0 := by rw [and_pow, hrx]; rfl
  have hc := cnt_or_and r (2 ^ x)
  rw [hor, hand, cnt_pow x hx64, cnt_zero, hcard] at hc
  refine ⟨hlt, two_pow_lt x hx64, ?_, by omega, ?_, ?_, by rw [hand]; rfl⟩
  · rw [Int.toNat_natCast, hrx, Bool.and_false]
  · rw [decide_eq_true_iff, sub_iff]
    intro j hj
    rw [← hor, Nat.testBit_or, hj]; rfl
  · rw [decide_eq_false_iff_not, sub_iff]
    intro h
    have := h x hxb
    rw [hrx] at this; cases this

set_option maxHeartbeats 2000000 in
set_option maxRecDepth 100000 in
theorem split_core (m : Nat) (at_ : Int) (w : World) (hm : m < 18446744073709551616) (hT : Tab w) :
    Calls Tryd.prog 7 #[.int .u64 m, .int .i64 at_] w fun e w' => e = .returned (.bool true) ∧ Below w.heap.size w w' := by
  obtain ⟨i0, hi, hz0, hz1, hz2⟩ := info_parts Tryd.info24
  obtain ⟨L, hL⟩ : ∃ L, Hid (L = ids 64 m) := ⟨_, rfl⟩
  have hmem : Hid (∀ x ∈ L, x < 64 ∧ m.testBit x = true) := by
    intro x hx
    rw [hL.out] at hx
    exact (mem_ids _ _ _).1 hx
  have hsort : Hid (∀ i j (hi : i < L.length) (hj : j < L.length), i < j → L[i] < L[j]) := by
    have h := ids_sorted 64 m
    rw [← hL.out] at h
    exact List.pairwise_iff_getElem.1 h
  have hL64 : L.length ≤ 64 := by rw [hL.out]; exact ids_len64 64 m (Nat.le_refl _)
  go_enter Tryd.func7, Tryd.ntmps7
  go_wp2_with fail
  refine (ids_any m w hm hT).mono ?_
  rintro e w1 ⟨vl, rfl, hl, t1⟩
  rw [← hL.out] at hl
  have hT1 := hT.below t1 hT.1
  obtain ⟨al, capl, rfl, hcl⟩ : ∃ al capl, vl = .slice al L.length capl ∧ Hid (L.length ≠ 0 → ∃ b off, al = some ⟨b, off, none⟩ ∧ ∀ j, j < L.length → w1.cell? ⟨b, off + j, none⟩ = some (.int .i64 (L.getD j 0 : Nat))) := by
    obtain ⟨_, al, capl, rfl, _, hc⟩ := rd_vals hl
    rw [toI_len] at hc
    refine ⟨al, capl, by rw [toI_len], fun h0 => ?_⟩
    obtain ⟨b, off, e, hj⟩ := hc h0
    exact ⟨b, off, e, fun j hlt => by rw [hj j hlt, toI_getD]⟩
  clear hl
  go_wp2_with fail
  go_loopw [6, 18] (fun v i wr => ∃ k : Nat, k ≤ L.length ∧ i = .int .i64 k ∧ wr.ownsRow w1.heap.size 24 1 v (ones1 (L.take k)).length (us (ones1 (L.take k))) ∧ Below w1.heap.size w1 wr) (fun _ i _ => L.length - (intOf i).toNat)
  case atStart => exact ⟨0, Nat.zero_le _, rfl, World.ownsRow_nil _ _ _ _, Below.refl _ _⟩
  case round =>
    obtain ⟨k, hk, rfl, hown, hbw⟩ := hrel
    by_cases hlt : k < L.length
    · obtain ⟨b', off', rfl, hcell⟩ := hcl.out (by omega)
      have hbl : b' < w1.heap.size := World.block_lt_of_cell? w1 _ (hcell k hlt)
      have hx : wr.cell? ⟨b', off' + k, none⟩ = some (.int .i64 ((L.getD k 0 : Nat) : Int)) := (hbw.cell (p := ⟨b', off' + k, none⟩) hbl).trans (hcell k hlt)
      have hsn : Hid (ones1 (L.take (k + 1)) = ones1 (L.take k) ++ [2 ^ (L.getD k 0)]) := by
        have h : ones1 (L.take (k + 1)) = ones1 (L.take k) ++ [2 ^ (L.getD k 0)] := by rw [take_snoc' L 0 k hlt, ones1_snoc]
        exact h
      have hmx : Hid (L.getD k 0 < 64 ∧ m.testBit (L.getD k 0) = true) := by
        refine hmem.out _ ?_
        rw [List.getD_eq_getElem?_getD, List.getElem?_eq_getElem hlt]; exact List.getElem_mem hlt
      have hpr : Hid (k ≠ 0 → wr.cell? ⟨b', off' + (k - 1), none⟩ = some (.int .i64 ((L.getD (k - 1) 0 : Nat) : Int)) ∧ L.getD (k - 1) 0 < L.getD k 0) := by
        intro h0
        refine ⟨(hbw.cell (p := ⟨b', off' + (k - 1), none⟩) hbl).trans (hcell (k - 1) (by omega)), ?_⟩
        have := hsort.out (k - 1) k (by omega) hlt (by omega)
        simpa [List.getD_eq_getElem?_getD, hlt, (show k - 1 < L.length by omega)] using this
      clear hcell
      obtain ⟨x, hxx⟩ : ∃ x, Hid (L.getD k 0 = x) := ⟨_, rfl⟩
      rw [hxx.out] at hx hsn hmx hpr
      clear hxx
      obtain ⟨hx64, hxb⟩ := hmx.out
      have hxb' : Hid (m.testBit x = true) := hxb
      clear hxb hmx
      obtain ⟨y, hy, hyl, hy0, hyw, hyc, hym⟩ : ∃ y, Hid (2 ^ x = y) ∧ y < 18446744073709551616 ∧ y ≠ 0 ∧ Hid (wl y = 0) ∧ Hid (((Lib.ctz 64 y : Nat) : Int) = (x : Int)) ∧ Hid (decide (y &&& m = y) = true) :=
        ⟨2 ^ x, rfl, two_pow_lt x hx64, by have := Nat.two_pow_pos x; omega, (wl_pow x hx64).1, congrArg (fun n : Nat => (n : Int)) (wl_pow x hx64).2, pow_sub m x hxb'.out⟩
      rw [hy.out] at hsn
      have hbn : Hid (((bitN (x : Int) : Nat) : Int) = (y : Int)) := by
        have h : ((bitN (x : Int) : Nat) : Int) = (y : Int) := by rw [bitN_nat x hx64, hy.out]
        exact h
      clear hy hxb'
      have hol : (ones1 (L.take k)).length ≤ 64 := by rw [ones1_len, List.length_take]; omega
      have hbwr : b' < wr.heap.size := Nat.lt_of_lt_of_le hbl hbw.size
      go_wp2_with fail
      refine (of1 wr x (y : Int) hbn.out).mono ?_
      rintro e w2 ⟨rfl, b2⟩
      have o2 := own_below hown b2
      have hb2 : Below w1.heap.size w1 w2 := hbw.trans (b2.mono hbw.size)
      have hT2 := hT1.below hb2 hT1.1
      have hx2 := (b2.cell (p := ⟨b', off' + k, none⟩) hbwr).trans hx
      have hpr2 : Hid (k ≠ 0 → w2.cell? ⟨b', off' + (k - 1), none⟩ = some (.int .i64 ((L.getD (k - 1) 0 : Nat) : Int)) ∧ L.getD (k - 1) 0 < x) := fun h0 =>
        ⟨(b2.cell (p := ⟨b', off' + (k - 1), none⟩) hbwr).trans (hpr.out h0).1, (hpr.out h0).2⟩
      clear hown hbw b2 hx hpr hbn
      go_wp2_with fail
      refine (only_is w2 y (x : Int) hyl hy0 hyw.out hT2 hyc.out).mono ?_
      rintro e w' ⟨rfl, he⟩; obtain rfl := he.symm; clear he
      go_wp2_with fail
      refine (below_is w2 y m true hyl hm hym.out).mono ?_
      rintro e w' ⟨rfl, he⟩; obtain rfl := he.symm; clear he
      by_cases hk0 : k = 0
      · subst hk0
        clear hpr2
        go_wp2_with (at_builtin; refine wpList_append_own _ rfl _ _ 41 rfl w1.heap.size 24 i0 (.int .u64 0) 1 8 Tryd.underlying41 hi hz0 hz1 hz2 rfl (by decide) _ _ _ rfl (o2.alloc _) ⟨w2.heap.size, 0, none⟩ 1 1 [.int .u64 (y : Int)] rfl rfl (one_src w2 y) (us_one [y]) (by unfold maxLen; omega) (by omega) (by have := hb2.size; simp; omega) ?_; intro v' w3 hown' hgrow hnn)
        have hown3 : w3.ownsRow w1.heap.size 24 1 v' (ones1 (L.take (0 + 1))).length (us (ones1 (L.take (0 + 1)))) := by
          rw [hsn.out, us_snoc, List.length_append]; exact hown'
        have hb3 : Below w1.heap.size w1 w3 := (hb2.alloc hb2.size _).grown hgrow (by have := hb2.size; simp; omega) (fun k hk => (o2.lt k hk).1)
        go_roundw
        case rel => exact ⟨0 + 1, by omega, by go_num, hown3, hb3⟩
        case measure => simp [intOf]; omega
      · obtain ⟨hpc, hpl⟩ := hpr2.out hk0
        clear hpr2
        obtain ⟨z, hz⟩ : ∃ z, Hid (L.getD (k - 1) 0 = z) := ⟨_, rfl⟩
        rw [hz.out] at hpc hpl
        obtain ⟨k', rfl⟩ : ∃ k', k = k' + 1 := ⟨k - 1, by omega⟩
        rw [Nat.add_sub_cancel] at hpc
        clear hz
        go_wp2_with (at_builtin; refine wpList_append_own _ rfl _ _ 41 rfl w1.heap.size 24 i0 (.int .u64 0) 1 8 Tryd.underlying41 hi hz0 hz1 hz2 rfl (by decide) _ _ _ rfl (o2.alloc _) ⟨w2.heap.size, 0, none⟩ 1 1 [.int .u64 (y : Int)] rfl rfl (one_src w2 y) (us_one [y]) (by unfold maxLen; omega) (by omega) (by have := hb2.size; simp; omega) ?_; intro v' w3 hown' hgrow hnn)
        have hown3 : w3.ownsRow w1.heap.size 24 1 v' (ones1 (L.take ((k' + 1) + 1))).length (us (ones1 (L.take ((k' + 1) + 1)))) := by
          rw [hsn.out, us_snoc, List.length_append]; exact hown'
        have hb3 : Below w1.heap.size w1 w3 := (hb2.alloc hb2.size _).grown hgrow (by have := hb2.size; simp; omega) (fun k hk => (o2.lt k hk).1)
        go_roundw
        case rel => exact ⟨(k' + 1) + 1, by omega, by go_num, hown3, hb3⟩
        case measure => simp [intOf]; omega
    · have : k = L.length := by omega
      subst this
      rw [List.take_length] at hown
      obtain ⟨O, hO⟩ : ∃ O, Hid (O = ones1 L) := ⟨_, rfl⟩
      have hOl : O.length = L.length := by rw [hO.out, ones1_len]
      have hOlt : Hid (∀ y ∈ O, y < 18446744073709551616) := by
        rw [hO.out]
        exact ones1_lt L fun x hx => (hmem.out x hx).1
      have hOj : Hid (((joinL O : Nat) : Int) = (m : Int)) := by
        have h : ((joinL O : Nat) : Int) = (m : Int) := by rw [hO.out, hL.out, join_ones m hm]
        exact h
      have hcn : Hid (((cnt m : Nat) : Int) = (L.length : Int)) := by
        have h : ((cnt m : Nat) : Int) = (L.length : Int) := by rw [hL.out]; rfl
        exact h
      rw [← hO.out] at hown
      have hTr := hT1.below hbw hT1.1
      have tr : Below w.heap.size w wr := t1.trans (hbw.mono t1.size)
      go_wp2_with fail
      refine (join_is _ O wr (m : Int) (rd_us hown) hOlt.out hOj.out).mono ?_
      rintro e w' ⟨rfl, he⟩; obtain rfl := he.symm; clear he
      go_wp2_with fail
      refine (count_is wr m (L.length : Int) hm hcn.out).mono ?_
      rintro e w' ⟨rfl, he⟩; obtain rfl := he.symm; clear he
      by_cases h0 : L.length = 0
      · rw [h0] at *
        go_wp2_with fail
        refine (runs_any wr hTr).mono ?_
        rintro e w9 ⟨rfl, b9⟩
        go_wp2
        go_ret
        exact ⟨rfl, tr.trans (b9.mono tr.size)⟩
      · have hpos : 0 < L.length := by omega
        obtain ⟨b', off', rfl, hcell⟩ := hcl.out h0
        obtain ⟨g, cap, hv, hgb, hgc⟩ : ∃ g cap, u6 = .slice (some ⟨g, 0, none⟩) L.length cap ∧ g < wr.heap.size ∧ L.length ≤ cap := by
          obtain ⟨_, h | ⟨g, cap, cur, hv, hb, hh, hn, _⟩⟩ := hown
          · exact absurd h.2 (by omega)
          · exact ⟨g, cap, by rw [hv, hOl], (Array.getElem?_eq_some_iff.1 hh).1, by omega⟩
        subst hv
        go_wp2_with fail
        refine (within_any at_ 0 ((L.length : Int) - 1) wr (by decide) (by omega) (by omega)).mono ?_
        rintro e w' ⟨⟨ii, i0', i1', rfl⟩, he⟩; obtain rfl := he.symm; clear he
        obtain ⟨i, rfl⟩ := Int.eq_ofNat_of_zero_le i0'
        have hil : i < L.length := by omega
        clear i0' i1'
        obtain ⟨k1, hk1⟩ : ∃ k1 : Nat, Hid (k1 = i + 1) := ⟨i + 1, rfl⟩
        go_upto_region 16 with fail
        go_cut [13] (fun z wx => z = .int .u64 ((joinL (O.take i ++ O.drop k1) : Nat) : Int) ∧ Below wr.heap.size wr wx)
        case first =>
          have q1 : i ≤ cap := by omega
          have q2 : i + 1 ≤ L.length := by omega
          have q3 : i + 1 ≤ cap := by omega
          have r0 : Hid ((wr.alloc (.cells #[] 24)).drew.ownsRow wr.heap.size 24 1 (.slice (some ⟨wr.heap.size, 0, none⟩) 0 0) 0 []) := World.ownsRow_lit wr #[] 0 (Nat.le_refl _) (by unfold maxLen; omega) (by simp)
          have rb : Hid (Below wr.heap.size wr (wr.alloc (.cells #[] 24)).drew) := (below_alloc _ _).drew
          have hownO : Hid (wr.ownsRow w1.heap.size 24 1 (.slice (some ⟨g, 0, none⟩) O.length cap) O.length (us O)) := by
            rw [hOl]; rw [hOl] at hown; exact hown
          have r1 : Hid (∀ j u, (us (O.take i))[j]? = some u → (wr.alloc (.cells #[] 24)).drew.cell? ((⟨g, 0, none⟩ : Addr).add j) = some u) :=
            src_own hownO.out hgb rb.out 0 (O.take i) (fun j hj => by rw [Nat.zero_add, List.getElem?_take_of_lt (by simp at hj; omega)])
          have r2 : Hid ((us (O.take i)).length = i * 1) := by
            have h : (us (O.take i)).length = i * 1 := by rw [us_len, List.length_take]; omega
            exact h
          have r3 : Hid ((us (O.drop (i + 1))).length = (L.length - (i + 1)) * 1) := by
            have h : (us (O.drop (i + 1))).length = (L.length - (i + 1)) * 1 := by rw [us_len, List.length_drop]; omega
            exact h
          have hwr : IntKind.i64.wrap ((i : Int) + 1) = (k1 : Int) := by rw [hk1.out, IntKind.wrap_i64]; omega
          have q4 : k1 ≤ L.length := by rw [hk1.out]; exact q2
          have q5 : k1 ≤ cap := by rw [hk1.out]; exact q3
          rw [← hk1.out] at r3
          have r4 : Hid ((O.take i ++ O.drop k1).length = 0 + i + (L.length - k1)) := by
            have h : (O.take i ++ O.drop k1).length = 0 + i + (L.length - k1) := by rw [List.length_append, List.length_take, List.length_drop]; omega
            exact h
          by_cases hcap : cap = k1
          · subst hcap
            go_region_held3 (fun _ => True) (trivial) (first
              | (refine step_append_own rfl (.tmp 81) (.tmp 84) 41 rfl wr.heap.size 24 i0 (.int .u64 0) 1 8 Tryd.underlying41 hi hz0 hz1 hz2 rfl (by decide) (.slice (some ⟨wr.heap.size, 0, none⟩) 0 0) 0 [] (by simp [Act.eval]) r0.out ⟨g, 0, none⟩ i cap (us (O.take i)) (by simp [Act.eval]) r2.out r1.out (us_one _) (by unfold maxLen; omega) (by omega) (by simp) ?_; intro v5 w5 o5 g5)
              | (refine step_append_own rfl (.tmp 85) (.tmp 89) 41 rfl wr.heap.size 24 i0 (.int .u64 0) 1 8 Tryd.underlying41 hi hz0 hz1 hz2 rfl (by decide) v5 (0 + i) ([] ++ us (O.take i)) (by simp [Act.eval]) o5 ⟨g, 0, none⟩ (L.length - cap) (cap - cap) (us (O.drop cap)) (by simp [Act.eval]; omega) r3.out (src_own hownO.out hgb (rest_below rb.out g5) 0 (O.drop cap) (fun j hj => absurd hj (by rw [List.length_drop]; omega))) (us_one _) (by unfold maxLen; omega) (by omega) (by have := (rest_below rb.out g5).size; omega) ?_; intro v9 w9 o9 g9)
              | (go_at_call 11; refine (rest_call r4.out hOlt.out o9).mono ?_; rintro e w' ⟨rfl, he⟩; obtain rfl := he.symm))
            go_wp2_with fail
            go_meet
            exact ⟨rfl, ((rest_below rb.out g5).grown g9 (rest_below rb.out g5).size (fun k hk => (o5.lt k hk).1))⟩
          · go_region_held3 (fun _ => True) (trivial) (first
              | (refine step_append_own rfl (.tmp 81) (.tmp 84) 41 rfl wr.heap.size 24 i0 (.int .u64 0) 1 8 Tryd.underlying41 hi hz0 hz1 hz2 rfl (by decide) (.slice (some ⟨wr.heap.size, 0, none⟩) 0 0) 0 [] (by simp [Act.eval]) r0.out ⟨g, 0, none⟩ i cap (us (O.take i)) (by simp [Act.eval]) r2.out r1.out (us_one _) (by unfold maxLen; omega) (by omega) (by simp) ?_; intro v5 w5 o5 g5)
              | (refine step_append_own rfl (.tmp 85) (.tmp 89) 41 rfl wr.heap.size 24 i0 (.int .u64 0) 1 8 Tryd.underlying41 hi hz0 hz1 hz2 rfl (by decide) v5 (0 + i) ([] ++ us (O.take i)) (by simp [Act.eval]) o5 ⟨g, k1, none⟩ (L.length - k1) (cap - k1) (us (O.drop k1)) (by simp [Act.eval]) r3.out (src_own hownO.out hgb (rest_below rb.out g5) k1 (O.drop k1) (fun j _ => by rw [List.getElem?_drop])) (us_one _) (by unfold maxLen; omega) (by omega) (by have := (rest_below rb.out g5).size; omega) ?_; intro v9 w9 o9 g9)
              | (go_at_call 11; refine (rest_call r4.out hOlt.out o9).mono ?_; rintro e w' ⟨rfl, he⟩; obtain rfl := he.symm))
            go_wp2_with fail
            go_meet
            exact ⟨rfl, ((rest_below rb.out g5).grown g9 (rest_below rb.out g5).size (fun k hk => (o5.lt k hk).1))⟩
        case rest =>
          obtain ⟨rfl, b5⟩ := hcut
          obtain ⟨x, hx⟩ : ∃ x, Hid (x = L.getD i 0) := ⟨_, rfl⟩
          obtain ⟨y, hy⟩ : ∃ y, Hid (y = O.getD i 0) := ⟨_, rfl⟩
          obtain ⟨r, hr⟩ : ∃ r, Hid (r = joinL (O.take i ++ O.drop k1)) := ⟨_, rfl⟩
          have hbx : b' < w1.heap.size := World.block_lt_of_cell? w1 _ (hcell i hil)
          have hlx : wc.cell? ⟨b', off' + i, none⟩ = some (.int .i64 (x : Int)) := by
            have h1 := hcell i hil
            have h2 := (hbw.cell (p := ⟨b', off' + i, none⟩) hbx).trans h1
            have h3 := (b5.cell (p := ⟨b', off' + i, none⟩) (Nat.lt_of_lt_of_le hbx hbw.size)).trans h2
            rw [hx.out]; exact h3
          have hly : wc.cell? ⟨g, i, none⟩ = some (.int .u64 (y : Int)) := by
            have h1 : wr.ownsRow w1.heap.size 24 1 (.slice (some ⟨g, 0, none⟩) O.length cap) O.length (us O) := by
              rw [hOl]; rw [hOl] at hown; exact hown
            have h2 := h1.cellAt i (by omega)
            have h3 := (b5.cell (p := ⟨g, i, none⟩) hgb).trans h2
            rw [h3, hy.out]
            unfold us toI
            rw [List.getElem?_map, List.getElem?_map, List.getD_eq_getElem?_getD, List.getElem?_eq_getElem (by omega)]
            rfl
          have hF : Hid (r < 18446744073709551616 ∧ y < 18446744073709551616 ∧ (decide (0 ≤ (x : Int) ∧ (x : Int) < 64) && r.testBit (x : Int).toNat) = false ∧ ((cnt r : Nat) : Int) = (L.length : Int) - 1 ∧ decide (r &&& m = r) = true ∧ decide (m &&& r = m) = false ∧ ((r &&& y : Nat) : Int) = 0) := by
            have h := rest_facts m i hm (by rw [← hL.out]; exact hil)
            rw [← hL.out, ← hO.out] at h
            rw [hr.out, hy.out, hx.out, hk1.out]
            exact h
          rw [← hr.out]
          have t5 : Below w.heap.size w wc := tr.trans (b5.mono tr.size)
          clear hcell hown hr hy hx hO hL hOj hOlt hcn hmem hsort hcl
          obtain ⟨hr1, hr2⟩ := hF.out
          obtain ⟨hy1, hr3⟩ := hr2
          have hr4 : Hid ((decide (0 ≤ (x : Int) ∧ (x : Int) < 64) && r.testBit (x : Int).toNat) = false ∧ ((cnt r : Nat) : Int) = (L.length : Int) - 1 ∧ decide (r &&& m = r) = true ∧ decide (m &&& r = m) = false ∧ ((r &&& y : Nat) : Int) = 0) := hr3
          clear hr3 hF
          go_wp2_with fail
          refine (has_is wc r x false hr1 hr4.out.1).mono ?_
          rintro e w' ⟨rfl, he⟩; obtain rfl := he.symm; clear he
          go_wp2_with fail
          refine (count_is wc r ((L.length : Int) - 1) hr1 hr4.out.2.1).mono ?_
          rintro e w' ⟨rfl, he⟩; obtain rfl := he.symm; clear he
          go_wp2_with fail
          refine (below_is wc r m true hr1 hm hr4.out.2.2.1).mono ?_
          rintro e w' ⟨rfl, he⟩; obtain rfl := he.symm; clear he
          go_wp2_with fail
          refine (below_is wc m r false hm hr1 hr4.out.2.2.2.1).mono ?_
          rintro e w' ⟨rfl, he⟩; obtain rfl := he.symm; clear he
          go_wp2_with fail
          refine (meet2 wc r y 0 hr1 hy1 hr4.out.2.2.2.2).mono ?_
          rintro e w6 ⟨rfl, b6⟩
          have t6 : Below w.heap.size w w6 := t5.trans (b6.mono t5.size)
          have hT6 := hT.below t6 hT.1
          go_wp2_with fail
          refine (runs_any w6 hT6).mono ?_
          rintro e w7 ⟨rfl, b7⟩
          go_wp2
          go_ret
          exact ⟨rfl, t6.trans (b7.mono t6.size)⟩

theorem wf_nat {x : Int} (h : (Lit.int .u64 x).wf = true) : ∃ n : Nat, x = (n : Int) ∧ n < 18446744073709551616 := by
  obtain ⟨h0, h1⟩ := bounds_u64 h
  exact ⟨x.toNat, by omega, by omega⟩
theorem maskSplit_walk (a0 a1 : Int) (w0 : (Lit.int .u64 a0).wf = true) (_w1 : (Lit.int .i64 a1).wf = true) (w : World) (hT : Tab w) :
    Calls Tryd.prog 7 #[.int .u64 a0, .int .i64 a1] w fun e w' => e = .returned (.bool true) ∧ Below w.heap.size w w' := by
  obtain ⟨a, rfl, ha⟩ := wf_nat w0
  exact split_core a a1 w ha hT
end Go.Proofs.YtmhldbanjlccmaaDoor
