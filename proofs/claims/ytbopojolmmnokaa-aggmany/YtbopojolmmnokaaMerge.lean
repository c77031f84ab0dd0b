/- What Merge makes of an aggregate of a list. -/
import Derived.Test.YtbopojolmmnokaaAdd
import Derived.Deep.Cut
namespace Go.Proofs.Ytbopojolmmnokaa
open Go.RowKit M
set_option linter.unusedVariables false

theorem world_gen {P : Program} {c : Code} {Q : Exit → Act → World → Prop} {a : Act} {W : World} (R : World → Prop) (h : R W) (k : ∀ W2, R W2 → c.wp P Q a W2) : c.wp P Q a W := k W h
theorem But.alloc {b : Nat} {w : World} (hb : b ≤ w.heap.size) (o : Obj) : But b w (w.alloc o) := But.ofBelow hb (below_alloc w o)
theorem But.drew {b : Nat} {w w' : World} (h : But b w w') (n : Nat) : But b w (w'.drewN n) :=
  ⟨below_drewN h.below n, by rw [World.heap_drewN]; exact h.size, fun g h1 h2 => by rw [World.heap_drewN]; exact h.other g h1 h2⟩
theorem Agk.drew {w : World} {b : Nat} {c k v : Int} (h : Agk w b c k v) (n : Nat) : Agk (w.drewN n) b c k v := by unfold Agk at *; rw [World.heap_drewN]; exact h

set_option maxHeartbeats 1000000 in
set_option maxRecDepth 100000 in
/-- Merge of an aggregate of another kind. -/
theorem merge_no (b : Nat) (k k' c v c' v' : Int) (w : World) (hc : Agk w b c k v) (hk : k ≠ k') :
    Calls Try.prog 16 #[.pointer (some ⟨b, 0, none⟩), .agg #[.int .i64 c', .int .i64 k', .int .i64 v']] w fun e w' => e = .returned (.bool false) ∧ Agk w' b c k v ∧ But b w w' := by
  have hbl := hc.lt
  go_enter Try.func16, Try.ntmps16
  go_upto_region 1 with fail
  refine world_gen (fun W => Agk W b c k v ∧ Agk W w.heap.size c' k' v' ∧ But b w W) ⟨hc.below (below_alloc w _) hbl, agk_make w c' k' v', But.alloc (Nat.le_of_lt hbl) _⟩ ?_
  clear hc
  rintro W ⟨hc, ho, hb⟩
  generalize w.heap.size = g at ho ⊢
  have c1 := hc.c1
  have d1 := ho.c1
  have hk' : (k != k') = true := by simp; exact hk
  go_wp2_with fail
  go_quiet (fail)
  go_wp2_with fail
  go_ret
  exact ⟨rfl, hc.drew _, hb.drew _⟩
set_option maxHeartbeats 1000000 in
set_option maxRecDepth 100000 in
/-- Merge of an aggregate of the same kind, of none. -/
theorem merge_nil (b : Nat) (k c v v' : Int) (w : World) (hc : Agk w b c k v) :
    Calls Try.prog 16 #[.pointer (some ⟨b, 0, none⟩), .agg #[.int .i64 0, .int .i64 k, .int .i64 v']] w fun e w' => e = .returned (.bool true) ∧ Agk w' b c k v ∧ But b w w' := by
  have hbl := hc.lt
  go_enter Try.func16, Try.ntmps16
  go_upto_region 1 with fail
  refine world_gen (fun W => Agk W b c k v ∧ Agk W w.heap.size 0 k v' ∧ But b w W) ⟨hc.below (below_alloc w _) hbl, agk_make w 0 k v', But.alloc (Nat.le_of_lt hbl) _⟩ ?_
  clear hc
  rintro W ⟨hc, ho, hb⟩
  generalize w.heap.size = g at ho ⊢
  have c1 := hc.c1
  have d0 := ho.c0
  have d1 := ho.c1
  go_wp2_with fail
  go_quiet (fail)
  go_wp2_with fail
  go_ret
  exact ⟨rfl, hc.drew _, hb.drew _⟩
set_option maxHeartbeats 1000000 in
set_option maxRecDepth 100000 in
theorem merge_some (b : Nat) (k c v c' v' c2 v2 : Int) (w : World) (hc : Agk w b c k v) (h0 : c' ≠ 0) (hv0 : jv k c v v' = v2) (hw0 : wrap64 (c + c') = c2) :
    Calls Try.prog 16 #[.pointer (some ⟨b, 0, none⟩), .agg #[.int .i64 c', .int .i64 k, .int .i64 v']] w fun e w' => e = .returned (.bool true) ∧ Agk w' b c2 k v2 ∧ But b w w' := by
  have hbl := hc.lt
  have hv : Hid (jv k c v v' = v2) := hv0
  have hw : Hid (wrap64 (c + c') = c2) := hw0
  clear hv0 hw0
  go_enter Try.func16, Try.ntmps16
  go_upto_region 1 with fail
  refine world_gen (fun W => Agk W b c k v ∧ Agk W w.heap.size c' k v' ∧ But b w W) ⟨hc.below (below_alloc w _) hbl, agk_make w c' k v', But.alloc (Nat.le_of_lt hbl) _⟩ ?_
  clear hc
  rintro W ⟨hc, ho, hb⟩
  generalize w.heap.size = g at ho ⊢
  have c1 := hc.c1
  have d0 := ho.c0
  have d1 := ho.c1
  have d2 := ho.c2
  have h0' : (c' != 0) = true := by simp; exact h0
  go_wp2_with fail
  go_quiet (fail)
  have hc' : Agk (W.drewN nq) b c k v := hc.drew _
  have hb' : But b w (W.drewN nq) := hb.drew _
  go_wp2_with fail
  refine (join_any b c k v v' c' v2 c2 _ hc' hv.out hw.out).mono ?_
  rintro e w3 ⟨rfl, k3, b3⟩
  go_wp2_with fail
  go_ret
  exact ⟨rfl, k3, hb'.trans b3⟩
/-- Merge of an aggregate of the same kind, of these values. -/
theorem merge_any (b : Nat) (k : Int) (l m : List Int) (w : World) (hc : Agl w b k l) (hl : l.length + m.length ≤ 9223372036854775807) :
    Calls Try.prog 16 #[.pointer (some ⟨b, 0, none⟩), .agg #[.int .i64 m.length, .int .i64 k, .int .i64 (val k m)]] w fun e w' => e = .returned (.bool true) ∧ Agl w' b k (l ++ m) ∧ But b w w' := by
  by_cases hm : m = []
  · subst hm
    rw [List.append_nil]
    exact merge_nil b k _ _ _ w hc
  · have hpos := len_pos hm
    unfold Agl
    refine merge_some b k _ _ _ _ _ _ w hc (by omega) (val_merge k l m hm).symm ?_
    rw [wrap_in _ (by omega), List.length_append]
    omega
theorem merge_unlike (b : Nat) (k k' : Int) (l : List Int) (c' v' : Int) (w : World) (hc : Agl w b k l) (hk : k ≠ k') :
    Calls Try.prog 16 #[.pointer (some ⟨b, 0, none⟩), .agg #[.int .i64 c', .int .i64 k', .int .i64 v']] w fun e w' => e = .returned (.bool false) ∧ Agl w' b k l ∧ But b w w' := merge_no b k k' _ _ c' v' w hc hk
end Go.Proofs.Ytbopojolmmnokaa
