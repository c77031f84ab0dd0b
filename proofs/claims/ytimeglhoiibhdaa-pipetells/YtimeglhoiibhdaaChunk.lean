/- slices.Chunk of ints by two, as what it hands to each round: the slices of two neighbours. -/
import Derived.RangeFuncNested
import Derived.RangeFuncBound
import Derived.RangeFuncCalls
import Derived.RangeFuncLeaves
import Derived.RangeFuncBox
import Derived.Shelf.Abstract
import Derived.WalkKit
import Derived.OwnWalkIn
import Derived.TacticsInMore
import Derived.LoopNIn
import Derived.LoopIn
import Derived.Maps.AppendAt
import Derived.Sort.QuietIn
import Derived.Test.YtimeglhoiibhdaaBase
namespace Go.Proofs.Ytimeglhoiibhdaa
open Go.RowKit Go.Shelf M
attribute [local go_sem] Oper.semAt_some

/-- What the iterator asks of a round: that it leaves the two boxes as they are. -/
def Kpc (Bs Bn : Nat) (A B : World) : Prop := B.cell? ⟨Bs, 0, none⟩ = A.cell? ⟨Bs, 0, none⟩ ∧ B.cell? ⟨Bn, 0, none⟩ = A.cell? ⟨Bn, 0, none⟩
theorem Kpc.trans {Bs Bn : Nat} {A B C : World} (h : Kpc Bs Bn A B) (k : Kpc Bs Bn B C) : Kpc Bs Bn A C := ⟨k.1.trans h.1, k.2.trans h.2⟩
theorem kpc_put {Bs Bn : Nat} {w : World} (h1 : Bs < w.heap.size) (h2 : Bn < w.heap.size) (W : World) (l : Nat) (o o' : Obj) (hl : w.heap.size ≤ l) (_ : W.heap[l]? = some o) (_ : o.isCells = false) (_ : o.isWalk = false) : Kpc Bs Bn W (W.putObj l o') := by
  have e : ∀ k, k < w.heap.size → (W.putObj l o').heap[k]? = W.heap[k]? := fun k hk => World.putObj_heap_other (by omega)
  constructor <;> simp only [World.cell?, e _ h1, e _ h2]
/-- What a round is handed: the two ints at 2 * k and behind it. -/
def two (b off : Nat) (k : Nat) : Value := .slice (some ⟨b, off + 2 * k, none⟩) 2 2

set_option maxRecDepth 100000 in
set_option maxHeartbeats 2000000 in
/-- slices.Chunk's closure over 2 * N ints, at least one of them. -/
theorem chunk1_in (n : Nat) (hn : 1 ≤ n) (l Bs Bn b off N cap : Nat) (hN : N ≤ 1000) (hcap : 2 * N ≤ cap) (J Jx : List (Fin N) → World → Prop) (hJ : ∀ s A m, J s A → J s (A.drewN m))
    (hY : ∀ pre x W, J pre W → pre.length < N → YieldAt Fence.wide (n - 1) Try.prog l #[two b off x.1] W fun e W' =>
      (e = .returned (.bool true) ∧ J (pre ++ [x]) W' ∧ Kpc Bs Bn W W') ∨ (e = .returned (.bool false) ∧ Jx (pre ++ [x]) W'))
    (W : World) (hBs : W.cell? ⟨Bs, 0, none⟩ = some (.slice (some ⟨b, off, none⟩) (2 * N) cap)) (hBn : W.cell? ⟨Bn, 0, none⟩ = some (.int .i64 2)) (h0 : J [] W) :
    CallsIn Fence.wide n Try.prog 44 #[.func (.yield l) #[] #[], .pointer (some ⟨Bs, 0, none⟩), .pointer (some ⟨Bn, 0, none⟩)] W fun e W' => (∃ v, e = .returned v) ∧
      ((∃ ys, ys.map Fin.val = List.range N ∧ J ys W') ∨ (∃ pre, True ∧ Jx pre W')) := by
  refine callsIn_of_wp Try.func44 rfl trivial ?_ rfl
  simp only [Try.ntmps44, List.size_toArray, List.length_cons, List.length_nil, Nat.reduceAdd, Nat.reduceSub, Array.replicate_succ, Array.replicate_zero, List.push_toArray, List.append_toArray, List.nil_append, List.cons_append]
  gi_wp2
  gi_loopw [4] (fun i wr => ∃ (k : Nat) (pre : List (Fin N)), k ≤ N ∧ i = .int .i64 ((2 * k : Nat) : Int) ∧ pre.map Fin.val = List.range k ∧ J pre wr ∧ Kpc Bs Bn W wr)
    (fun i _ => 2 * N - (intOf i).toNat)
  case atStart => exact ⟨0, [], Nat.zero_le _, rfl, rfl, h0, ⟨rfl, rfl⟩⟩
  case round =>
    obtain ⟨k, pre, hk, rfl, hpre, hJs, hnx⟩ := hrel
    have hplen : pre.length = k := by have := congrArg List.length hpre; simpa using this
    have c1 : wr.cell? ⟨Bs, 0, none⟩ = some (.slice (some ⟨b, off, none⟩) (2 * N) cap) := hnx.1.trans hBs
    have c2 : wr.cell? ⟨Bn, 0, none⟩ = some (.int .i64 2) := hnx.2.trans hBn
    by_cases hlt : k < N
    · have hYk := fun m => hY pre ⟨k, hlt⟩ (wr.drewN m) (hJ pre wr m hJs) (by omega)
      dsimp only [two] at hYk
      obtain ⟨i, hi⟩ : ∃ i, Hid (i = 2 * k) := ⟨_, rfl⟩
      rw [← hi.out] at hYk ⊢
      obtain ⟨L, hL⟩ : ∃ L, Hid (L = 2 * N) := ⟨_, rfl⟩
      rw [← hL.out] at c1 hcap
      have hiL : i < L := by have := hi.out; have := hL.out; omega
      have hiL2 : i + 2 ≤ L := by have := hi.out; have := hL.out; omega
      have hL3 : L ≤ 2000 := by have := hL.out; omega
      have hic : ¬ cap = i := by omega
      obtain ⟨D, hD⟩ : ∃ D : Nat, ((L : Nat) : Int) - ((i : Nat) : Int) = (D : Int) := ⟨L - i, by omega⟩
      have hD2 : 2 ≤ D := by omega
      gi_wp2
      gi_quiet (fail)
      have hmin : min 2 (((L - i : Nat)) : Int) = 2 := by omega
      rw [hmin]
      obtain ⟨fn, tmps, assign, body, hy, hR⟩ := hYk nq
      have d1 : (wr.drewN nq).cell? ⟨Bs, 0, none⟩ = some (.slice (some ⟨b, off, none⟩) L cap) := c1
      have d2 : (wr.drewN nq).cell? ⟨Bn, 0, none⟩ = some (.int .i64 2) := c2
      obtain ⟨W2, hW2⟩ : ∃ W2, W2 = wr.drewN nq := ⟨_, rfl⟩
      have hnx2 : Kpc Bs Bn wr W2 := by rw [hW2]; exact ⟨rfl, rfl⟩
      rw [← hW2] at hy hR d1 d2 ⊢
      clear hW2 hYk
      have hd2 : i + 2 - i = 2 := by omega
      have hic2 : ¬ i + 2 = i := by omega
      gi_wp2
      refine hR.mono ?_
      rintro e W3 (⟨rfl, hJ3, hk3⟩ | ⟨rfl, hJx3⟩)
      · have e2 : W3.cell? ⟨Bn, 0, none⟩ = some (.int .i64 2) := hk3.2.trans d2
        gi_wp2
        go_roundw
        case rel =>
          refine ⟨k + 1, pre ++ [⟨k, hlt⟩], by omega, ?_, ?_, hJ3, (hnx.trans hnx2).trans hk3⟩
          · have := hi.out
            rw [this]; congr 1
          · rw [List.map_append, hpre, List.range_succ]; rfl
        case measure => simp [intOf]; have := hL.out; omega
      · gi_wp2
        refine bodyPost_ret (results_none rfl _ _ _) rfl ?_
        exact ⟨⟨_, rfl⟩, .inr ⟨_, trivial, hJx3⟩⟩
    · obtain rfl : k = N := by omega
      gi_wp2
      go_end0
      exact ⟨⟨_, rfl⟩, .inl ⟨pre, hpre, hJs⟩⟩

set_option maxRecDepth 100000 in
set_option maxHeartbeats 1000000 in
/-- .. over no ints: no round. -/
theorem chunk0_in (n : Nat) (l Bs Bn : Nat) (ao : Option Addr) (cap : Nat) (J : List (Fin 0) → World → Prop) (W : World) (hBs : W.cell? ⟨Bs, 0, none⟩ = some (.slice ao 0 cap)) (h0 : J [] W) :
    CallsIn Fence.wide n Try.prog 44 #[.func (.yield l) #[] #[], .pointer (some ⟨Bs, 0, none⟩), .pointer (some ⟨Bn, 0, none⟩)] W fun e W' => (∃ v, e = .returned v) ∧ J [] W' := by
  refine callsIn_of_wp Try.func44 rfl trivial ?_ rfl
  simp only [Try.ntmps44, List.size_toArray, List.length_cons, List.length_nil, Nat.reduceAdd, Nat.reduceSub, Array.replicate_succ, Array.replicate_zero, List.push_toArray, List.append_toArray, List.nil_append, List.cons_append]
  gi_wp2
  gi_loopw [4] (fun i wr => i = .int .i64 0 ∧ wr = W) (fun _ _ => 0)
  case atStart => exact ⟨rfl, rfl⟩
  case round =>
    obtain ⟨rfl, rfl⟩ := hrel
    gi_wp2
    go_end0
    exact ⟨⟨_, rfl⟩, h0⟩

set_option maxHeartbeats 1000000 in
/-- slices.Chunk itself: both arguments are boxed; the function value captures the boxes. -/
theorem chunk_in (n : Nat) (ao : Option Addr) (len cap : Nat) (w : World) :
    CallsIn Fence.wide n Try.prog 38 #[.slice ao len cap, .int .i64 2] w fun e w' => e = .returned (.func (.func 44) #[] #[.pointer (some ⟨w.heap.size, 0, none⟩), .pointer (some ⟨w.heap.size + 1, 0, none⟩)]) ∧ w' = (w.alloc (.cells #[.slice ao len cap] 36)).alloc (.cells #[.int .i64 2] 3) := by
  refine callsIn_of_wp Try.func38 rfl trivial ?_ rfl
  simp only [Try.ntmps38, List.size_toArray, List.length_cons, List.length_nil, Nat.reduceAdd, Nat.reduceSub, Array.replicate_succ, Array.replicate_zero, List.push_toArray, List.append_toArray, List.nil_append, List.cons_append]
  gi_wp2
  go_ret
  exact ⟨rfl, rfl⟩

/-- What is read in rounds: 2 * N ints that lie at b and off, or nothing. -/
theorem chunk_stops (n : Nat) (hn : 1 ≤ n) (Bs Bn : Nat) (b off N cap : Nat) (ao : Option Addr) (hao : N ≠ 0 → ao = some ⟨b, off, none⟩) (hN : N ≤ 1000) (hcap : 2 * N ≤ cap) (w : World) (hs : Bs < w.heap.size) (hsn : Bn < w.heap.size)
    (hBs : w.cell? ⟨Bs, 0, none⟩ = some (.slice ao (2 * N) cap)) (hBn : w.cell? ⟨Bn, 0, none⟩ = some (.int .i64 2)) :
    SeqStopsK Fence.wide n Try.prog 44 #[.pointer (some ⟨Bs, 0, none⟩), .pointer (some ⟨Bn, 0, none⟩)] (fun x : Fin N => #[two b off x.1]) (Kpc Bs Bn) (fun ys => ys.map Fin.val = List.range N) (fun _ => True) N w := by
  intro l J Jx W hW hJ _ hY h0
  have c1 := (hW.cell (p := ⟨Bs, 0, none⟩) hs).trans hBs
  have c2 := (hW.cell (p := ⟨Bn, 0, none⟩) hsn).trans hBn
  by_cases h : N = 0
  · subst h
    exact (chunk0_in n l Bs Bn ao cap J W c1 h0).mono fun e W' ⟨he, hj⟩ => ⟨he, .inl ⟨[], rfl, hj⟩⟩
  · obtain rfl := hao h
    exact chunk1_in n hn l Bs Bn b off N cap hN hcap J Jx (fun s A m hA => hJ s A _ none hA ⟨rfl, rfl, rfl, Nat.le_refl _, fun _ _ _ => rfl⟩ (fun r e => by cases e)) hY W c1 c2 h0
end Go.Proofs.Ytimeglhoiibhdaa
