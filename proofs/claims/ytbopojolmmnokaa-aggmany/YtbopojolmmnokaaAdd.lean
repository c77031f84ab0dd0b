/- What Add and Merge make of an aggregate of a list. -/
import Derived.Test.YtbopojolmmnokaaBase
namespace Go.Proofs.Ytbopojolmmnokaa
open Go.RowKit M
set_option linter.unusedVariables false

/-- The aggregate, of kind k, of these values. -/
def Agl (w : World) (b : Nat) (k : Int) (l : List Int) : Prop := Agk w b l.length k (val k l)
def alv (k : Int) (l : List Int) : Value := av l.length k (val k l)
theorem Agl.lt {w : World} {b : Nat} {k : Int} {l : List Int} (h : Agl w b k l) : b < w.heap.size := Agk.lt h
theorem Agl.below {w w' : World} {b B : Nat} {k : Int} {l : List Int} (h : Agl w b k l) (hb : Below B w w') (hB : b < B) : Agl w' b k l := Agk.below h hb hB
theorem But.agl {b g : Nat} {w w' : World} {k : Int} {l : List Int} (h : But b w w') (hc : Agl w g k l) (hg : g ≠ b) : Agl w' g k l := But.agk h hc hg
theorem Agl.to {w : World} {b : Nat} {k : Int} {l m : List Int} (h : Agl w b k l) (hl : l.length = m.length) (hv : val k l = val k m) : Agl w b k m := by
  unfold Agl at *; rw [← hl, ← hv]; exact h
/-- A slice that does not lie in block g. -/
def Apart (g : Nat) (v : Value) : Prop := ∀ b off n c, v = .slice (some ⟨b, off, none⟩) n c → b ≠ g
theorem apart_nil (g : Nat) (n c : Nat) : Apart g (.slice none n c) := by intro b off n c h; cases h
theorem apart_some {g b off n c : Nat} (h : b ≠ g) : Apart g (.slice (some ⟨b, off, none⟩) n c) := by
  intro b' off' n' c' e; injection e with e; injection e with e; injection e with e; subst e; exact h

set_option maxHeartbeats 1000000 in
set_option maxRecDepth 100000 in
theorem add_any (b : Nat) (k : Int) (l zs : List Int) (v : Value) (w : World) (hc : Agl w b k l) (hr : Rd .i64 w v zs) (ha : Apart b v) (hl : l.length + zs.length ≤ 9223372036854775807) :
    Calls Try.prog 10 #[.pointer (some ⟨b, 0, none⟩), v] w fun e w' => e = .returned (.tuple #[]) ∧ Agl w' b k (l ++ zs) ∧ But b w w' := by
  obtain ⟨_, ao, cap, rfl, _, _, hcs⟩ := hr
  have hcell : Hid (∀ j, j < zs.length → ∃ bb off, ao = some ⟨bb, off, none⟩ ∧ bb < w.heap.size ∧ bb ≠ b ∧ w.cell? ⟨bb, off + j, none⟩ = some (.int .i64 (zs.getD j 0))) := by
    intro j hj
    obtain ⟨bb, off, rfl, hcc⟩ := hcs (by omega)
    have := hcc j hj
    exact ⟨bb, off, rfl, World.block_lt_of_cell? w _ this, ha _ _ _ _ rfl, this⟩
  have h0 : Hid (Agl w b k (l ++ zs.take 0)) := by
    have h : Agl w b k (l ++ zs.take 0) := by simpa using hc
    exact h
  clear hcs ha hc
  obtain ⟨n, hn⟩ : ∃ n, Hid (zs.length = n) := ⟨_, rfl⟩
  rw [hn.out] at hl hcell ⊢
  go_enter Try.func10, Try.ntmps10
  go_wp2_with fail
  go_loopw [8] (fun i wr => ∃ j : Nat, j ≤ n ∧ i = .int .i64 j ∧ Hid (Agl wr b k (l ++ zs.take j)) ∧ But b w wr) (fun i _ => n - (intOf i).toNat)
  case atStart => exact ⟨0, Nat.zero_le _, rfl, h0, But.refl _ _⟩
  case round =>
    obtain ⟨j, hj, rfl, hA, hbw⟩ := hrel
    clear h0
    by_cases hlt : j < n
    · obtain ⟨bb, off, rfl, hbb, hne, g⟩ := hcell.out j hlt
      rw [← hbw.cell (p := ⟨bb, off + j, none⟩) hbb hne] at g
      obtain ⟨x, hx⟩ : ∃ x, Hid (zs.getD j 0 = x) := ⟨_, rfl⟩
      rw [hx.out] at g
      have hlen : Hid (zs.length = n ∧ (l ++ zs.take j).length = l.length + j) := by
        have h : zs.length = n ∧ (l ++ zs.take j).length = l.length + j := ⟨hn.out, by rw [List.length_append, List.length_take, hn.out]; omega⟩
        exact h
      have hA2 : Hid (Agk wr b ((l.length + j : Nat) : Int) k (val k (l ++ zs.take j))) := by
        have h : Agk wr b ((l.length + j : Nat) : Int) k (val k (l ++ zs.take j)) := by
          have := hA.out
          unfold Agl at this
          rw [hlen.out.2] at this; exact this
        exact h
      have hnext : Hid (jv k ((l.length + j : Nat) : Int) (val k (l ++ zs.take j)) (inp k x) = val k (l ++ zs.take (j + 1))) := by
        have h : jv k ((l.length + j : Nat) : Int) (val k (l ++ zs.take j)) (inp k x) = val k (l ++ zs.take (j + 1)) := by
          rw [take_snoc' zs 0 j (by have := hn.out; omega), ← List.append_assoc, val_snoc, hlen.out.2, hx.out]
        exact h
      have hfin : Hid (∀ W, Agk W b ((l.length + (j + 1) : Nat) : Int) k (val k (l ++ zs.take (j + 1))) → Agl W b k (l ++ zs.take (j + 1))) := by
        intro W h
        unfold Agl
        rw [List.length_append, List.length_take, Nat.min_eq_left (by have := hn.out; omega)]
        exact h
      have hw : Hid (wrap64 (((l.length + j : Nat) : Int) + 1) = ((l.length + (j + 1) : Nat) : Int)) := by
        have h : wrap64 (((l.length + j : Nat) : Int) + 1) = ((l.length + (j + 1) : Nat) : Int) := by rw [wrap_in _ (by omega)]; omega
        exact h
      have c1 := hA2.out.c1
      clear hA hx hlen
      by_cases hk : k = 1
      · subst hk
        have hi : Hid (inp 1 x = 1) := by
          have h : inp 1 x = 1 := by unfold inp; rw [if_pos rfl]
          exact h
        rw [hi.out] at hnext
        clear hi
        go_wp2_with fail
        refine (join_any b _ 1 _ 1 1 _ _ _ hA2.out hnext.out hw.out).mono ?_
        rintro e w2 ⟨rfl, k2, b2⟩
        have b3 := hbw.trans b2
        have k3 : Hid (Agl w2 b 1 (l ++ zs.take (j + 1))) := hfin.out _ k2
        clear k2 b2 hA2 hnext hfin hw g c1
        go_wp2_with fail
        go_roundw
        case rel => exact ⟨j + 1, by omega, by go_num, k3, b3⟩
        case measure => simp [intOf]; omega
      · have hi : Hid (inp k x = x) := by
          have h : inp k x = x := by unfold inp; rw [if_neg hk]
          exact h
        rw [hi.out] at hnext
        clear hi
        go_wp2_with fail
        refine (join_any b _ k _ x 1 _ _ _ hA2.out hnext.out hw.out).mono ?_
        rintro e w2 ⟨rfl, k2, b2⟩
        have b3 := hbw.trans b2
        have k3 : Hid (Agl w2 b k (l ++ zs.take (j + 1))) := hfin.out _ k2
        clear k2 b2 hA2 hnext hfin hw g c1
        go_wp2_with fail
        go_roundw
        case rel => exact ⟨j + 1, by omega, by go_num, k3, b3⟩
        case measure => simp [intOf]; omega
    · have hjn : j = n := by omega
      have hend : Hid (Agl wr b k (l ++ zs)) := by
        have h := hA.out
        rw [List.take_of_length_le (by have := hn.out; omega)] at h
        exact h
      go_wp2_with fail
      go_end0
      exact ⟨rfl, hend.out, hbw⟩
end Go.Proofs.Ytbopojolmmnokaa
