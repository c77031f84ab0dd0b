/- together and Spend: what several ints together take of what is left. -/
import Derived.Test.YtldfdgbbfdedkaaBase
namespace Go.Proofs.Ytldfdgbbfdedkaa
open Go.RowKit M
set_option linter.unusedVariables false

/-- What together tells. -/
def Tog (m : Int) (zs : List Int) (x : Int) (p : Bool) : Prop := okl m zs = p ∧ (p = true ∧ x = zs.sum ∨ p = false ∧ x = 0)
set_option maxHeartbeats 1000000 in
set_option maxRecDepth 100000 in
theorem together_any (m : Int) (v : Value) (zs : List Int) (w : World) (x : Int) (p : Bool) (hr : Rd .i64 w v zs) (hm0 : 0 ≤ m) (hm1 : m ≤ 9223372036854775807) (hp : Tog m zs x p) :
    Calls Try.prog 11 #[.int .i64 m, v] w fun e w' => e = .returned (.tuple #[.int .i64 x, .bool p]) ∧ w' = w := by
  obtain ⟨hl, ao, cap, rfl, _, _, hcs⟩ := hr
  have hcell : Hid (∀ j, j < zs.length → ∃ bb off, ao = some ⟨bb, off, none⟩ ∧ w.cell? ⟨bb, off + j, none⟩ = some (.int .i64 (zs.getD j 0))) := by
    intro j hj
    obtain ⟨bb, off, rfl, hcc⟩ := hcs (by omega)
    exact ⟨bb, off, rfl, hcc j hj⟩
  have hp' : Hid (Tog m zs x p) := hp
  clear hcs hp
  obtain ⟨n, hn⟩ : ∃ n, Hid (zs.length = n) := ⟨_, rfl⟩
  rw [hn.out] at hl hcell ⊢
  go_enter Try.func11, Try.ntmps11
  go_wp2_with fail
  go_loopw [6, 11] (fun av iv wr => ∃ (j : Nat) (S : Int), j ≤ n ∧ av = .int .i64 S ∧ iv = .int .i64 j ∧ 0 ≤ S ∧ S ≤ m ∧ Hid ((zs.take j).sum = S) ∧ Hid (okl m (zs.take j) = true) ∧ wr = w) (fun _ i _ => n - (intOf i).toNat)
  case atStart => exact ⟨0, 0, Nat.zero_le _, rfl, rfl, Int.le_refl _, hm0, rfl, rfl, rfl⟩
  case round =>
    obtain ⟨j, S, hj, rfl, rfl, hS0, hS1, hS, hok, rfl⟩ := hrel
    by_cases hlt : j < n
    · obtain ⟨bb, off, rfl, g⟩ := hcell.out j hlt
      obtain ⟨y, hy⟩ : ∃ y, Hid (zs.getD j 0 = y) := ⟨_, rfl⟩
      rw [hy.out] at g
      have hnx : Hid (zs.take (j + 1) = zs.take j ++ [y]) := by
        have h : zs.take (j + 1) = zs.take j ++ [y] := by rw [take_snoc' zs 0 j (by have := hn.out; omega), hy.out]
        exact h
      have hno : Hid (¬ (0 ≤ y ∧ y ≤ m - S) → p = false ∧ x = 0) := by
        intro h
        have h1 : okl m (zs.take (j + 1)) = false := by rw [hnx.out, okl_snoc, hS.out, decide_eq_false h, Bool.and_false]
        have h2 := okl_no m zs (j + 1) h1
        obtain ⟨h3, h4⟩ := hp'.out
        rw [h2] at h3
        subst h3
        rcases h4 with h4 | h4
        · exact absurd h4.1 (by decide)
        · exact h4
      by_cases h0 : y < 0
      · obtain ⟨rfl, rfl⟩ := hno.out (by omega)
        clear hno hnx hcell hy hp'
        go_wp2_with fail
        exact bodyPost_ret (v := .tuple #[.int .i64 0, .bool false]) (by simp [results, Try.results11, go_sem]) rfl ⟨rfl, rfl⟩
      · by_cases h1 : y ≤ m - S
        · have hS2 : Hid ((zs.take (j + 1)).sum = S + y) := by
            have h : (zs.take (j + 1)).sum = S + y := by rw [hnx.out, List.sum_append, hS.out]; simp
            exact h
          have hok2 : Hid (okl m (zs.take (j + 1)) = true) := by
            have h : okl m (zs.take (j + 1)) = true := by rw [hnx.out, okl_snoc, hS.out, hok.out, decide_eq_true ⟨by omega, h1⟩]; rfl
            exact h
          clear hno hnx hy hp' hS hok
          go_wp2_with fail
          go_roundw
          case rel => exact ⟨j + 1, S + y, by omega, rfl, by go_num, by omega, by omega, hS2, hok2, trivial⟩
          case measure => simp [intOf]; omega
        · obtain ⟨rfl, rfl⟩ := hno.out (by omega)
          clear hno hnx hcell hy hp'
          go_wp2_with fail
          exact bodyPost_ret (v := .tuple #[.int .i64 0, .bool false]) (by simp [results, Try.results11, go_sem]) rfl ⟨rfl, rfl⟩
    · have hfin : p = true ∧ x = S := by
        obtain ⟨h3, h4⟩ := hp'.out
        have e1 := hok.out
        have e2 := hS.out
        rw [List.take_of_length_le (by have := hn.out; omega)] at e1 e2
        rw [e1] at h3
        subst h3
        rcases h4 with h4 | h4
        · exact ⟨rfl, by rw [h4.2, e2]⟩
        · exact absurd h4.1 (by decide)
      obtain ⟨rfl, rfl⟩ := hfin
      clear hp' hS hok hcell
      go_wp2_with fail
      exact bodyPost_ret (v := .tuple #[.int .i64 x, .bool true]) (by simp [results, Try.results11, go_sem]) rfl ⟨rfl, rfl⟩

/-- What Spend answers, and the counts behind it. -/
def Sp (l s f : Int) (zs : List Int) (p : Bool) (l' s' f' : Int) : Prop :=
  okl l zs = p ∧ (p = true ∧ l' = l - zs.sum ∧ s' = s + zs.sum ∧ f' = f ∨ p = false ∧ l' = l ∧ s' = s ∧ f' = f + 1)
set_option maxRecDepth 100000 in
/-- Spend. -/
theorem spend_any (b : Nat) (l s f : Int) (v : Value) (zs : List Int) (w : World) (hc : Qt w b l s f) (hr : Rd .i64 w v zs) (hl : 0 ≤ l) (hs : 0 ≤ s) (hls : l + s ≤ 9223372036854775807) (hf : 0 ≤ f ∧ f ≤ 1000000)
    (p : Bool) (l' s' f' : Int) (hp : Sp l s f zs p l' s' f') :
    Calls Try.prog 6 #[.pointer (some ⟨b, 0, none⟩), v] w fun e w' => e = .returned (.bool p) ∧ Qt w' b l' s' f' ∧ But b w w' := by
  have c0 := hc.c0
  have c1 := hc.c1
  have f0 := hc.free 0
  have f1 := hc.free 1
  obtain ⟨hok, ⟨rfl, rfl, rfl, rfl⟩ | ⟨rfl, rfl, rfl, rfl⟩⟩ := hp
  · obtain ⟨hb0, hb1⟩ := okl_bd l zs hok hl
    have ht : Hid (Tog l zs zs.sum true) := ⟨hok, .inl ⟨rfl, rfl⟩⟩
    clear hok
    obtain ⟨S, hS⟩ : ∃ S, Hid (zs.sum = S) := ⟨_, rfl⟩
    rw [hS.out] at hb0 hb1 ht ⊢
    have k0 := hc.set0 (l - S)
    have k1 := k0.set1 (s + S)
    have d1 := k0.c1
    have e1 := k0.free 1
    go_enter Try.func6, Try.ntmps6
    go_wp2_with fail
    refine (together_any l v zs _ S true hr hl (by omega) ht.out).mono ?_
    rintro e w1 ⟨rfl, he⟩; obtain rfl := he.symm; clear he
    go_wp2_with fail
    go_ret
    exact ⟨rfl, k1, ((But.refl _ _).set _ _).set _ _⟩
  · have ht : Hid (Tog l' zs 0 false) := ⟨hok, .inr ⟨rfl, rfl⟩⟩
    clear hok
    go_enter Try.func6, Try.ntmps6
    go_wp2_with fail
    refine (together_any l' v zs _ 0 false hr hl (by omega) ht.out).mono ?_
    rintro e w1 ⟨rfl, he⟩; obtain rfl := he.symm; clear he
    go_wp2_with fail
    refine (refuse_any b l' s' f _ hc hf).mono ?_
    rintro e w2 ⟨rfl, k2, b2⟩
    go_wp2_with fail
    go_ret
    exact ⟨rfl, k2, b2⟩
end Go.Proofs.Ytldfdgbbfdedkaa
