/- MaskOrder, walked: of any three sets it returns true, and nothing that was there is written. -/
import Derived.Test.YtmhldbanjlccmaaDoorRuns
import Derived.Deep.DeepCutAuto
import Derived.OpenShut
namespace Go.Proofs.YtmhldbanjlccmaaDoor
open Go.RowKit M

theorem or_turn (a b c : Nat) : c ||| (b ||| a) = a ||| b ||| c := by rw [Nat.or_comm b a, Nat.or_comm]
theorem and_turn (a b c : Nat) : c &&& a &&& b = a &&& b &&& c := by rw [Nat.and_comm c a, Nat.and_assoc, Nat.and_comm c b, Nat.and_assoc]
theorem dec_is {P : Prop} [Decidable P] {p : Bool} (h : P ↔ p = true) : decide P = p := by
  cases p
  · simpa using h
  · simpa using h
theorem sub_or_left (a b : Nat) : a &&& (a ||| b) = a := by
  rw [sub_iff]; intro i h; simp [h]

set_option maxHeartbeats 2000000 in
set_option maxRecDepth 100000 in
theorem order_core (a b c : Nat) (w : World) (p q r s t u : Bool) (ha : a < 18446744073709551616) (hb : b < 18446744073709551616) (hc : c < 18446744073709551616) (hT : Tab w)
    (hp : Hid (decide (a &&& b = a) = p)) (hq : Hid (decide (b &&& c = b) = q)) (hr : Hid (decide (a &&& c = a) = r)) (hs : Hid (decide (b &&& a = b) = s)) (ht : Hid (decide (c &&& a = c) = t)) (hu : Hid (decide (c &&& b = c) = u))
    (htr : Hid (p = true → q = true → true = r)) (hae : Hid (p = true → s = true → ((a : Int) != (b : Int)) = false))
    (e1 : ((((a ||| b : Nat) : Int)) == (b : Int)) = p) (e2 : ((((a &&& b : Nat) : Int)) == (a : Int)) = p)
    (hxc : Hid (decide ((a ||| b) &&& c = a ||| b) = (r && q))) (hcm : Hid (decide (c &&& (a &&& b) = c) = (t && u))) :
    Calls Tryd.prog 5 #[.int .u64 a, .int .u64 b, .int .u64 c] w fun e w' => e = .returned (.bool true) ∧ Below w.heap.size w w' := by
  have hJ := or_lt _ c (or_lt a b ha hb) hc
  have hM := and_lt (a &&& b) c (and_lt a b ha)
  have f1 : Hid (decide (a &&& (a ||| b ||| c) = a) = true) := by
    have h : decide (a &&& (a ||| b ||| c) = a) = true := by rw [decide_eq_true_iff, Nat.or_assoc]; exact sub_or_left a _
    exact h
  have f2 : Hid (decide (a &&& b &&& c &&& a = a &&& b &&& c) = true) := by
    have h : decide (a &&& b &&& c &&& a = a &&& b &&& c) = true := by
      rw [decide_eq_true_iff, sub_iff]
      intro i h
      simp only [Nat.testBit_and, Bool.and_eq_true] at h
      exact h.1.1
    exact h
  have f3 : Hid (decide (a &&& a = a) = true) := by
    have h : decide (a &&& a = a) = true := by rw [decide_eq_true_iff]; exact Nat.and_self a
    exact h
  go_enter Tryd.func5, Tryd.ntmps5
  go_wp2_with fail
  refine (join3 w a b c _ ha hb hc rfl).mono ?_
  rintro e w1 ⟨rfl, t1⟩
  go_wp2_with fail
  refine (meet3 w1 a b c _ ha hb hc rfl).mono ?_
  rintro e w2 ⟨rfl, b2⟩
  have t2 : Below w.heap.size w w2 := t1.trans (b2.mono t1.size)
  clear b2
  go_wp2_with fail
  refine (join2 w2 b a _ hb ha rfl).mono ?_
  rintro e w3 ⟨rfl, b3⟩
  have t3 : Below w.heap.size w w3 := t2.trans (b3.mono t2.size)
  clear b3
  go_wp2_with fail
  refine (join2 w3 c (b ||| a) ((a ||| b ||| c : Nat) : Int) hc (or_lt b a hb ha) (by rw [or_turn])).mono ?_
  rintro e w4 ⟨rfl, b4⟩
  have t4 : Below w.heap.size w w4 := t3.trans (b4.mono t3.size)
  clear b4
  go_wp2_with fail
  refine (meet2 w4 c a _ hc ha rfl).mono ?_
  rintro e w5 ⟨rfl, b5⟩
  have t5 : Below w.heap.size w w5 := t4.trans (b5.mono t4.size)
  clear b5
  go_wp2_with fail
  refine (meet2 w5 (c &&& a) b ((a &&& b &&& c : Nat) : Int) (and_lt c a hc) hb (by rw [and_turn])).mono ?_
  rintro e w6 ⟨rfl, b6⟩
  have t6 : Below w.heap.size w w6 := t5.trans (b6.mono t5.size)
  clear b6
  go_wp2_with fail
  refine (join0 w6).mono ?_
  rintro e w' ⟨rfl, he⟩; obtain rfl := he.symm; clear he
  go_wp2_with fail
  refine (meet0 w6).mono ?_
  rintro e w' ⟨rfl, he⟩; obtain rfl := he.symm; clear he
  go_wp2_with fail
  refine (below_is w6 a (a ||| b ||| c) true ha hJ f1.out).mono ?_
  rintro e w' ⟨rfl, he⟩; obtain rfl := he.symm; clear he
  go_wp2_with fail
  refine (below_is w6 (a &&& b &&& c) a true hM ha f2.out).mono ?_
  rintro e w' ⟨rfl, he⟩; obtain rfl := he.symm; clear he
  go_wp2_with fail
  refine (below_is w6 a a true ha ha f3.out).mono ?_
  rintro e w' ⟨rfl, he⟩; obtain rfl := he.symm; clear he
  go_wp2_with fail
  refine (below_is w6 a b p ha hb hp.out).mono ?_
  rintro e w' ⟨rfl, he⟩; obtain rfl := he.symm; clear he
  go_wp2_with fail
  refine (join2 w6 a b _ ha hb rfl).mono ?_
  rintro e w7 ⟨rfl, b7⟩
  have t7 : Below w.heap.size w w7 := t6.trans (b7.mono t6.size)
  clear b7
  go_wp2_with fail
  refine (below_is w7 a b p ha hb hp.out).mono ?_
  rintro e w' ⟨rfl, he⟩; obtain rfl := he.symm; clear he
  go_wp2_with fail
  refine (meet2 w7 a b _ ha hb rfl).mono ?_
  rintro e w8 ⟨rfl, b8⟩
  have t8 : Below w.heap.size w w8 := t7.trans (b8.mono t7.size)
  clear b8
  go_upto_region 6 with fail
  go_cut [116] (fun z wx => z = .bool false ∧ wx = w8)
  case first =>
    cases p
    · go_wp2_with fail
      refine (below_is w8 a b false ha hb hp.out).mono ?_
      rintro e w' ⟨rfl, he⟩; obtain rfl := he.symm; clear he
      go_wp2_with fail
      refine (below_is w8 a b false ha hb hp.out).mono ?_
      rintro e w' ⟨rfl, he⟩; obtain rfl := he.symm; clear he
      go_wp2_with fail
      go_meet
      exact ⟨rfl, rfl⟩
    · go_wp2_with fail
      refine (below_is w8 a b true ha hb hp.out).mono ?_
      rintro e w' ⟨rfl, he⟩; obtain rfl := he.symm; clear he
      go_wp2_with fail
      refine (below_is w8 b c q hb hc hq.out).mono ?_
      rintro e w' ⟨rfl, he⟩; obtain rfl := he.symm; clear he
      cases q
      case' true =>
        have hrr : r = true := by simpa using htr.out
        subst hrr
        go_wp2_with fail
        refine (below_is w8 a c true ha hc hr.out).mono ?_
        rintro e w' ⟨rfl, he⟩; obtain rfl := he.symm; clear he
      all_goals
        go_wp2_with fail
        refine (below_is w8 a b true ha hb hp.out).mono ?_
        rintro e w' ⟨rfl, he⟩; obtain rfl := he.symm; clear he
        go_wp2_with fail
        refine (below_is w8 b a s hb ha hs.out).mono ?_
        rintro e w' ⟨rfl, he⟩; obtain rfl := he.symm; clear he
        cases s
        case' true => have hab : ((a : Int) != (b : Int)) = false := by simpa using hae.out
        all_goals
          go_wp2_with fail
          go_meet
          exact ⟨rfl, rfl⟩
  case rest =>
    obtain ⟨rfl, rfl⟩ := hcut
    clear htr hae hs f1 f2 f3 e1 e2 hp t1 t2 t3 t4 t5 t6 t7
    go_wp2_with fail
    refine (join2 wc a b _ ha hb rfl).mono ?_
    rintro e w9 ⟨rfl, b9⟩
    have t9 : Below w.heap.size w w9 := t8.trans (b9.mono t8.size)
    clear b9
    go_wp2_with fail
    refine (below_is w9 (a ||| b) c (r && q) (or_lt a b ha hb) hc hxc.out).mono ?_
    rintro e w' ⟨rfl, he⟩; obtain rfl := he.symm; clear he
    go_wp2_with fail
    refine (below_is w9 a c r ha hc hr.out).mono ?_
    rintro e w' ⟨rfl, he⟩; obtain rfl := he.symm; clear he
    cases r
    case' true =>
      go_wp2_with fail
      refine (below_is w9 b c q hb hc hq.out).mono ?_
      rintro e w' ⟨rfl, he⟩; obtain rfl := he.symm; clear he
    all_goals
      go_wp2_with fail
      refine (meet2 w9 a b _ ha hb rfl).mono ?_
      rintro e w10 ⟨rfl, b10⟩
      have t10 : Below w.heap.size w w10 := t9.trans (b10.mono t9.size)
      clear b10
      go_wp2_with fail
      refine (below_is w10 c (a &&& b) (t && u) hc (and_lt a b ha) hcm.out).mono ?_
      rintro e w' ⟨rfl, he⟩; obtain rfl := he.symm; clear he
      go_wp2_with fail
      refine (below_is w10 c a t hc ha ht.out).mono ?_
      rintro e w' ⟨rfl, he⟩; obtain rfl := he.symm; clear he
      cases t
      case' true =>
        go_wp2_with fail
        refine (below_is w10 c b u hc hb hu.out).mono ?_
        rintro e w' ⟨rfl, he⟩; obtain rfl := he.symm; clear he
      all_goals
        go_wp2_with fail
        refine (join2 w10 b c _ hb hc rfl).mono ?_
        rintro e w11 ⟨rfl, b11⟩
        have t11 : Below w.heap.size w w11 := t10.trans (b11.mono t10.size)
        clear b11
        go_wp2_with fail
        refine (meet2 w11 a (b ||| c) _ ha (or_lt b c hb hc) rfl).mono ?_
        rintro e w12 ⟨rfl, b12⟩
        have t12 : Below w.heap.size w w12 := t11.trans (b12.mono t11.size)
        clear b12
        go_wp2_with fail
        refine (meet2 w12 a b _ ha hb rfl).mono ?_
        rintro e w13 ⟨rfl, b13⟩
        have t13 : Below w.heap.size w w13 := t12.trans (b13.mono t12.size)
        clear b13
        go_wp2_with fail
        refine (meet2 w13 a c _ ha hc rfl).mono ?_
        rintro e w14 ⟨rfl, b14⟩
        have t14 : Below w.heap.size w w14 := t13.trans (b14.mono t13.size)
        clear b14
        go_wp2_with fail
        refine (join2 w14 (a &&& b) (a &&& c) ((a &&& (b ||| c) : Nat) : Int) (and_lt a b ha) (and_lt a c ha) (by rw [← Nat.and_or_distrib_left])).mono ?_
        rintro e w15 ⟨rfl, b15⟩
        have t15 : Below w.heap.size w w15 := t14.trans (b15.mono t14.size)
        clear b15
        have hT15 := hT.below t15 hT.1
        go_wp2_with fail
        refine (runs_any w15 hT15).mono ?_
        rintro e w16 ⟨rfl, b16⟩
        go_wp2
        go_ret
        exact ⟨rfl, t15.trans (b16.mono t15.size)⟩

theorem wf_nat' {x : Int} (h : (Lit.int .u64 x).wf = true) : ∃ n : Nat, x = (n : Int) ∧ n < 18446744073709551616 := by
  obtain ⟨h0, h1⟩ := bounds_u64 h
  exact ⟨x.toNat, by omega, by omega⟩
theorem ints_is {a b : Nat} {p : Bool} (h : a = b ↔ p = true) : (((a : Nat) : Int) == (b : Int)) = p := by
  rw [Bool.eq_iff_iff, beq_iff_eq, ← h]; omega
theorem maskOrder_walk (a0 a1 a2 : Int) (w0 : (Lit.int .u64 a0).wf = true) (w1 : (Lit.int .u64 a1).wf = true) (w2 : (Lit.int .u64 a2).wf = true) (w : World) (hT : Tab w) :
    Calls Tryd.prog 5 #[.int .u64 a0, .int .u64 a1, .int .u64 a2] w fun e w' => e = .returned (.bool true) ∧ Below w.heap.size w w' := by
  obtain ⟨a, rfl, ha⟩ := wf_nat' w0
  obtain ⟨b, rfl, hb⟩ := wf_nat' w1
  obtain ⟨c, rfl, hc⟩ := wf_nat' w2
  refine order_core a b c w _ _ _ _ _ _ ha hb hc hT rfl rfl rfl rfl rfl rfl ?_ ?_ (ints_is ?_) (ints_is ?_) ?_ ?_
  · intro h1 h2
    rw [decide_eq_true_iff, sub_iff] at h1 h2
    symm
    rw [decide_eq_true_iff, sub_iff]
    exact fun i h => h2 i (h1 i h)
  · intro h1 h2
    rw [decide_eq_true_iff] at h1 h2
    have : a = b := by rw [← h1, Nat.and_comm, h2]
    subst this; simp
  · rw [decide_eq_true_iff]; exact or_iff a b
  · rw [decide_eq_true_iff]
  · have h : decide ((a ||| b) &&& c = a ||| b) = (decide (a &&& c = a) && decide (b &&& c = b)) := by
      rw [Bool.eq_iff_iff, Bool.and_eq_true, decide_eq_true_iff, decide_eq_true_iff, decide_eq_true_iff, sub_iff, sub_iff, sub_iff]
      constructor
      · intro h
        exact ⟨fun i hi => h i (by simp [hi]), fun i hi => h i (by simp [hi])⟩
      · rintro ⟨h1, h2⟩ i hi
        rw [Nat.testBit_or, Bool.or_eq_true] at hi
        rcases hi with hi | hi
        · exact h1 i hi
        · exact h2 i hi
    exact h
  · have h : decide (c &&& (a &&& b) = c) = (decide (c &&& a = c) && decide (c &&& b = c)) := by
      rw [Bool.eq_iff_iff, Bool.and_eq_true, decide_eq_true_iff, decide_eq_true_iff, decide_eq_true_iff, sub_iff, sub_iff, sub_iff]
      constructor
      · intro h
        have h' : ∀ i, c.testBit i = true → a.testBit i = true ∧ b.testBit i = true := fun i hi => by simpa using h i hi
        exact ⟨fun i hi => (h' i hi).1, fun i hi => (h' i hi).2⟩
      · rintro ⟨h1, h2⟩ i hi
        simp [h1 i hi, h2 i hi]
    exact h
end Go.Proofs.YtmhldbanjlccmaaDoor
