/- Runner.pass, Runner.see. -/
import Derived.Test.YtnamjnopicghhaaRNew
namespace Go.Proofs.Ytnamjnopicghhaa
open Go.RowKit M
open O (RdO)
open O.MO (Oq Pq rightP)
set_option linter.unusedVariables false
set_option linter.unusedSimpArgs false
attribute [local go_sem ↓] Go.wp_at_zero Go.wp_at_succ

theorem Evk.free' {w : World} {b : Nat} {e : Ev} (h : Evk w b e) (i : Nat) : w.frozen? ⟨b, i, none⟩ = false := by
  have h' : w.heap[b]? = some (.cells (evCells e).toArray 29 (0, 0)) := h
  simp [World.frozen?, h']
theorem Evk.set' {w : World} {b : Nat} {e : Ev} (h : Evk w b e) (y : Ev) : Evk ((((w.setCell ⟨b, 0, none⟩ (.int .i64 y.t)).setCell ⟨b, 1, none⟩ (.int .i64 y.k)).setCell ⟨b, 2, none⟩ (.int .i64 y.v)).setCell ⟨b, 3, none⟩ (.int .u64 y.l)) b y := by
  unfold Evk evCells at *
  simp [World.setCell, Array.getElem?_modify, h]
theorem Pan.ofOne {w w' : World} {b q o : Nat} {n sl K : Int} {L : List Pn} (h : Pan w q o n sl K L) (hc : Ch b b w w') (h1 : b ≠ q) (h2 : b ≠ o) : Pan w' q o n sl K L :=
  h.keep hc (Ne.symm h1) (Ne.symm h1) (Ne.symm h2) (Ne.symm h2)
theorem OpsIn.ofOne {w w' : World} {b g : Nat} {u : Value} {os : List Oq} (h : OpsIn w u os) (hc : Ch b b w w') (hu : ∀ k, u.ownBlock = some k → k = g) (hg : g ≠ b) : OpsIn w' u os :=
  h.keep (fun k hk hl => hc.other k hl (by rw [hu k hk]; exact hg) (by rw [hu k hk]; exact hg))
set_option maxHeartbeats 1000000 in
set_option maxRecDepth 100000 in
/-- Runner.pass. -/
theorem pass_is (b q o g : Nat) (p : Pq) (r : Rs) (ev : Ev) (w : World) (hR : Rnr w b q o g p r) (hl : r.L.length ≤ 1000000) :
    Calls Try.prog 55 #[.pointer (some ⟨b, 0, none⟩), .int .i64 ev.t] w fun e w' => ∃ u o', e = .returned u ∧ w'.ownsRow w.heap.size 39 5 u (rowR p r ⟨true, ev⟩).length (rcs (rowR p r ⟨true, ev⟩)) ∧ (o' = o ∨ o' = q) ∧ Rnr w' b q o' g p (stepR p r ⟨true, ev⟩) ∧ Ch3 b q o w w' := by
  obtain ⟨u, hk, hP, hO, hu, h1, h2, h3, h4, h5, h6, hot⟩ := hR
  have hot' : Hid (OT w o) := hot
  clear hot
  have hk' : Hid (Rnk w b r.m r.l r.s q u p.n p.s p.a p.k p.f) := hk
  have hP' : Hid (Pan w q o p.n p.s p.a r.L) := hP
  have hO' : Hid (OpsIn w u p.os) := hO
  have hu' : Hid (∀ k, u.ownBlock = some k → k = g) := hu
  clear hk hP hO hu
  obtain ⟨gb, hgb⟩ : ∃ x, Hid (goes r.m ev.t = x) := ⟨_, rfl⟩
  have hq : q < w.heap.size := hP'.out.lt
  have ho : o < w.heap.size := hP'.out.olt
  go_enter Try.func55, Try.ntmps55
  go_wp2_with fail
  refine (advance_is b q u r.m r.l r.s p.n p.s p.a p.k p.f ev.t gb _ hk'.out hgb.out).mono ?_
  rintro e W1 ⟨rfl, k1, c1⟩
  have k1' : Hid (Rnk W1 b (mkTo r.m ev.t) r.l r.s q u p.n p.s p.a p.k p.f) := k1
  have c1' : Hid (Ch b b w W1) := c1
  have P1 : Hid (Pan W1 q o p.n p.s p.a r.L) := hP'.out.ofOne c1 h1 h2
  have O1 : Hid (OpsIn W1 u p.os) := hO'.out.ofOne c1 hu'.out h3
  have hs1 := c1.size
  clear k1 c1 hk' hP' hO'
  cases gb with
  | false =>
    have e1 : Hid (stepR p r ⟨true, ev⟩ = r ∧ rowR p r ⟨true, ev⟩ = []) := step_still rfl hgb.out
    have em : Hid (mkTo r.m ev.t = r.m) := by
      have h : mkTo r.m ev.t = r.m := by unfold mkTo; rw [hgb.out]; rfl
      exact h
    go_wp2_with fail
    go_ret
    rw [e1.out.1, e1.out.2]
    rw [em.out] at k1'
    exact ⟨_, o, rfl, World.ownsRow_nil _ _ _ _, .inl rfl, ⟨u, k1'.out, P1.out, O1.out, hu'.out, h1, h2, h3, h4, h5, by omega, hot'.out.keep (c1'.out.other o ho (Ne.symm h2) (Ne.symm h2))⟩, Ch3.ofOne c1'.out⟩
  | true =>
    have e1 : Hid (stepR p r ⟨true, ev⟩ = ⟨ev.t, r.l, r.s, r.L.drop (endN p.n ev.t r.L)⟩ ∧ rowR p r ⟨true, ev⟩ = r.L.take (endN p.n ev.t r.L)) := step_mark rfl hgb.out
    have em : Hid (mkTo r.m ev.t = ev.t) := by
      have h : mkTo r.m ev.t = ev.t := by unfold mkTo; rw [hgb.out]; rfl
      exact h
    have d3 := k1'.out.c3
    go_wp2_with fail
    refine (close_is q o p.n p.s p.a ev.t r.L _ _ P1.out rfl hl).mono ?_
    rintro e W2 ⟨v, rfl, ho2, P2, c2⟩
    have ho' : Hid (W2.ownsRow W1.heap.size 39 5 v (endN p.n ev.t r.L) (rcs (r.L.take (endN p.n ev.t r.L)))) := ho2
    have P2' : Hid (Pan W2 q o p.n p.s p.a (r.L.drop (endN p.n ev.t r.L))) := P2
    have c2' : Hid (Ch q o W1 W2) := c2
    clear ho2 P2 c2 d3
    go_wp2_with fail
    go_ret
    rw [e1.out.1, e1.out.2]
    have hln : (r.L.take (endN p.n ev.t r.L)).length = endN p.n ev.t r.L := by rw [List.length_take]; have := endN_le p.n ev.t r.L; omega
    have hb1 := k1'.out.lt
    have hz2 := c2'.out.size
    obtain ⟨o1, ho1, P3, hot1⟩ := P2'.out.ot
    refine ⟨_, o1, rfl, by rw [hln]; exact O.own_base ho'.out hs1, ho1, ⟨u, ?_, P3, O1.out.keep (fun k hk hl2 => c2'.out.other k hl2 (by rw [hu'.out k hk]; exact h4) (by rw [hu'.out k hk]; exact h5)), hu'.out, h1, by omega, h3, h4, by omega, by omega, hot1⟩, (Ch3.ofOne c1'.out).trans (Ch3.ofCh c2'.out) (.inl rfl)⟩
    have k2 := k1'.out.keep (c2'.out.other b hb1 h1 h2)
    rw [em.out] at k2
    exact k2

set_option maxHeartbeats 2000000 in
set_option maxRecDepth 100000 in
/-- Runner.see. -/
theorem see_is (b q o g : Nat) (p : Pq) (r : Rs) (ev : Ev) (w : World) (hR : Rnr w b q o g p r) (hel : ev.l < 18446744073709551616) (hl : r.L.length ≤ 900000) (hlt : 0 ≤ r.l ∧ r.l ≤ 1000000) (hsn : 0 ≤ r.s ∧ r.s ≤ 1000000) :
    Calls Try.prog 56 #[.pointer (some ⟨b, 0, none⟩), evv ev] w fun e w' => ∃ o', e = .returned (.tuple #[]) ∧ Rnr w' b q o' g p (stepR p r ⟨false, ev⟩) ∧ (o' = o ∨ o' = q ∨ w.heap.size ≤ o') ∧ Ch3 b q o w w' := by
  obtain ⟨u, hk, hP, hO, hu, h1, h2, h3, h4, h5, h6, hot⟩ := hR
  have hot' : Hid (OT w o) := hot
  clear hot
  have hk' : Hid (Rnk w b r.m r.l r.s q u p.n p.s p.a p.k p.f) := hk
  have hP' : Hid (Pan w q o p.n p.s p.a r.L) := hP
  have hO' : Hid (OpsIn w u p.os) := hO
  have hu' : Hid (∀ k, u.ownBlock = some k → k = g) := hu
  have hlt' : Hid (0 ≤ r.l ∧ r.l ≤ 1000000) := hlt
  have hsn' : Hid (0 ≤ r.s ∧ r.s ≤ 1000000) := hsn
  have hl' : Hid (r.L.length ≤ 900000) := hl
  have hq : q < w.heap.size := hP.lt
  have ho : o < w.heap.size := hP.olt
  have hbw : b < w.heap.size := hk.lt
  clear hk hP hO hu hlt hsn hl
  obtain ⟨ok, l', s', hon, hok⟩ : ∃ ok l' s', Hid (Ons r.m r.l r.s ev.t ok l' s') ∧ Hid (if ok = true then (okT ev.t = true ∧ ¬ ev.t < r.m ∧ l' = r.l ∧ s' = r.s + 1) else stepR p r ⟨false, ev⟩ = ⟨r.m, l', s', r.L⟩) := by
    by_cases ht : 0 ≤ ev.t ∧ ev.t ≤ 1099511627776
    · have hT : okT ev.t = true := decide_eq_true ht
      by_cases hm : ev.t < r.m
      · refine ⟨false, r.l + 1, r.s + 1, (.inl ⟨ht, .inl ⟨hm, rfl, rfl, rfl⟩⟩ : Ons _ _ _ _ _ _ _), ?_⟩
        show (if false = true then _ else _)
        rw [if_neg (by decide)]
        exact step_late rfl hT hm
      · refine ⟨true, r.l, r.s + 1, (.inl ⟨ht, .inr ⟨by omega, rfl, rfl, rfl⟩⟩ : Ons _ _ _ _ _ _ _), ?_⟩
        show (if true = true then _ else _)
        rw [if_pos rfl]
        exact ⟨hT, hm, rfl, rfl⟩
    · refine ⟨false, r.l, r.s, (.inr ⟨ht, rfl, rfl, rfl⟩ : Ons _ _ _ _ _ _ _), ?_⟩
      show (if false = true then _ else _)
      rw [if_neg (by decide)]
      have hT : okT ev.t = false := decide_eq_false ht
      rw [step_none rfl hT]
  go_enter Try.func56, Try.ntmps56
  go_upto_region 1 with fail
  refine world_gen (fun W => Hid (Evk W w.heap.size ev) ∧ Hid (Rnk W b r.m r.l r.s q u p.n p.s p.a p.k p.f) ∧ Hid (Pan W q o p.n p.s p.a r.L) ∧ Hid (OpsIn W u p.os) ∧ Hid (Below w.heap.size w W) ∧ W.heap.size = w.heap.size + 1) ⟨evk_new _ _, hk'.out.keep ((below_alloc _ _).block _ hbw), hP'.out.below (below_alloc _ _), hO'.out.below (below_alloc _ _), below_alloc _ _, by simp⟩ ?_
  clear hk' hP' hO'
  rintro W ⟨hE, hk, hP, hO, hbW, hWz⟩
  obtain ⟨g1, hg1⟩ : ∃ x, Hid (w.heap.size = x) := ⟨_, rfl⟩
  rw [hg1.out] at hE hWz ⊢
  have hg1b : g1 ≠ b := by have := hg1.out; omega
  go_cut [12] (fun t wx => t = .bool (!ok) ∧ Hid (Rnk wx b r.m l' s' q u p.n p.s p.a p.k p.f) ∧ Hid (Ch b b W wx))
  case first =>
    refine wp_region_held_drew (S := fun X => Ch b b W X) (by kernel_rfl) (Ch.refl _ _ _).drew (fun hHeld => ?_)
    have hkD : Hid (Rnk W.drew b r.m r.l r.s q u p.n p.s p.a p.k p.f) := hk.out
    generalize W.drew = V at hHeld hkD ⊢
    refine take_at (i := 0) (v := .pointer (some ⟨b, 0, none⟩)) rfl rfl (by kernel_rfl) (by kernel_rfl) (by kernel_rfl) (fun _ _ _ h => h) (Or.inl ⟨by rfl, fun X _ => by go_simp⟩) hHeld ?_
    try simp only [Act.put, List.setIfInBounds_toArray, List.set_cons_zero, List.set_cons_succ]
    refine take_at (i := 1) (v := .pointer (some ⟨b, 0, none⟩)) rfl rfl (by kernel_rfl) (by kernel_rfl) (by kernel_rfl) (fun _ _ _ h => h) (Or.inl ⟨by rfl, fun X _ => by go_simp⟩) hHeld ?_
    try simp only [Act.put, List.setIfInBounds_toArray, List.set_cons_zero, List.set_cons_succ]
    refine take_at (i := 2) (v := .pointer (some ⟨b, 0, none⟩)) rfl rfl (by kernel_rfl) (by kernel_rfl) (by kernel_rfl) (fun _ _ _ h => h) (Or.inl ⟨by rfl, fun X _ => by go_simp⟩) hHeld ?_
    try simp only [Act.put, List.setIfInBounds_toArray, List.set_cons_zero, List.set_cons_succ]
    refine take_at (i := 3) (v := .pointer (some ⟨g1, 0, none⟩)) rfl rfl (by kernel_rfl) (by kernel_rfl) (by kernel_rfl) (fun _ _ _ h => h) (Or.inl ⟨by rfl, fun X _ => by go_simp⟩) hHeld ?_
    try simp only [Act.put, List.setIfInBounds_toArray, List.set_cons_zero, List.set_cons_succ]
    refine take_at (i := 4) (v := .int .i64 ev.t) rfl rfl (by kernel_rfl) (by kernel_rfl) (by kernel_rfl) (fun _ _ _ h => h) (Or.inl ⟨by rfl, fun X hX => by obtain ⟨k0, k1, k2, k3⟩ := (hE.out.ch hX hg1b hg1b).c; go_simp⟩) hHeld ?_
    try simp only [Act.put, List.setIfInBounds_toArray, List.set_cons_zero, List.set_cons_succ]
    refine wpAnyH_ready (rs := [5]) (by kernel_rfl) (by simp) ?_
    refine AllReadyH.cons rfl (fun K hK => ?_) AllReadyH.nil
    rw [if_pos (by rfl)]
    go_wp2_with fail
    refine (on_is b q u r.m r.l r.s p.n p.s p.a p.k p.f ev.t ok l' s' _ hkD.out hon.out hlt'.out hsn'.out).mono ?_
    rintro e V2 ⟨rfl, hk2, hc2⟩
    have hk2' : Hid (Rnk V2 b r.m l' s' q u p.n p.s p.a p.k p.f) := hk2
    have hc2' : Hid (Ch b b W V2) := hHeld.trans hc2 (.inl rfl)
    clear hk2 hc2 hHeld hkD
    go_wp2_with fail
    refine hK.out _ _ (hc2'.out) (fun hHeld => ?_)
    clear hK K
    try simp only [Act.put, List.setIfInBounds_toArray, List.set_cons_zero, List.set_cons_succ]
    refine take_at (i := 6) (v := .bool (!ok)) rfl rfl (by kernel_rfl) (by kernel_rfl) (by kernel_rfl) (fun _ _ _ h => h) (Or.inl ⟨by rfl, fun X _ => by go_simp⟩) hHeld ?_
    try simp only [Act.put, List.setIfInBounds_toArray, List.set_cons_zero, List.set_cons_succ]
    refine wpAnyH_done (by kernel_rfl) ?_ _
    go_wp2_with fail
    go_meet
    exact ⟨rfl, hk2', hc2'⟩
  case rest =>
    obtain ⟨rfl, hk2, hc⟩ := hcut
    obtain ⟨W1, hWe⟩ : ∃ X, X = wc := ⟨_, rfl⟩
    subst hWe
    have P1 : Hid (Pan W1 q o p.n p.s p.a r.L) := hP.out.ofOne hc.out h1 h2
    have O1 : Hid (OpsIn W1 u p.os) := hO.out.ofOne hc.out hu'.out h3
    have T1 : Hid (OT W1 o) := hot'.out.keep ((hc.out.other o (Nat.lt_of_lt_of_le ho hbW.out.size) (Ne.symm h2) (Ne.symm h2)).trans (hbW.out.block o ho))
    have E1 : Hid (Evk W1 g1 ev) := hE.out.ch hc.out hg1b hg1b
    have hs1 : W.heap.size ≤ W1.heap.size := hc.out.size
    have hb1 : Hid (Ch3 b q o w W1) := (Ch3.ofBelow hbW.out).trans (Ch3.ofOne hc.out) (.inl rfl)
    have hw1 : w.heap.size ≤ W1.heap.size := hb1.out.size
    clear hk hP hO hE hc hbW
    cases ok with
    | false =>
      have he : Hid (stepR p r ⟨false, ev⟩ = ⟨r.m, l', s', r.L⟩) := by
        have h := hok.out
        rw [if_neg (by decide)] at h
        exact h
      go_wp2_with fail
      (try simp only [Exit.inBlock, Exit.then]); refine bodyPost_ret (results_none rfl _ _ _) rfl ?_
      rw [he.out]
      exact ⟨rfl, o, ⟨u, hk2.out, P1.out, O1.out, hu'.out, h1, h2, h3, h4, h5, by omega, T1.out⟩, .inl rfl, hb1.out⟩
    | true =>
      obtain ⟨hT, hm, rfl, rfl⟩ : okT ev.t = true ∧ ¬ ev.t < r.m ∧ l' = r.l ∧ s' = r.s + 1 := by
        have h := hok.out
        rw [if_pos rfl] at h
        exact h
      obtain ⟨y, yk, hy, hyl, hstep⟩ : ∃ (y : Ev) (yk : Bool), Hid (O.MO.run p.os ⟨ev.t, ev.k, ev.v, ev.l⟩ = (⟨y.t, y.k, y.v, y.l⟩, yk)) ∧ y.l < 18446744073709551616 ∧ Hid (stepR p r ⟨false, ev⟩ = if yk = true then ⟨r.m, r.l, r.s + 1, putE p.n p.s p.a r.L y⟩ else ⟨r.m, r.l, r.s + 1, r.L⟩) := by
        cases hx : runE p.os ev with
        | none =>
          refine ⟨⟨0, 0, 0, 0⟩, false, runE_none hx, by show (0 : Nat) < 18446744073709551616; omega, ?_⟩
          show stepR p r ⟨false, ev⟩ = if false = true then _ else _
          rw [if_neg (by decide)]
          exact step_drop rfl hT hm hx
        | some x =>
          refine ⟨x, true, (runE_some hx).1, by rw [(runE_some hx).2.2]; exact hel, ?_⟩
          show stepR p r ⟨false, ev⟩ = if true = true then _ else _
          rw [if_pos rfl]
          exact step_put rfl hT hm hx
      clear hok hon
      have c4 := hk2.out.c4
      obtain ⟨ua, ul, uc, rfl⟩ := O1.out.form
      go_upto_region 2 with fail
      clear c4
      go_cut [4, 5] (fun t ok wx => ∃ ge, t = .pointer (some ⟨ge, 0, none⟩) ∧ ok = .bool yk ∧ W1.heap.size ≤ ge ∧ Hid (Evk wx ge y) ∧ Hid (Below W1.heap.size W1 wx))
      case first =>
        refine wp_region_held_drew (S := fun X => Below W1.heap.size W1 X) (by kernel_rfl) (Below.refl _ _).drew (fun hHeld => ?_)
        generalize W1.drew = V at hHeld ⊢
        refine take_at (i := 0) (v := evv ev) rfl rfl (by kernel_rfl) (by kernel_rfl) (by kernel_rfl) (fun _ _ _ h => h) (Or.inl ⟨by rfl, fun X hX => by obtain ⟨k0, k1, k2, k3⟩ := (E1.out.below hX).c; go_simp; rfl⟩) hHeld ?_
        try simp only [Act.put, List.setIfInBounds_toArray, List.set_cons_zero, List.set_cons_succ]
        refine take_at (i := 1) (v := .pointer (some ⟨b, 0, none⟩)) rfl rfl (by kernel_rfl) (by kernel_rfl) (by kernel_rfl) (fun _ _ _ h => h) (Or.inl ⟨by rfl, fun X _ => by go_simp⟩) hHeld ?_
        try simp only [Act.put, List.setIfInBounds_toArray, List.set_cons_zero, List.set_cons_succ]
        refine take_at (i := 2) (v := .pointer (some ⟨b, 0, none⟩)) rfl rfl (by kernel_rfl) (by kernel_rfl) (by kernel_rfl) (fun _ _ _ h => h) (Or.inl ⟨by rfl, fun X _ => by go_simp⟩) hHeld ?_
        try simp only [Act.put, List.setIfInBounds_toArray, List.set_cons_zero, List.set_cons_succ]
        refine take_at (i := 3) (v := .pointer (some ⟨b, 4, none⟩)) rfl rfl (by kernel_rfl) (by kernel_rfl) (by kernel_rfl) (fun _ _ _ h => h) (Or.inl ⟨by rfl, fun X _ => by go_simp⟩) hHeld ?_
        try simp only [Act.put, List.setIfInBounds_toArray, List.set_cons_zero, List.set_cons_succ]
        refine take_at (i := 4) (v := .pointer (some ⟨b, 4, none⟩)) rfl rfl (by kernel_rfl) (by kernel_rfl) (by kernel_rfl) (fun _ _ _ h => h) (Or.inl ⟨by rfl, fun X _ => by go_simp⟩) hHeld ?_
        try simp only [Act.put, List.setIfInBounds_toArray, List.set_cons_zero, List.set_cons_succ]
        refine take_at (i := 5) (v := .slice ua ul uc) rfl rfl (by kernel_rfl) (by kernel_rfl) (by kernel_rfl) (fun _ _ _ h => h) (Or.inl ⟨by rfl, fun X hX => by have k4 := (hk2.out.keep (hX.block _ hk2.out.lt)).c4; go_simp⟩) hHeld ?_
        try simp only [Act.put, List.setIfInBounds_toArray, List.set_cons_zero, List.set_cons_succ]
        refine wpAnyH_ready (rs := [6, 10]) (by kernel_rfl) (by simp) ?_
        refine (AllReadyH.cons rfl (fun K hK => ?_) (AllReadyH.cons rfl (fun K hK => ?_) AllReadyH.nil))
        · rw [if_pos (by rfl)]
          go_wp2_with fail
          refine (O.run_is ev.t ev.k ev.v ev.l (.slice ua ul uc) p.os (⟨y.t, y.k, y.v, y.l⟩, yk) _ (O1.out.rd.call hHeld) hy.out).mono ?_
          rintro e V2 ⟨rfl, hb2⟩
          have hb3 : Hid (Below W1.heap.size W1 V2) := below_call hHeld hb2
          clear hHeld hb2
          go_wp2_with fail
          refine hK.out _ _ (hb3.out) (fun hHeld => ?_)
          clear hK K
          try simp only [Act.put, List.setIfInBounds_toArray, List.set_cons_zero, List.set_cons_succ]
          refine take_at (i := 7) (v := .tuple #[.agg #[.int .i64 y.t, .int .i64 y.k, .int .i64 y.v, .int .u64 y.l], .bool yk]) rfl rfl (by kernel_rfl) (by kernel_rfl) (by kernel_rfl) (fun _ _ _ h => h) (Or.inl ⟨by rfl, fun X _ => by go_simp⟩) hHeld ?_
          try simp only [Act.put, List.setIfInBounds_toArray, List.set_cons_zero, List.set_cons_succ]
          refine take_at (i := 8) (v := .agg #[.int .i64 y.t, .int .i64 y.k, .int .i64 y.v, .int .u64 y.l]) rfl rfl (by kernel_rfl) (by kernel_rfl) (by kernel_rfl) (fun _ _ _ h => h) (Or.inl ⟨by rfl, fun X _ => by go_simp⟩) hHeld ?_
          try simp only [Act.put, List.setIfInBounds_toArray, List.set_cons_zero, List.set_cons_succ]
          refine take_at (i := 9) (v := .bool yk) rfl rfl (by kernel_rfl) (by kernel_rfl) (by kernel_rfl) (fun _ _ _ h => h) (Or.inl ⟨by rfl, fun X _ => by go_simp⟩) hHeld ?_
          try simp only [Act.put, List.setIfInBounds_toArray, List.set_cons_zero, List.set_cons_succ]
          refine wpAnyH_ready (rs := [10]) (by kernel_rfl) (by simp) ?_
          refine AllReadyH.cons rfl (fun K hK => ?_) AllReadyH.nil
          rw [if_pos (by rfl)]
          go_simp
          refine hK.out _ _ (below_call hb3.out (below_alloc _ _)) (fun hHeld => ?_)
          clear hK K
          try simp only [Act.put, List.setIfInBounds_toArray, List.set_cons_zero, List.set_cons_succ]
          refine wpAnyH_ready (rs := [11]) (by kernel_rfl) (by simp) ?_
          refine AllReadyH.cons rfl (fun K hK => ?_) AllReadyH.nil
          rw [if_pos (by rfl)]
          go_simp
          refine hK.out _ _ (below_call hb3.out (below_alloc _ _)) (fun hHeld => ?_)
          clear hK K
          try simp only [Act.put, List.setIfInBounds_toArray, List.set_cons_zero, List.set_cons_succ]
          refine take_at (i := 12) (v := .bool yk) rfl rfl (by kernel_rfl) (by kernel_rfl) (by kernel_rfl) (fun _ _ _ h => h) (Or.inl ⟨by rfl, fun X _ => by go_simp⟩) hHeld ?_
          try simp only [Act.put, List.setIfInBounds_toArray, List.set_cons_zero, List.set_cons_succ]
          refine wpAnyH_done (by kernel_rfl) ?_ _
          go_wp2_with fail
          go_meet
          exact ⟨_, rfl, rfl, hb3.out.size, evk_new V2 y, below_call hb3.out (below_alloc _ _)⟩
        · rw [if_pos (by rfl)]
          go_simp
          obtain ⟨ge, hge⟩ : ∃ x, Hid (V.heap.size = x) := ⟨_, rfl⟩
          have z1 : Hid (Evk (V.alloc (.cells #[.int .i64 0, .int .i64 0, .int .i64 0, .int .u64 0] 29)) ge ⟨0, 0, 0, 0⟩) := by rw [← hge.out]; exact evk_new V ⟨0, 0, 0, 0⟩
          have hb1' : Hid (Below W1.heap.size W1 (V.alloc (.cells #[.int .i64 0, .int .i64 0, .int .i64 0, .int .u64 0] 29))) := below_call hHeld (below_alloc _ _)
          have hge1 : W1.heap.size ≤ ge := by have := hge.out; have := hHeld.size; omega
          rw [hge.out]
          refine hK.out _ _ (hb1'.out) (fun hHeld => ?_)
          clear hK K
          try simp only [Act.put, List.setIfInBounds_toArray, List.set_cons_zero, List.set_cons_succ]
          clear hHeld
          have hHeld := hb1'.out
          generalize V.alloc (.cells #[.int .i64 0, .int .i64 0, .int .i64 0, .int .u64 0] 29) = V1 at hb1' z1 hHeld ⊢
          refine wpAnyH_ready (rs := [6]) (by kernel_rfl) (by simp) ?_
          refine (AllReadyH.cons rfl (fun K hK => ?_) AllReadyH.nil)
          rw [if_pos (by rfl)]
          go_wp2_with fail
          refine (O.run_is ev.t ev.k ev.v ev.l (.slice ua ul uc) p.os (⟨y.t, y.k, y.v, y.l⟩, yk) _ (O1.out.rd.call hHeld) hy.out).mono ?_
          rintro e V2 ⟨rfl, hb2⟩
          have hb3 : Hid (Below W1.heap.size W1 V2) := below_call hHeld hb2
          have z2 : Hid (Evk V2 ge ⟨0, 0, 0, 0⟩) := z1.out.below hb2
          clear hHeld hb2 hb1' z1
          go_wp2_with fail
          refine hK.out _ _ (hb3.out) (fun hHeld => ?_)
          clear hK K
          try simp only [Act.put, List.setIfInBounds_toArray, List.set_cons_zero, List.set_cons_succ]
          refine take_at (i := 7) (v := .tuple #[.agg #[.int .i64 y.t, .int .i64 y.k, .int .i64 y.v, .int .u64 y.l], .bool yk]) rfl rfl (by kernel_rfl) (by kernel_rfl) (by kernel_rfl) (fun _ _ _ h => h) (Or.inl ⟨by rfl, fun X _ => by go_simp⟩) hHeld ?_
          try simp only [Act.put, List.setIfInBounds_toArray, List.set_cons_zero, List.set_cons_succ]
          refine take_at (i := 8) (v := .agg #[.int .i64 y.t, .int .i64 y.k, .int .i64 y.v, .int .u64 y.l]) rfl rfl (by kernel_rfl) (by kernel_rfl) (by kernel_rfl) (fun _ _ _ h => h) (Or.inl ⟨by rfl, fun X _ => by go_simp⟩) hHeld ?_
          try simp only [Act.put, List.setIfInBounds_toArray, List.set_cons_zero, List.set_cons_succ]
          refine take_at (i := 9) (v := .bool yk) rfl rfl (by kernel_rfl) (by kernel_rfl) (by kernel_rfl) (fun _ _ _ h => h) (Or.inl ⟨by rfl, fun X _ => by go_simp⟩) hHeld ?_
          try simp only [Act.put, List.setIfInBounds_toArray, List.set_cons_zero, List.set_cons_succ]
          have hb4 : Hid (Below W1.heap.size W1 ((((V2.setCell ⟨ge, 0, none⟩ (.int .i64 y.t)).setCell ⟨ge, 1, none⟩ (.int .i64 y.k)).setCell ⟨ge, 2, none⟩ (.int .i64 y.v)).setCell ⟨ge, 3, none⟩ (.int .u64 y.l))) := (((hb3.out.setCell (p := ⟨ge, 0, none⟩) hge1 _).setCell (p := ⟨ge, 1, none⟩) hge1 _).setCell (p := ⟨ge, 2, none⟩) hge1 _).setCell (p := ⟨ge, 3, none⟩) hge1 _
          obtain ⟨x0, x1, x2, x3⟩ := z2.out.c
          have f0 := Evk.free' z2.out 0
          have f1 := Evk.free' z2.out 1
          have f2 := Evk.free' z2.out 2
          have f3 := Evk.free' z2.out 3
          refine wpAnyH_ready (rs := [11]) (by kernel_rfl) (by simp) ?_
          refine AllReadyH.cons rfl (fun K hK => ?_) AllReadyH.nil
          rw [if_pos (by rfl)]
          go_simp
          refine hK.out _ _ (hb4.out) (fun hHeld => ?_)
          clear hK K
          try simp only [Act.put, List.setIfInBounds_toArray, List.set_cons_zero, List.set_cons_succ]
          clear x0 x1 x2 x3 f0 f1 f2 f3
          refine take_at (i := 12) (v := .bool yk) rfl rfl (by kernel_rfl) (by kernel_rfl) (by kernel_rfl) (fun _ _ _ h => h) (Or.inl ⟨by rfl, fun X _ => by go_simp⟩) hHeld ?_
          try simp only [Act.put, List.setIfInBounds_toArray, List.set_cons_zero, List.set_cons_succ]
          refine wpAnyH_done (by kernel_rfl) ?_ _
          go_wp2_with fail
          go_meet
          exact ⟨_, rfl, rfl, hge1, Evk.set' z2.out y, hb4⟩
      case rest =>
        obtain ⟨ge, rfl, rfl, hge, hE2, hb2⟩ := hcut
        obtain ⟨W2, hWe⟩ : ∃ X, X = wc := ⟨_, rfl⟩
        subst hWe
        have P2 : Hid (Pan W2 q o p.n p.s p.a r.L) := P1.out.below hb2.out
        have O2 : Hid (OpsIn W2 (.slice ua ul uc) p.os) := O1.out.below hb2.out
        have T2 : Hid (OT W2 o) := T1.out.keep (hb2.out.block o T1.out.lt)
        have k2' : Hid (Rnk W2 b r.m r.l (r.s + 1) q (.slice ua ul uc) p.n p.s p.a p.k p.f) := hk2.out.keep (hb2.out.block _ hk2.out.lt)
        have hc2 : Hid (Ch3 b q o w W2) := hb1.out.trans (Ch3.ofBelow hb2.out) (.inl rfl)
        have hw2 : w.heap.size ≤ W2.heap.size := hc2.out.size
        clear P1 O1 hk2 hb1 E1
        cases yk with
        | false =>
          have he : Hid (stepR p r ⟨false, ev⟩ = ⟨r.m, r.l, r.s + 1, r.L⟩) := by
            have h := hstep.out
            rw [if_neg (by decide)] at h
            exact h
          go_wp2_with fail
          go_end0
          rw [he.out]
          exact ⟨rfl, o, ⟨_, k2'.out, P2.out, O2.out, hu'.out, h1, h2, h3, h4, h5, by omega, T2.out⟩, .inl rfl, hc2.out⟩
        | true =>
          have he : Hid (stepR p r ⟨false, ev⟩ = ⟨r.m, r.l, r.s + 1, putE p.n p.s p.a r.L y⟩) := by
            have h := hstep.out
            rw [if_pos rfl] at h
            exact h
          go_upto_region 4 with fail
          refine wp_region_held_drew (S := fun X => Ch q o W2 X) (by kernel_rfl) (Ch.refl _ _ _).drew (fun hHeld => ?_)
          have hB0 : Hid (Below W2.heap.size W2 W2.drew) := (Below.refl _ _).drew
          generalize W2.drew = V at hHeld hB0 ⊢
          have hgq : ge ≠ q := by omega
          have hgo : ge ≠ o := by omega
          refine take_at (i := 0) (v := .pointer (some ⟨b, 0, none⟩)) rfl rfl (by kernel_rfl) (by kernel_rfl) (by kernel_rfl) (fun _ _ _ h => h) (Or.inl ⟨by rfl, fun X _ => by go_simp⟩) hHeld ?_
          try simp only [Act.put, List.setIfInBounds_toArray, List.set_cons_zero, List.set_cons_succ]
          refine take_at (i := 1) (v := .pointer (some ⟨b, 0, none⟩)) rfl rfl (by kernel_rfl) (by kernel_rfl) (by kernel_rfl) (fun _ _ _ h => h) (Or.inl ⟨by rfl, fun X _ => by go_simp⟩) hHeld ?_
          try simp only [Act.put, List.setIfInBounds_toArray, List.set_cons_zero, List.set_cons_succ]
          refine take_at (i := 2) (v := .pointer (some ⟨b, 3, none⟩)) rfl rfl (by kernel_rfl) (by kernel_rfl) (by kernel_rfl) (fun _ _ _ h => h) (Or.inl ⟨by rfl, fun X _ => by go_simp⟩) hHeld ?_
          try simp only [Act.put, List.setIfInBounds_toArray, List.set_cons_zero, List.set_cons_succ]
          refine take_at (i := 3) (v := .pointer (some ⟨q, 0, none⟩)) rfl rfl (by kernel_rfl) (by kernel_rfl) (by kernel_rfl) (fun _ _ _ h => h) (Or.inl ⟨by rfl, fun X hX => by have k3 := (k2'.out.keep (hX.other _ k2'.out.lt h1 h2)).c3; go_simp⟩) hHeld ?_
          try simp only [Act.put, List.setIfInBounds_toArray, List.set_cons_zero, List.set_cons_succ]
          refine take_at (i := 4) (v := .agg #[.int .i64 y.t, .int .i64 y.k, .int .i64 y.v, .int .u64 y.l]) rfl rfl (by kernel_rfl) (by kernel_rfl) (by kernel_rfl) (fun _ _ _ h => h) (Or.inl ⟨by rfl, fun X hX => by obtain ⟨k0, k1, k2, k3⟩ := (hE2.out.ch hX hgq hgo).c; go_simp⟩) hHeld ?_
          try simp only [Act.put, List.setIfInBounds_toArray, List.set_cons_zero, List.set_cons_succ]
          refine wpAnyH_ready (rs := [5]) (by kernel_rfl) (by simp) ?_
          refine AllReadyH.cons rfl (fun K hK => ?_) AllReadyH.nil
          rw [if_pos (by rfl)]
          go_simp
          have hB1 : Hid (Below W2.heap.size W2 (V.alloc (.cells #[.int .i64 y.t, .int .i64 y.k, .int .i64 y.v, .int .u64 y.l] 29))) := below_call hB0.out (below_alloc _ _)
          have hE3 : Hid (RdE (V.alloc (.cells #[.int .i64 y.t, .int .i64 y.k, .int .i64 y.v, .int .u64 y.l] 29)) (.slice (some ⟨V.heap.size, 0, none⟩) 1 1) V.heap.size [y]) := rde_lit V [y] (by simp) (by simpa using hyl)
          have hVz : W2.heap.size ≤ V.heap.size := hB0.out.size
          refine hK.out _ _ (Ch.ofBelow hB1.out) (fun hHeld => ?_)
          clear hK K
          try simp only [Act.put, List.setIfInBounds_toArray, List.set_cons_zero, List.set_cons_succ]
          generalize V.alloc (.cells #[.int .i64 y.t, .int .i64 y.k, .int .i64 y.v, .int .u64 y.l] 29) = V1 at hB1 hE3 hHeld ⊢
          have P3 : Hid (Pan V1 q o p.n p.s p.a r.L) := P2.out.below hB1.out
          have hoz := P2.out.olt
          have hqz := P2.out.lt
          refine wpAnyH_ready (rs := [6]) (by kernel_rfl) (by simp) ?_
          refine AllReadyH.cons rfl (fun K hK => ?_) AllReadyH.nil
          rw [if_pos (by rfl)]
          go_wp2_with fail
          refine (put_is q o p.n p.s p.a r.L _ V.heap.size [y] _ P3.out hE3.out (by omega) (by omega) (by have := hl'.out; simp; omega)).mono ?_
          rintro e V3 ⟨o2, rfl, hP3, ho2, hc3⟩
          have P4 : Hid (Pan V3 q o2 p.n p.s p.a (putE p.n p.s p.a r.L y)) := by
            have h : Pan V3 q o2 p.n p.s p.a (putE p.n p.s p.a r.L y) := by simpa [putL] using hP3
            exact h
          have c4 : Hid (Ch q o W2 V3) := (Ch.ofBelow hB1.out).trans hc3 (.inl rfl)
          have hV1z : W2.heap.size ≤ V1.heap.size := hB1.out.size
          have ho3 : o2 = o ∨ W2.heap.size ≤ o2 := by omega
          clear hP3 hc3 hHeld hB1 hE3 P3 ho2
          go_wp2_with fail
          refine hK.out _ _ (c4.out) (fun hHeld => ?_)
          clear hK K
          try simp only [Act.put, List.setIfInBounds_toArray, List.set_cons_zero, List.set_cons_succ]
          refine wpAnyH_done (by kernel_rfl) ?_ _
          go_wp2_with fail
          go_end0
          rw [he.out]
          have hob : b ≠ o2 := by have := k2'.out.lt; rcases ho3 with rfl | h; exact h2; omega
          have hgo2 : g ≠ o2 := by rcases ho3 with rfl | h; exact h5; omega
          obtain ⟨o3, ho3', P5, hot3⟩ := P4.out.ot
          refine ⟨o3, rfl, ⟨_, k2'.out.keep (c4.out.other b k2'.out.lt h1 h2), P5, O2.out.keep (fun k hk hl2 => c4.out.other k hl2 (by rw [hu'.out k hk]; exact h4) (by rw [hu'.out k hk]; exact h5)), hu'.out, h1, by omega, h3, h4, by omega, by have := c4.out.size; omega, hot3⟩, by omega, hc2.out.trans (Ch3.ofCh c4.out) (.inl rfl)⟩
end Go.Proofs.Ytnamjnopicghhaa
