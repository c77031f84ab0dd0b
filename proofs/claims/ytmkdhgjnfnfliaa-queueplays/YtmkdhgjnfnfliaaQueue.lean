/- What a Queue's calls do: queues and lists of the call's own, all apart from each other. -/
import Derived.Test.YtmkdhgjnfnfliaaKit
namespace Go.Proofs.Ytmkdhgjnfnfliaa
open Go.RowKit
set_option linter.unusedVariables false
set_option linter.unusedSimpArgs false
attribute [local go_sem ↓] Go.wp_at_zero Go.wp_at_succ

/-- Two values that share no block. -/
def Apt (u v : Value) : Prop := ∀ k, u.ownBlock = some k → v.ownBlock ≠ some k
theorem Apt.symm {u v : Value} (h : Apt u v) : Apt v u := fun k h1 h2 => h k h2 h1
/-- A Queue's block. -/
def Qb (w : World) (b : Nat) (v : Value) : Prop := w.heap[b]? = some (.cells #[v] 24 (0, 0))
theorem Qb.c {w : World} {b : Nat} {v : Value} (h : Qb w b v) : w.cell? ⟨b, 0, none⟩ = some v := by unfold Qb at h; simp [World.cell?, h]
theorem Qb.free {w : World} {b : Nat} {v : Value} (h : Qb w b v) (i : Nat) : w.frozen? ⟨b, i, none⟩ = false := by unfold Qb at h; simp [World.frozen?, h]
theorem Qb.lt {w : World} {b : Nat} {v : Value} (h : Qb w b v) : b < w.heap.size := (Array.getElem?_eq_some_iff.1 h).1
theorem Qb.set {w : World} {b : Nat} {v : Value} (h : Qb w b v) (u : Value) : Qb (w.setCell ⟨b, 0, none⟩ u) b u := by
  unfold Qb at h ⊢
  simp [World.setCell, Array.getElem?_modify, h]
theorem qb_new (w : World) (v : Value) : Qb (w.alloc (.cells #[v] 24)) w.heap.size v := by
  show (w.heap.push _)[w.heap.size]? = _
  simp
/-- Nothing but block b and one row's block has turned. -/
structure Mv (b : Nat) (row : Option Nat) (w w' : World) : Prop where
  os : w'.os = w.os
  tape : w'.tape = w.tape
  output : w'.output = w.output
  size : w.heap.size ≤ w'.heap.size
  block : ∀ k, k < w.heap.size → k ≠ b → some k ≠ row → w'.heap[k]? = w.heap[k]?
theorem Mv.below {b B : Nat} {row : Option Nat} {w w' : World} (h : Mv b row w w') (hb : B ≤ b) (hr : ∀ k, row = some k → B ≤ k) (hB : B ≤ w.heap.size) : Below B w w' :=
  ⟨h.os, h.tape, h.output, h.size, fun g hg => h.block g (by omega) (by omega) (fun e => by have := hr g e.symm; omega)⟩
theorem Qv.typ {w : World} {v : Value} {is : List Inp} (h : Qv w v is) : ∀ k, v.ownBlock = some k → ∃ cur, w.heap[k]? = some (.cells cur 37 (0, 0)) := by
  intro k hk
  rcases h with ⟨rfl, _⟩ | ⟨g, off, cap, cur, rfl, hh, _⟩
  · cases hk
  · simp only [Value.ownBlock, Option.some.injEq] at hk
    subst hk
    exact ⟨cur, hh⟩
theorem Qb.ne {w : World} {b k : Nat} {v u : Value} {is : List Inp} (h : Qb w b v) (hq : Qv w u is) (hk : u.ownBlock = some k) : k ≠ b := by
  rintro rfl
  obtain ⟨cur, hc⟩ := hq.typ _ hk
  unfold Qb at h
  rw [hc] at h
  simp at h
abbrev Qt := Nat × Value × List Inp
abbrev Lt := Value × List Inp
def vals (qs : List Qt) (ls : List Lt) : List Value := qs.map (fun x => x.2.1) ++ ls.map (fun x => x.1)
/-- What stands: queues and lists, all apart; nothing that was there ahead has turned. -/
structure St (W0 w : World) (qs : List Qt) (ls : List Lt) : Prop where
  b : Below W0.heap.size W0 w
  q : ∀ x ∈ qs, W0.heap.size ≤ x.1 ∧ Qb w x.1 x.2.1 ∧ Qv w x.2.1 x.2.2
  l : ∀ x ∈ ls, Qv w x.1 x.2
  lo : ∀ v ∈ vals qs ls, ∀ k, v.ownBlock = some k → W0.heap.size ≤ k
  ap : (vals qs ls).Pairwise Apt
  nd : qs.Pairwise (fun x y => x.1 ≠ y.1)
section
variable {W0 w w' : World} {qs : List Qt} {ls : List Lt} {b : Nat} {v v' u u' : Value} {L L' M M' : List Inp}
theorem st_start (w : World) : St w w [] [] := ⟨Below.refl _ _, by simp, by simp, by simp [vals], by simp [vals], by simp⟩
theorem St.hd (h : St W0 w ((b, v, L) :: qs) ls) : W0.heap.size ≤ b ∧ Qb w b v ∧ Qv w v L := h.q (b, v, L) (by simp)
theorem St.hl (h : St W0 w qs ((v, L) :: ls)) : Qv w v L := h.l (v, L) (by simp)
theorem St.qv (h : St W0 w qs ls) : ∀ v ∈ vals qs ls, ∃ is, Qv w v is := by
  intro v hv
  unfold vals at hv
  rcases List.mem_append.1 hv with hv | hv
  · obtain ⟨x, hx, rfl⟩ := List.mem_map.1 hv
    exact ⟨_, (h.q x hx).2.2⟩
  · obtain ⟨x, hx, rfl⟩ := List.mem_map.1 hv
    exact ⟨_, h.l x hx⟩
theorem St.lt (h : St W0 w qs ls) : ∀ v ∈ vals qs ls, ∀ k, v.ownBlock = some k → k < w.heap.size := fun v hv => by
  obtain ⟨is, hq⟩ := h.qv v hv
  exact hq.lt
theorem St.below (h : St W0 w qs ls) (hb : Below w.heap.size w w') : St W0 w' qs ls :=
  ⟨below_call h.b hb, fun x hx => ⟨(h.q x hx).1, (hb.block _ (h.q x hx).2.1.lt).trans (h.q x hx).2.1, (h.q x hx).2.2.below hb⟩, fun x hx => (h.l x hx).below hb, h.lo, h.ap, h.nd⟩
/-- The values may be told in another order. -/
theorem St.swapl {x y : Lt} (h : St W0 w qs (x :: y :: ls)) : St W0 w qs (y :: x :: ls) := by
  have hp : (vals qs (x :: y :: ls)).Perm (vals qs (y :: x :: ls)) := List.Perm.append_left _ (List.Perm.swap _ _ _)
  exact ⟨h.b, h.q, fun z hz => h.l z ((List.Perm.swap x y ls).mem_iff.1 hz), fun v hv => h.lo v (hp.mem_iff.2 hv), h.ap.perm hp (fun h => h.symm), h.nd⟩
theorem St.swapl3 {x y z : Lt} (h : St W0 w qs (x :: y :: z :: ls)) : St W0 w qs (z :: x :: y :: ls) := by
  have hq : (x :: y :: z :: ls).Perm (z :: x :: y :: ls) := ((List.Perm.swap z y ls).cons x).trans (List.Perm.swap z x (y :: ls))
  have hp : (vals qs (x :: y :: z :: ls)).Perm (vals qs (z :: x :: y :: ls)) := List.Perm.append_left _ (hq.map _)
  exact ⟨h.b, h.q, fun t ht => h.l t (hq.mem_iff.2 ht), fun v hv => h.lo v (hp.mem_iff.2 hv), h.ap.perm hp (fun h => h.symm), h.nd⟩
theorem St.swapq {x y : Qt} (h : St W0 w (x :: y :: qs) ls) : St W0 w (y :: x :: qs) ls := by
  have hp : (vals (x :: y :: qs) ls).Perm (vals (y :: x :: qs) ls) := List.Perm.append_right _ (List.Perm.swap _ _ _)
  refine ⟨h.b, fun z hz => h.q z ((List.Perm.swap x y qs).mem_iff.1 hz), h.l, fun v hv => h.lo v (hp.mem_iff.2 hv), h.ap.perm hp (fun h => h.symm), ?_⟩
  exact h.nd.perm (List.Perm.swap _ _ _) (fun h => Ne.symm h)
theorem St.dropl {x : Lt} (h : St W0 w qs (x :: ls)) : St W0 w qs ls := by
  have hs : List.Sublist (vals qs ls) (vals qs (x :: ls)) := List.Sublist.append (List.Sublist.refl _) (List.sublist_cons_self _ _)
  exact ⟨h.b, h.q, fun z hz => h.l z (List.mem_cons_of_mem _ hz), fun v hv => h.lo v (hs.subset hv), h.ap.sublist hs, h.nd⟩
theorem St.dropq {x : Qt} (h : St W0 w (x :: qs) ls) : St W0 w qs ls := by
  have hs : List.Sublist (vals qs ls) (vals (x :: qs) ls) := List.sublist_cons_self _ _
  exact ⟨h.b, fun z hz => h.q z (List.mem_cons_of_mem _ hz), h.l, fun v hv => h.lo v (hs.subset hv), h.ap.sublist hs, (List.pairwise_cons.1 h.nd).2⟩
/-- A list more, in new memory. -/
theorem St.newl (h : St W0 w qs ls) (hb : Below w.heap.size w w') (hq : Qv w' u M) (hf : ∀ k, u.ownBlock = some k → w.heap.size ≤ k) : St W0 w' qs ((u, M) :: ls) := by
  have h' := h.below hb
  have hp : (vals qs ((u, M) :: ls)).Perm (u :: vals qs ls) := List.perm_middle
  refine ⟨h'.b, h'.q, fun z hz => ?_, fun v hv => ?_, ?_, h.nd⟩
  · rcases List.mem_cons.1 hz with rfl | hz
    · exact hq
    · exact h'.l z hz
  · rcases List.mem_cons.1 (hp.mem_iff.1 hv) with rfl | hv
    · exact fun k hk => Nat.le_trans h.b.size (hf k hk)
    · exact h.lo v hv
  · refine List.Pairwise.perm (List.pairwise_cons.2 ⟨fun y hy k hk hk2 => ?_, h.ap⟩) hp.symm (fun h => h.symm)
    have := h.lt y hy k hk2
    have := hf k hk
    omega
/-- A list grows, or is written over. -/
theorem St.app (h : St W0 w qs ((u, M) :: ls)) (hg : w.grownBy w' u.ownBlock) (hq : Qv w' u' M') (hf : ∀ k, u'.ownBlock = some k → u.ownBlock = some k ∨ w.heap.size ≤ k) : St W0 w' qs ((u', M') :: ls) := by
  have hp : (vals qs ((u, M) :: ls)).Perm (u :: vals qs ls) := List.perm_middle
  have hp' : (vals qs ((u', M') :: ls)).Perm (u' :: vals qs ls) := List.perm_middle
  have ha := List.pairwise_cons.1 (h.ap.perm hp (fun h => h.symm))
  have hu : Qv w u M := h.l (u, M) (by simp)
  have hkeep : ∀ y, y ∈ vals qs ls → ∀ is, Qv w y is → Qv w' y is := fun y hy is hyq =>
    hyq.keep fun k hk => hg.block k (hyq.lt k hk) (fun e => (ha.1 y hy) k e.symm hk)
  have hlo : ∀ k, u.ownBlock = some k → W0.heap.size ≤ k := h.lo u (hp.mem_iff.2 (by simp))
  refine ⟨h.b.grown hg h.b.size hlo, fun x hx => ?_, fun z hz => ?_, fun y hy => ?_, ?_, h.nd⟩
  · obtain ⟨h1, h2, h3⟩ := h.q x hx
    refine ⟨h1, ?_, hkeep _ (List.mem_append_left _ (List.mem_map_of_mem hx)) _ h3⟩
    exact (hg.block _ h2.lt (fun e => h2.ne hu e.symm rfl)).trans h2
  · rcases List.mem_cons.1 hz with rfl | hz
    · exact hq
    · exact hkeep _ (List.mem_append_right _ (List.mem_map_of_mem hz)) _ (h.l z (List.mem_cons_of_mem _ hz))
  · rcases List.mem_cons.1 (hp'.mem_iff.1 hy) with rfl | hy
    · intro k hk
      rcases hf k hk with h1 | h1
      · exact hlo k h1
      · exact Nat.le_trans h.b.size h1
    · exact h.lo y (hp.mem_iff.2 (List.mem_cons_of_mem _ hy))
  · refine List.Pairwise.perm (List.pairwise_cons.2 ⟨fun y hy k hk hk2 => ?_, ha.2⟩) hp'.symm (fun h => h.symm)
    rcases hf k hk with h1 | h1
    · exact ha.1 y hy k h1 hk2
    · have := h.lt y (hp.mem_iff.2 (List.mem_cons_of_mem _ hy)) k hk2
      omega
/-- The same list told otherwise: another part of it. -/
theorem St.part (h : St W0 w qs ((u, M) :: ls)) (hq : Qv w u' M') (hf : ∀ k, u'.ownBlock = some k → u.ownBlock = some k) : St W0 w qs ((u', M') :: ls) :=
  h.app ⟨rfl, rfl, rfl, Nat.le_refl _, fun _ _ _ => rfl⟩ hq (fun k hk => .inl (hf k hk))
/-- A call turns a queue. -/
theorem St.act (h : St W0 w ((b, v, L) :: qs) ls) (hm : Mv b v.ownBlock w w') (hb : Qb w' b v') (hq : Qv w' v' L') (hf : ∀ k, v'.ownBlock = some k → v.ownBlock = some k ∨ w.heap.size ≤ k) : St W0 w' ((b, v', L') :: qs) ls := by
  obtain ⟨h1, h2, h3⟩ := h.q (b, v, L) (by simp)
  have ha : (∀ y ∈ vals qs ls, Apt v y) ∧ (vals qs ls).Pairwise Apt := List.pairwise_cons.1 h.ap
  have hn := List.pairwise_cons.1 h.nd
  have hlo : ∀ k, v.ownBlock = some k → W0.heap.size ≤ k := h.lo v (by simp [vals])
  have hkeep : ∀ y, y ∈ vals qs ls → ∀ is, Qv w y is → Qv w' y is := fun y hy is hyq =>
    hyq.keep fun k hk => hm.block k (hyq.lt k hk) (h2.ne hyq hk) (fun e => (ha.1 y hy) k e.symm hk)
  refine ⟨h.b.trans (hm.below h1 hlo h.b.size), fun x hx => ?_, fun z hz => ?_, fun y hy => ?_, ?_, ?_⟩
  · rcases List.mem_cons.1 hx with rfl | hx
    · exact ⟨h1, hb, hq⟩
    · obtain ⟨k1, k2, k3⟩ := h.q x (List.mem_cons_of_mem _ hx)
      refine ⟨k1, ?_, hkeep _ (List.mem_append_left _ (List.mem_map_of_mem hx)) _ k3⟩
      exact (hm.block _ k2.lt (Ne.symm (hn.1 x hx)) (fun e => k2.ne h3 e.symm rfl)).trans k2
  · exact hkeep _ (List.mem_append_right _ (List.mem_map_of_mem hz)) _ (h.l z hz)
  · have hy' : y = v' ∨ y ∈ vals qs ls := List.mem_cons.1 hy
    rcases hy' with rfl | hy'
    · intro k hk
      rcases hf k hk with h1 | h1
      · exact hlo k h1
      · exact Nat.le_trans h.b.size h1
    · exact h.lo y (List.mem_cons_of_mem _ hy')
  · refine List.pairwise_cons.2 ⟨fun y hy k hk hk2 => ?_, ha.2⟩
    rcases hf k hk with h1 | h1
    · exact ha.1 y hy k h1 hk2
    · have := h.lt y (List.mem_cons_of_mem _ hy) k hk2
      omega
  · exact List.pairwise_cons.2 ⟨fun y hy => hn.1 y hy, hn.2⟩
/-- A queue more. -/
theorem St.newq (h : St W0 w qs ls) (hm : Below w.heap.size w w') (hb : Qb w' b v) (hbn : w.heap.size ≤ b) (hq : Qv w' v L) (hf : ∀ k, v.ownBlock = some k → w.heap.size ≤ k) : St W0 w' ((b, v, L) :: qs) ls := by
  have h' := h.below hm
  refine ⟨h'.b, fun x hx => ?_, h'.l, fun y hy => ?_, ?_, ?_⟩
  · rcases List.mem_cons.1 hx with rfl | hx
    · exact ⟨Nat.le_trans h.b.size hbn, hb, hq⟩
    · exact h'.q x hx
  · have hy' : y = v ∨ y ∈ vals qs ls := List.mem_cons.1 hy
    rcases hy' with rfl | hy'
    · exact fun k hk => Nat.le_trans h.b.size (hf k hk)
    · exact h.lo y hy'
  · refine List.pairwise_cons.2 ⟨fun y hy k hk hk2 => ?_, h.ap⟩
    have := h.lt y hy k hk2
    have := hf k hk
    omega
  · refine List.pairwise_cons.2 ⟨fun y hy => ?_, h.nd⟩
    have := (h.q y hy).2.1.lt
    show b ≠ y.1
    omega
theorem St.newq0 (h : St W0 w qs ls) : St W0 (w.alloc (.cells #[.slice none 0 0] 24)) ((w.heap.size, .slice none 0 0, []) :: qs) ls :=
  h.newq (below_alloc _ _) (qb_new _ _) (Nat.le_refl _) (qv_nil _) (fun k hk => by cases hk)
theorem St.newl0 (h : St W0 w qs ls) (is : List Inp) (hl : is.length ≤ 1000) : St W0 (w.alloc (.cells (ins is).toArray 37)) qs ((.slice (some ⟨w.heap.size, 0, none⟩) is.length is.length, is) :: ls) :=
  h.newl (below_alloc _ _) (qv_lit _ _ hl) (fun k hk => by simp only [Value.ownBlock, Option.some.injEq] at hk; omega)
theorem St.nill (h : St W0 w qs ls) : St W0 w qs ((.slice none 0 0, []) :: ls) := h.newl (Below.refl _ _) (qv_nil _) (fun k hk => by cases hk)
end

/-- queue.copyOf. -/
theorem copy_is (u : Value) (qb : Nat) (is : List Inp) (w : World) (hu : RdI w u qb is) (hl : is.length ≤ 1000000) :
    Calls Try.prog 17 #[u] w fun e w' => ∃ v, e = .returned v ∧ Qv w' v is ∧ Below w.heap.size w w' ∧ ∀ k, v.ownBlock = some k → w.heap.size ≤ k := by
  go_enter Try.func17, Try.ntmps17
  go_wp2_with (refine wpList_append_q (by rfl) _ _ rfl (.slice none 0 0) [] rfl (qv_nil _) u qb is rfl hu (by simpa using hl) ?_; rintro v1 w1 hq1 hg1 hf1)
  go_ret
  refine ⟨_, rfl, hq1, (Below.refl _ _).grown hg1 (Nat.le_refl _) (fun k hk => by cases hk), fun k hk => ?_⟩
  rcases hf1 k hk with h | h
  · cases h
  · exact h
/-- Queue.Waiting. -/
theorem waiting_is (v : Value) (is : List Inp) (w : World) (hq : Qv w v is) :
    Calls Try.prog 10 #[.agg #[v]] w fun e w' => e = .returned (.int .i64 (is.length : Nat)) ∧ Below w.heap.size w w' := by
  obtain ⟨ao, cap, rfl, h1, h2, h3⟩ := hq.len
  generalize is.length = n at *
  go_enter Try.func10, Try.ntmps10
  go_wp2
  go_ret
  exact ⟨rfl, below_alloc _ _⟩
/-- Queue.All. -/
theorem all_is (v : Value) (is : List Inp) (w : World) (hq : Qv w v is) (hl : is.length ≤ 1000000) :
    Calls Try.prog 16 #[.agg #[v]] w fun e w' => ∃ u, e = .returned u ∧ Qv w' u is ∧ Below w.heap.size w w' ∧ ∀ k, u.ownBlock = some k → w.heap.size ≤ k := by
  have hb := below_alloc w (.cells #[v] 24)
  obtain ⟨qb, hr⟩ := (hq.below hb).rdi
  have hz : w.heap.size ≤ (w.alloc (.cells #[v] 24)).heap.size := by simp
  have c0 := (qb_new w v).c
  go_enter Try.func16, Try.ntmps16
  go_upto_region 1 with fail
  generalize w.alloc (.cells #[v] 24) = w1 at *
  go_wp2_with fail
  refine (copy_is v qb is _ hr hl).mono ?_
  rintro e w2 ⟨u, rfl, hu, b2, hf⟩
  go_wp2
  go_ret
  exact ⟨_, rfl, hu, below_call hb b2, fun k hk => Nat.le_trans hz (hf k hk)⟩
/-- Queue.Split. -/
theorem split_is (v : Value) (is : List Inp) (w : World) (hq : Qv w v is) (hl : is.length ≤ 1000000) :
    Calls Try.prog 15 #[.agg #[v]] w fun e w' => ∃ u, e = .returned (.agg #[u]) ∧ Qv w' u is ∧ Below w.heap.size w w' ∧ ∀ k, u.ownBlock = some k → w.heap.size ≤ k := by
  have hb : Below w.heap.size w ((w.alloc (.cells #[v] 24)).alloc (.cells #[.slice none 0 0] 24)) := (below_alloc w _).trans ((below_alloc _ _).mono (by simp))
  have hb1 := below_alloc w (.cells #[v] 24)
  obtain ⟨qb, hr⟩ := (hq.below hb).rdi
  have hz : w.heap.size + 1 < ((w.alloc (.cells #[v] 24)).alloc (.cells #[.slice none 0 0] 24)).heap.size := by simp
  have k0 : Hid (Qb ((w.alloc (.cells #[v] 24)).alloc (.cells #[.slice none 0 0] 24)) (w.heap.size + 1) (.slice none 0 0)) := by
    have h1 := qb_new (w.alloc (.cells #[v] 24)) (.slice none 0 0)
    have h2 : Qb ((w.alloc (.cells #[v] 24)).alloc (.cells #[.slice none 0 0] 24)) (w.heap.size + 1) (.slice none 0 0) := by simpa using h1
    exact h2
  have c0 : ((w.alloc (.cells #[v] 24)).alloc (.cells #[.slice none 0 0] 24)).cell? ⟨w.heap.size, 0, none⟩ = some v := by
    have h1 := (below_alloc (w.alloc (.cells #[v] 24)) (.cells #[.slice none 0 0] 24)).cell (p := ⟨w.heap.size, 0, none⟩) (by simp)
    rw [h1]
    exact (qb_new w v).c
  clear hb1
  go_enter Try.func15, Try.ntmps15
  go_upto_region 1 with fail
  generalize (w.alloc (.cells #[v] 24)).alloc (.cells #[.slice none 0 0] 24) = w1 at *
  go_wp2_with fail
  refine (copy_is v qb is _ hr hl).mono ?_
  rintro e w2 ⟨u, rfl, hu, b2, hf⟩
  have k2 : Qb w2 (w.heap.size + 1) (.slice none 0 0) := (b2.block _ k0.out.lt).trans k0.out
  have f2 := k2.free 0
  have c2 := k2.c
  have hs : Hid (Qb (w2.setCell ⟨w.heap.size + 1, 0, none⟩ u) (w.heap.size + 1) u) := k2.set u
  have hu' : Hid (Qv (w2.setCell ⟨w.heap.size + 1, 0, none⟩ u) u is) := hu.keep fun k hk => Below.heap_setCell _ _ _ _ (k2.ne hu hk)
  have hB : Hid (Below w.heap.size w (w2.setCell ⟨w.heap.size + 1, 0, none⟩ u)) := (below_call hb b2).setCell (Nat.le_succ _) u
  obtain ⟨ao, cap, rfl, _, _, _⟩ := hu.len
  clear k0 k2 hu b2 hb hq
  go_wp2
  have c3 := hs.out.c
  refine bodyPost_ret (v := .agg #[.slice ao is.length cap]) (by simp [results, Try.results15, go_sem, c3]) rfl ⟨_, rfl, hu'.out, hB.out, fun k hk => ?_⟩
  have := hf k hk
  omega
theorem push_mid {W0 w w1 : World} {qs : List Qt} {ls : List Lt} {b : Nat} {v v1 : Value} {L L1 : List Inp} (h : St W0 w ((b, v, L) :: qs) ls) (hq1 : Qv w1 v1 L1) (hg1 : w.grownBy w1 v.ownBlock) (hf1 : ∀ k, v1.ownBlock = some k → v.ownBlock = some k ∨ w.heap.size ≤ k) :
    ∃ a1 n1 x1, v1 = .slice a1 n1 x1 ∧ w1.cell? ⟨b, 0, none⟩ = some v ∧ w1.frozen? ⟨b, 0, none⟩ = false ∧ Hid (St W0 (w1.setCell ⟨b, 0, none⟩ v1) ((b, v1, L1) :: qs) ls) := by
  have hk := h.hd
  have k1 : Qb w1 b v := (hg1.block b hk.2.1.lt (fun e => hk.2.1.ne hk.2.2 e.symm rfl)).trans hk.2.1
  have hfin : St W0 (w1.setCell ⟨b, 0, none⟩ v1) ((b, v1, L1) :: qs) ls := by
    refine h.act ?_ (k1.set v1) (hq1.keep fun k hk2 => Below.heap_setCell _ _ _ _ (k1.ne hq1 hk2)) hf1
    exact ⟨hg1.os, hg1.tape, hg1.output, by simpa [World.setCell] using hg1.size, fun k hk2 hkb hkr => (Below.heap_setCell _ _ _ _ hkb).trans (hg1.block k hk2 hkr)⟩
  have d0 := k1.c
  have f0 := k1.free 0
  obtain ⟨a1, x1, e, _⟩ := hq1.len
  exact ⟨a1, _, x1, e, d0, f0, hfin⟩
/-- Queue.Push, where there is room; and where there is none. -/
theorem push_is' {W0 : World} {qs : List Qt} {ls : List Lt} {b : Nat} {v : Value} {L : List Inp} (room : Int) (u : Value) (qb : Nat) (js : List Inp) (w : World) (hS : St W0 w ((b, v, L) :: qs) ls) (hu : RdI w u qb js) (hl : L.length + js.length ≤ 1000000) (L' : List Inp) (ok : Bool)
    (hL : (room < ((L.length + js.length : Nat) : Int) ∧ ok = false ∧ L' = L) ∨ (((L.length + js.length : Nat) : Int) ≤ room ∧ ok = true ∧ L' = L ++ js)) :
    Calls Try.prog 8 #[.pointer (some ⟨b, 0, none⟩), .int .i64 room, u] w fun e w' => e = .returned (.bool ok) ∧ ∃ v', St W0 w' ((b, v', L') :: qs) ls ∧ (js = [] → v' = v) := by
  have hS' : Hid (St W0 w ((b, v, L) :: qs) ls) := hS
  have hu' : Hid (RdI w u qb js) := hu
  obtain ⟨_, k1, k2⟩ := hS.hd
  have c0 := k1.c
  obtain ⟨ao, cap, rfl, h1, h2, h3⟩ := k2.len
  obtain ⟨hm, _, ao2, cap2, rfl, h4, h5, _⟩ := hu
  clear hS k1 k2 h3
  obtain ⟨n, hn⟩ : ∃ n, Hid (L.length = n) := ⟨_, rfl⟩
  obtain ⟨m, hmm⟩ : ∃ m, Hid (js.length = m) := ⟨_, rfl⟩
  have hl' : n + m ≤ 1000000 := by rw [hn.out, hmm.out] at hl; exact hl
  have hLh : Hid ((room < ((n + m : Nat) : Int) ∧ ok = false ∧ L' = L) ∨ (((n + m : Nat) : Int) ≤ room ∧ ok = true ∧ L' = L ++ js)) := by rw [hn.out, hmm.out] at hL; exact hL
  rw [hn.out] at c0 h1
  rw [hmm.out] at h4 ⊢
  clear hL hl
  by_cases hr : room < ((n + m : Nat) : Int)
  · obtain ⟨rfl, rfl⟩ : ok = false ∧ L' = L := by
      rcases hLh.out with h | h
      · exact h.2
      · exfalso; omega
    clear hLh
    go_enter Try.func8, Try.ntmps8
    go_wp2
    go_ret
    exact ⟨rfl, _, hS'.out, fun _ => by rw [hn.out]⟩
  · obtain ⟨rfl, rfl⟩ : ok = true ∧ L' = L ++ js := by
      rcases hLh.out with h | h
      · exfalso; omega
      · exact h.2
    clear hLh
    go_enter Try.func8, Try.ntmps8
    go_upto_region 3 with fail
    go_wp2_with (refine wpList_append_q' (by rfl) _ _ rfl (.slice ao n cap) L rfl (by have := hS'.out.hd.2.2; rw [hn.out] at this; exact this) (.slice ao2 m cap2) qb js rfl (by have := hu'.out; rw [hmm.out] at this; exact this) (by rw [hn.out, hmm.out]; exact hl') ?_; rintro v1 w1 hq1 hg1 hf1 hv1; obtain ⟨a1, n1, x1, rfl, d0, f0, hfin⟩ := push_mid (by have := hS'.out; rw [hn.out] at this; exact this) hq1 hg1 hf1; have hv1 : Hid (js = [] → _) := hv1; clear hq1 hg1 hf1 c0)
    go_ret
    exact ⟨rfl, _, hfin.out, fun h => by rw [hn.out]; exact hv1.out h⟩
/-- Queue.Push. -/
theorem push_is {W0 : World} {qs : List Qt} {ls : List Lt} {b : Nat} {v : Value} {L : List Inp} (room : Int) (u : Value) (qb : Nat) (js : List Inp) (w : World) (hS : St W0 w ((b, v, L) :: qs) ls) (hu : RdI w u qb js) (hl : L.length + js.length ≤ 1000000) (L' : List Inp) (ok : Bool)
    (hL : (room < ((L.length + js.length : Nat) : Int) ∧ ok = false ∧ L' = L) ∨ (((L.length + js.length : Nat) : Int) ≤ room ∧ ok = true ∧ L' = L ++ js)) :
    Calls Try.prog 8 #[.pointer (some ⟨b, 0, none⟩), .int .i64 room, u] w fun e w' => e = .returned (.bool ok) ∧ ∃ v', St W0 w' ((b, v', L') :: qs) ls :=
  (push_is' room u qb js w hS hu hl L' ok hL).mono fun e w' ⟨h1, v', h2, _⟩ => ⟨h1, v', h2⟩
/-- Push of none: what the queue holds is as it was. -/
theorem push_none {W0 : World} {qs : List Qt} {ls : List Lt} {b : Nat} {v : Value} {L : List Inp} (room : Int) (w : World) (hS : St W0 w ((b, v, L) :: qs) ls) (hl : L.length ≤ 1000000) (ok : Bool)
    (hL : (room < ((L.length : Nat) : Int) ∧ ok = false) ∨ (((L.length : Nat) : Int) ≤ room ∧ ok = true)) :
    Calls Try.prog 8 #[.pointer (some ⟨b, 0, none⟩), .int .i64 room, .slice none 0 0] w fun e w' => e = .returned (.bool ok) ∧ St W0 w' ((b, v, L) :: qs) ls := by
  refine (push_is' room (.slice none 0 0) 0 [] w hS (rdi_nil _ _) (by simpa using hl) L ok ?_).mono ?_
  · rcases hL with ⟨h1, h2⟩ | ⟨h1, h2⟩
    · exact .inl ⟨by simpa using h1, h2, rfl⟩
    · exact .inr ⟨by simpa using h1, h2, by simp⟩
  · rintro e w' ⟨h1, v', h2, h3⟩
    obtain rfl := h3 rfl
    exact ⟨h1, h2⟩
theorem qv_cut {w : World} {ao : Option Addr} {n cap : Nat} {is : List Inp} (h : Qv w (.slice ao n cap) is) (m : Nat) (hm : m ≤ is.length) (ao' : Option Addr) (ha : ao' = if cap - m = 0 then ao else ao.map (fun x => x.add (m * 5))) :
    Qv w (.slice ao' (n - m) (cap - m)) (is.drop m) ∧ ∀ k, (Value.slice ao' (n - m) (cap - m)).ownBlock = some k → (Value.slice ao n cap).ownBlock = some k := by
  subst ha
  cases ao with
  | none =>
    rcases h with ⟨h, rfl⟩ | ⟨g', off', cap', cur, e, _⟩
    · cases h
      obtain rfl : m = 0 := by simpa using hm
      exact ⟨.inl ⟨by simp, by simp⟩, fun k hk => by simp [Value.ownBlock] at hk⟩
    · cases e
  | some a =>
    have h' := h
    rcases h' with ⟨h', _⟩ | ⟨g', off', cap', cur, e, hh, h1, _⟩
    · cases h'
    · cases e
      by_cases hc : cap - m = 0
      · rw [if_pos hc]
        exact ⟨h.dropAll m (by omega) (by omega), fun k hk => hk⟩
      · rw [if_neg hc]
        have e : (some (⟨g', off', none⟩ : Addr)).map (fun x => x.add (m * 5)) = some ⟨g', off' + m * 5, none⟩ := by simp [Addr.add_lit]
        rw [e]
        exact ⟨h.drop m hm, fun k hk => by simpa [Value.ownBlock] using hk⟩
theorem pop_fin {W0 w : World} {qs : List Qt} {ls : List Lt} {b n cap : Nat} {ao : Option Addr} {L : List Inp} (h : St W0 w ((b, .slice ao n cap, L) :: qs) ls) (k : Nat) (hk : k ≤ L.length) (ao' : Option Addr) (c' : Nat)
    (ha : ao' = if cap - k = 0 then ao else ao.map (fun x => x.add (k * 5))) (hc : c' = cap - k) : ∃ v', St W0 (w.setCell ⟨b, 0, none⟩ (.slice ao' (n - k) c')) ((b, v', L.drop k) :: qs) ls ∧ (k = 0 → v' = .slice ao n cap) := by
  subst hc
  obtain ⟨_, h1, h2⟩ := h.hd
  obtain ⟨q1, q2⟩ := qv_cut h2 k hk ao' ha
  refine ⟨_, h.act ⟨rfl, rfl, rfl, by simp [World.setCell], fun j _ hj _ => Below.heap_setCell _ _ _ _ hj⟩ (h1.set _) (q1.keep fun j hj => Below.heap_setCell _ _ _ _ (h1.ne q1 hj)) (fun j hj => .inl (q2 j hj)), ?_⟩
  rintro rfl
  subst ha
  have h0 : ∀ x : Addr, x.add (0 * 5) = x := fun x => by unfold Addr.add; simp
  have h1 : (ao.map (fun x => x.add (0 * 5))) = ao := by cases ao <;> simp [h0]
  rw [h1, ite_self]
  simp
set_option maxHeartbeats 1000000 in
/-- Queue.Pop. -/
theorem pop_is' {W0 : World} {qs : List Qt} {ls : List Lt} {b : Nat} {v : Value} {L : List Inp} (nn : Int) (w : World) (hS : St W0 w ((b, v, L) :: qs) ls) (hl : L.length ≤ 1000000) (k : Nat)
    (hk : (nn < 0 ∧ k = 0) ∨ (0 ≤ nn ∧ nn ≤ ((L.length : Nat) : Int) ∧ nn = (k : Nat)) ∨ (((L.length : Nat) : Int) < nn ∧ k = L.length)) :
    Calls Try.prog 9 #[.pointer (some ⟨b, 0, none⟩), .int .i64 nn] w fun e w' => ∃ u v', e = .returned u ∧ St W0 w' ((b, v', L.drop k) :: qs) ((u, L.take k) :: ls) ∧ (k = 0 → v' = v) := by
  have hS' : Hid (St W0 w ((b, v, L) :: qs) ls) := hS
  obtain ⟨_, k1, k2⟩ := hS.hd
  have c0 := k1.c
  obtain ⟨ao, cap, rfl, h1, h2, h3⟩ := k2.len
  have hkl : k ≤ L.length := by omega
  have hrd : Hid (Qv w (.slice ao k cap) (L.take k)) := k2.take k hkl
  clear hS k1 k2 h3
  obtain ⟨n, hn⟩ : ∃ n, Hid (L.length = n) := ⟨_, rfl⟩
  rw [hn.out] at c0 h1 hk hkl hl
  go_enter Try.func9, Try.ntmps9
  go_upto_region 1 with fail
  go_cut [1] (fun x wx => x = .int .i64 ((k : Nat) : Int) ∧ wx = w)
  case first =>
    rcases hk with ⟨h4, rfl⟩ | ⟨h4, h5, rfl⟩ | ⟨h4, rfl⟩
    · go_wp2_with fail
      go_meet
      exact ⟨rfl, rfl⟩
    · go_wp2_with fail
      go_meet
      exact ⟨rfl, rfl⟩
    · go_wp2_with fail
      go_meet
      exact ⟨rfl, rfl⟩
  obtain ⟨rfl, he⟩ := hcut
  obtain rfl := he.symm
  clear hk
  obtain ⟨qb, hrd2⟩ := hrd.out.rdi
  have hlk : (L.take k).length = k := by rw [List.length_take, hn.out]; omega
  go_wp2_with fail
  refine (copy_is (.slice ao k cap) qb (L.take k) _ hrd2 (by omega)).mono ?_
  rintro e w2 ⟨u, rfl, hu, b2, hf⟩
  have hS2 : Hid (St W0 w2 ((b, .slice ao n cap, L) :: qs) ((u, L.take k) :: ls)) := by
    have := hS'.out.newl b2 hu hf
    rwa [hn.out] at this
  have d0 := hS2.out.hd.2.1.c
  have f0 := hS2.out.hd.2.1.free 0
  clear hrd hrd2 hlk hS' c0 hf
  go_upto_region 3 with fail
  go_wp2_with fail
  · go_ret
    refine ⟨u, rfl, ?_⟩
    obtain ⟨v', h1, h2⟩ := pop_fin hS2.out k (by have := hn.out; omega) ao 0 (by rw [if_pos (by omega)]) (by omega)
    exact ⟨v', h1, fun h => by rw [hn.out, h2 h]; congr 1⟩
  · rename_i hck
    go_ret
    refine ⟨u, rfl, ?_⟩
    obtain ⟨v', h1, h2⟩ := pop_fin hS2.out k (by have := hn.out; omega) _ (cap - k) (by rw [if_neg (by omega)]) rfl
    exact ⟨v', h1, fun h => by rw [hn.out]; exact h2 h⟩
/-- Queue.Pop. -/
theorem pop_is {W0 : World} {qs : List Qt} {ls : List Lt} {b : Nat} {v : Value} {L : List Inp} (nn : Int) (w : World) (hS : St W0 w ((b, v, L) :: qs) ls) (hl : L.length ≤ 1000000) (k : Nat)
    (hk : (nn < 0 ∧ k = 0) ∨ (0 ≤ nn ∧ nn ≤ ((L.length : Nat) : Int) ∧ nn = (k : Nat)) ∨ (((L.length : Nat) : Int) < nn ∧ k = L.length)) :
    Calls Try.prog 9 #[.pointer (some ⟨b, 0, none⟩), .int .i64 nn] w fun e w' => ∃ u v', e = .returned u ∧ St W0 w' ((b, v', L.drop k) :: qs) ((u, L.take k) :: ls) :=
  (pop_is' nn w hS hl k hk).mono fun e w' ⟨u, v', h1, h2, _⟩ => ⟨u, v', h1, h2⟩
/-- Pop of none. -/
theorem pop_none {W0 : World} {qs : List Qt} {ls : List Lt} {b : Nat} {v : Value} {L : List Inp} (nn : Int) (w : World) (hS : St W0 w ((b, v, L) :: qs) ls) (hl : L.length ≤ 1000000) (hn : nn < 0) :
    Calls Try.prog 9 #[.pointer (some ⟨b, 0, none⟩), .int .i64 nn] w fun e w' => ∃ a c, e = .returned (.slice a 0 c) ∧ St W0 w' ((b, v, L) :: qs) ls := by
  refine (pop_is' nn w hS hl 0 (.inl ⟨hn, rfl⟩)).mono ?_
  rintro e w' ⟨u, v', rfl, h1, h2⟩
  obtain rfl := h2 rfl
  rw [List.drop_zero, List.take_zero] at h1
  obtain ⟨a, c, e1, _⟩ := h1.hl.len
  have e2 : u = .slice a 0 c := e1
  subst e2
  exact ⟨a, c, rfl, h1.dropl⟩
end Go.Proofs.Ytmkdhgjnfnfliaa
