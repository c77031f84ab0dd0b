/- The memory of a Runner: its block, its Panes, its operations; what the clock's methods do to it. -/
import Derived.Test.YtnamjnopicghhaaMathR
import Derived.Test.YtnamjnopicghhaaSame
import Derived.Test.YtnamjnopicghhaaSrc
import Derived.Test.YtnamjnopicghhaaOKeep
namespace Go.Proofs.Ytnamjnopicghhaa
open Go.RowKit M
open O (RdO)
open O.MO (Oq Pq)
set_option linter.unusedVariables false
set_option linter.unusedSimpArgs false
attribute [local go_sem ↓] Go.wp_at_zero Go.wp_at_succ

/-- Of what was there nothing but these three blocks has turned. -/
structure Ch3 (b q o : Nat) (w w' : World) : Prop where
  os : w'.os = w.os
  tape : w'.tape = w.tape
  output : w'.output = w.output
  size : w.heap.size ≤ w'.heap.size
  other : ∀ g, g < w.heap.size → g ≠ b → g ≠ q → g ≠ o → w'.heap[g]? = w.heap[g]?
theorem Ch3.refl (b q o : Nat) (w : World) : Ch3 b q o w w := ⟨rfl, rfl, rfl, Nat.le_refl _, fun _ _ _ _ _ => rfl⟩
theorem Ch3.trans {b q o o' : Nat} {w w' w'' : World} (h : Ch3 b q o w w') (h2 : Ch3 b q o' w' w'') (ho : o' = o ∨ o' = q ∨ w.heap.size ≤ o') : Ch3 b q o w w'' :=
  ⟨h2.os.trans h.os, h2.tape.trans h.tape, h2.output.trans h.output, Nat.le_trans h.size h2.size, fun g hl hb hq hg => (h2.other g (Nat.lt_of_lt_of_le hl h.size) hb hq (by omega)).trans (h.other g hl hb hq hg)⟩
theorem Ch3.ofBelow {b q o : Nat} {w w' : World} (h : Below w.heap.size w w') : Ch3 b q o w w' := ⟨h.os, h.tape, h.output, h.size, fun g hl _ _ _ => h.block g hl⟩
theorem Ch3.ofCh {b q o : Nat} {w w' : World} (h : Ch q o w w') : Ch3 b q o w w' := ⟨h.os, h.tape, h.output, h.size, fun g hl _ hq ho => h.other g hl hq ho⟩
theorem Ch3.ofOne {b q o : Nat} {w w' : World} (h : Ch b b w w') : Ch3 b q o w w' := ⟨h.os, h.tape, h.output, h.size, fun g hl hb _ _ => h.other g hl hb hb⟩
theorem Ch3.below {b q o B : Nat} {w w' : World} (h : Ch3 b q o w w') (hb : B ≤ b) (hq : B ≤ q) (ho : B ≤ o) (hB : B ≤ w.heap.size) : Below B w w' :=
  ⟨h.os, h.tape, h.output, h.size, fun g hg => h.other g (by omega) (by omega) (by omega) (by omega)⟩
theorem Ch3.alloc {b q o : Nat} {a w : World} (h : Ch3 b q o a w) (ob : Obj) : Ch3 b q o a (w.alloc ob) :=
  ⟨h.os, h.tape, h.output, by have := h.size; simp; omega, fun g hl hb hq ho => (Below.heap_alloc _ _ _ (by have := h.size; omega)).trans (h.other g hl hb hq ho)⟩
theorem Ch3.drew {b q o : Nat} {a w : World} (h : Ch3 b q o a w) : Ch3 b q o a w.drew := ⟨h.os, h.tape, h.output, h.size, h.other⟩

/-- A runner's block whole. -/
def Rnk (w : World) (b : Nat) (m l s : Int) (q : Nat) (u : Value) (n sl K k f : Int) : Prop :=
  w.heap[b]? = some (.cells #[.int .i64 m, .int .i64 l, .int .i64 s, .pointer (some ⟨q, 0, none⟩), u, .int .i64 n, .int .i64 sl, .int .i64 K, .int .i64 k, .int .i64 f] 72 (0, 0))
section
variable {w w' : World} {b q : Nat} {u : Value} {m l s n sl K k f : Int}
theorem Rnk.c0 (h : Rnk w b m l s q u n sl K k f) : w.cell? ⟨b, 0, none⟩ = some (.int .i64 m) := by unfold Rnk at h; simp [World.cell?, h]
theorem Rnk.c1 (h : Rnk w b m l s q u n sl K k f) : w.cell? ⟨b, 1, none⟩ = some (.int .i64 l) := by unfold Rnk at h; simp [World.cell?, h]
theorem Rnk.c2 (h : Rnk w b m l s q u n sl K k f) : w.cell? ⟨b, 2, none⟩ = some (.int .i64 s) := by unfold Rnk at h; simp [World.cell?, h]
theorem Rnk.c3 (h : Rnk w b m l s q u n sl K k f) : w.cell? ⟨b, 3, none⟩ = some (.pointer (some ⟨q, 0, none⟩)) := by unfold Rnk at h; simp [World.cell?, h]
theorem Rnk.c4 (h : Rnk w b m l s q u n sl K k f) : w.cell? ⟨b, 4, none⟩ = some u := by unfold Rnk at h; simp [World.cell?, h]
theorem Rnk.c5 (h : Rnk w b m l s q u n sl K k f) : w.cell? ⟨b, 5, none⟩ = some (.int .i64 n) := by unfold Rnk at h; simp [World.cell?, h]
theorem Rnk.c6 (h : Rnk w b m l s q u n sl K k f) : w.cell? ⟨b, 6, none⟩ = some (.int .i64 sl) := by unfold Rnk at h; simp [World.cell?, h]
theorem Rnk.c7 (h : Rnk w b m l s q u n sl K k f) : w.cell? ⟨b, 7, none⟩ = some (.int .i64 K) := by unfold Rnk at h; simp [World.cell?, h]
theorem Rnk.c8 (h : Rnk w b m l s q u n sl K k f) : w.cell? ⟨b, 8, none⟩ = some (.int .i64 k) := by unfold Rnk at h; simp [World.cell?, h]
theorem Rnk.c9 (h : Rnk w b m l s q u n sl K k f) : w.cell? ⟨b, 9, none⟩ = some (.int .i64 f) := by unfold Rnk at h; simp [World.cell?, h]
theorem Rnk.free (h : Rnk w b m l s q u n sl K k f) (i : Nat) : w.frozen? ⟨b, i, none⟩ = false := by unfold Rnk at h; simp [World.frozen?, h]
theorem Rnk.lt (h : Rnk w b m l s q u n sl K k f) : b < w.heap.size := (Array.getElem?_eq_some_iff.1 h).1
theorem Rnk.keep (h : Rnk w b m l s q u n sl K k f) (hb : w'.heap[b]? = w.heap[b]?) : Rnk w' b m l s q u n sl K k f := hb.trans h
theorem Rnk.set0 (h : Rnk w b m l s q u n sl K k f) (x : Int) : Rnk (w.setCell ⟨b, 0, none⟩ (.int .i64 x)) b x l s q u n sl K k f := by
  unfold Rnk at *; simp [World.setCell, Array.getElem?_modify, h]
theorem Rnk.set1 (h : Rnk w b m l s q u n sl K k f) (x : Int) : Rnk (w.setCell ⟨b, 1, none⟩ (.int .i64 x)) b m x s q u n sl K k f := by
  unfold Rnk at *; simp [World.setCell, Array.getElem?_modify, h]
theorem Rnk.set2 (h : Rnk w b m l s q u n sl K k f) (x : Int) : Rnk (w.setCell ⟨b, 2, none⟩ (.int .i64 x)) b m l x q u n sl K k f := by
  unfold Rnk at *; simp [World.setCell, Array.getElem?_modify, h]
end
/-- A list of operations in a row of its own. -/
def OpsIn (w : World) (u : Value) (os : List Oq) : Prop := w.ownsRow 0 90 2 u os.length (O.opl os) ∧ ∀ o ∈ os, o.n ≤ 9223372036854775807
theorem OpsIn.keep {w w' : World} {u : Value} {os : List Oq} (h : OpsIn w u os) (hk : ∀ k, u.ownBlock = some k → k < w.heap.size → w'.heap[k]? = w.heap[k]?) : OpsIn w' u os := by
  obtain ⟨⟨h1, h | ⟨g, cap, cur, rfl, h2, h3, r⟩⟩, h4⟩ := h
  · exact ⟨⟨h1, .inl h⟩, h4⟩
  · exact ⟨⟨h1, .inr ⟨g, cap, cur, rfl, h2, (hk g rfl (Array.getElem?_eq_some_iff.1 h3).1).trans h3, r⟩⟩, h4⟩
theorem OpsIn.below {w w' : World} {u : Value} {os : List Oq} (h : OpsIn w u os) (hb : Below w.heap.size w w') : OpsIn w' u os := h.keep (fun k _ hk => hb.block k hk)
theorem OpsIn.src {w : World} {u : Value} {os : List Oq} (h : OpsIn w u os) : SrcN 2 w u os.length (O.opl os) := srcN_own h.1
theorem OpsIn.rd {w : World} {u : Value} {os : List Oq} (h : OpsIn w u os) : RdO w u os := by
  by_cases hu : u = .slice none 0 0
  · subst hu
    obtain ⟨⟨_, h | ⟨g, cap, cur, hh, _⟩⟩, _⟩ := h
    · have : os = [] := List.eq_nil_of_length_eq_zero h.2
      subst this
      exact ⟨by simp, by simp, none, 0, rfl, by simp, by simp, by simp⟩
    · cases hh
  · obtain ⟨g, cp, rfl, h1, h2, _⟩ := O.own_form h.1 hu
    exact O.rd_part h.1 h.2 os 0 0 os.length cp (by omega) (fun j _ => by rw [Nat.zero_add]) (by omega) rfl h1 h2 (fun x h => h)
theorem opsIn_nil (w : World) : OpsIn w (.slice none 0 0) [] := ⟨World.ownsRow_nil _ _ _ _, by simp⟩
theorem OpsIn.lt {w : World} {u : Value} {os : List Oq} (h : OpsIn w u os) : ∀ k, u.ownBlock = some k → k < w.heap.size := fun k hk => (h.1.lt k hk).2
theorem OpsIn.form {w : World} {u : Value} {os : List Oq} (h : OpsIn w u os) : ∃ a l c, u = .slice a l c := by
  obtain ⟨⟨_, h | ⟨g, cap, cur, rfl, _⟩⟩, _⟩ := h
  · exact ⟨_, _, _, h.1⟩
  · exact ⟨_, _, _, rfl⟩
/-- The row of a Panes, or the Panes itself where it has none yet. -/
def OT (w : World) (o : Nat) : Prop := ∃ cs T, w.heap[o]? = some (.cells cs T (0, 0)) ∧ (T = 132 ∨ T = 108)
theorem OT.keep {w w' : World} {o : Nat} (h : OT w o) (hb : w'.heap[o]? = w.heap[o]?) : OT w' o := by
  obtain ⟨cs, T, h1, h2⟩ := h
  exact ⟨cs, T, hb.trans h1, h2⟩
theorem OT.lt {w : World} {o : Nat} (h : OT w o) : o < w.heap.size := by
  obtain ⟨cs, T, h1, h2⟩ := h
  exact (Array.getElem?_eq_some_iff.1 h1).1
theorem OT.ne {w : World} {o k : Nat} {cs : Array Value} {T : TypeId} (h : OT w o) (hk : w.heap[k]? = some (.cells cs T (0, 0))) (h1 : T ≠ 132) (h2 : T ≠ 108) : k ≠ o := by
  obtain ⟨cs', T', h3, h4⟩ := h
  intro e
  subst e
  rw [hk] at h3
  simp at h3
  obtain ⟨_, rfl⟩ := h3
  rcases h4 with h | h
  · exact h1 h
  · exact h2 h
theorem Pan.ot {w : World} {q o : Nat} {n sl K : Int} {L : List Pn} (h : Pan w q o n sl K L) : ∃ o1, (o1 = o ∨ o1 = q) ∧ Pan w q o1 n sl K L ∧ OT w o1 := by
  have hl := h.lt
  obtain ⟨v, hh, hs, hk, ho⟩ := h
  rcases hs with ⟨rfl, rfl⟩ | ⟨cap, rfl, cur, hp, r⟩
  · exact ⟨q, .inr rfl, ⟨_, hh, .inl ⟨rfl, rfl⟩, hk, hl⟩, ⟨_, _, hh, .inr rfl⟩⟩
  · exact ⟨o, .inl rfl, ⟨_, hh, .inr ⟨cap, rfl, cur, hp, r⟩, hk, ho⟩, ⟨_, _, hp, .inl rfl⟩⟩
/-- A runner: its block b, its Panes in block q, their row in block o, its operations in block g. -/
def Rnr (w : World) (b q o g : Nat) (p : Pq) (r : Rs) : Prop :=
  ∃ u, Rnk w b r.m r.l r.s q u p.n p.s p.a p.k p.f ∧ Pan w q o p.n p.s p.a r.L ∧ OpsIn w u p.os ∧ (∀ k, u.ownBlock = some k → k = g) ∧
    b ≠ q ∧ b ≠ o ∧ g ≠ b ∧ g ≠ q ∧ g ≠ o ∧ g < w.heap.size ∧ OT w o
theorem Rnr.lt {w : World} {b q o g : Nat} {p : Pq} {r : Rs} (h : Rnr w b q o g p r) : b < w.heap.size ∧ q < w.heap.size ∧ o < w.heap.size ∧ g < w.heap.size := by
  obtain ⟨u, h1, h2, h3, h4, h5, h6, h7, h8, h9, h10, h11⟩ := h
  exact ⟨h1.lt, h2.lt, h2.olt, h10⟩
theorem Rnr.apart {w : World} {b q o g : Nat} {p : Pq} {r : Rs} (h : Rnr w b q o g p r) : b ≠ q ∧ b ≠ o ∧ g ≠ b ∧ g ≠ q ∧ g ≠ o := by
  obtain ⟨u, h1, h2, h3, h4, h5, h6, h7, h8, h9, h10, h11⟩ := h
  exact ⟨h5, h6, h7, h8, h9⟩
theorem Rnr.ot {w : World} {b q o g : Nat} {p : Pq} {r : Rs} (h : Rnr w b q o g p r) : OT w o := by
  obtain ⟨u, h1, h2, h3, h4, h5, h6, h7, h8, h9, h10, h11⟩ := h
  exact h11
theorem Rnr.okl {w : World} {b q o g : Nat} {p : Pq} {r : Rs} (h : Rnr w b q o g p r) : Okl p.n p.s r.L := by
  obtain ⟨u, h1, h2, _⟩ := h
  exact h2.okl
/-- Another runner, apart, stays. -/
theorem Rnr.keep {w w' : World} {b q o g b' q' o' : Nat} {p : Pq} {r : Rs} (h : Rnr w b q o g p r) (hc : Ch3 b' q' o' w w')
    (hb : b ≠ b' ∧ b ≠ q' ∧ b ≠ o') (hq : q ≠ b' ∧ q ≠ q' ∧ q ≠ o') (ho : o ≠ b' ∧ o ≠ q' ∧ o ≠ o') (hg : g ≠ b' ∧ g ≠ q' ∧ g ≠ o') : Rnr w' b q o g p r := by
  obtain ⟨u, h1, h2, h3, h4, h5, h6, h7, h8, h9, h10, h11⟩ := h
  refine ⟨u, h1.keep (hc.other b h1.lt hb.1 hb.2.1 hb.2.2), ?_, h3.keep (fun k hk hl => ?_), h4, h5, h6, h7, h8, h9, Nat.lt_of_lt_of_le h10 hc.size, h11.keep (hc.other o h11.lt ho.1 ho.2.1 ho.2.2)⟩
  · have hlt := h2.lt
    obtain ⟨v, hh, hs, hk⟩ := h2
    refine ⟨v, (hc.other q hlt hq.1 hq.2.1 hq.2.2).trans hh, ?_, hk.1, Nat.lt_of_lt_of_le hk.2 hc.size⟩
    rcases hs with hs | ⟨cap, rfl, hp⟩
    · exact .inl hs
    · exact .inr ⟨cap, rfl, hp.keep (hc.other o hp.lt ho.1 ho.2.1 ho.2.2)⟩
  · rw [h4 k hk] at hl ⊢
    exact hc.other g hl hg.1 hg.2.1 hg.2.2
theorem Rnr.below {w w' : World} {b q o g : Nat} {p : Pq} {r : Rs} (h : Rnr w b q o g p r) (hb : Below w.heap.size w w') : Rnr w' b q o g p r := by
  obtain ⟨h1, h2, h3, h4⟩ := h.lt
  exact h.keep (Ch3.ofBelow (b := w.heap.size) (q := w.heap.size) (o := w.heap.size) hb) (by omega) (by omega) (by omega) (by omega)
theorem Rnr.drew {w : World} {b q o g : Nat} {p : Pq} {r : Rs} (h : Rnr w b q o g p r) : Rnr w.drew b q o g p r := h

/-- What Advance answers, and the mark behind it. -/
def mkTo (m t : Int) : Int := if goes m t = true then t else m
/-- clock.Clock.Advance, of a runner. -/
theorem advance_is (b q : Nat) (u : Value) (m l s n sl K k f t : Int) (r : Bool) (w : World) (hc : Rnk w b m l s q u n sl K k f) (hr : goes m t = r) :
    Calls Try.prog 67 #[.pointer (some ⟨b, 0, none⟩), .int .i64 t] w fun e w' => e = .returned (.bool r) ∧ Rnk w' b (mkTo m t) l s q u n sl K k f ∧ Ch b b w w' := by
  have c0 := hc.c0
  have f0 := hc.free 0
  by_cases h1 : m < t
  · by_cases h2 : t ≤ 1099512676352
    · have hg : goes m t = true := decide_eq_true ⟨h1, h2⟩
      rw [hg] at hr
      subst hr
      unfold mkTo
      rw [if_pos hg]
      clear hg
      go_enter Try.func67, Try.ntmps67
      go_wp2
      go_ret
      exact ⟨rfl, hc.set0 _, (Ch.refl b b w).set (p := ⟨b, _, none⟩) (.inl rfl) _⟩
    · have hg : goes m t = false := decide_eq_false (fun h => h2 h.2)
      rw [hg] at hr
      subst hr
      unfold mkTo
      rw [if_neg (by rw [hg]; decide)]
      clear hg
      go_enter Try.func67, Try.ntmps67
      go_wp2
      go_ret
      exact ⟨rfl, hc, Ch.refl _ _ _⟩
  · have hg : goes m t = false := decide_eq_false (fun h => h1 h.1)
    rw [hg] at hr
    subst hr
    unfold mkTo
    rw [if_neg (by rw [hg]; decide)]
    clear hg
    go_enter Try.func67, Try.ntmps67
    go_wp2
    go_ret
    exact ⟨rfl, hc, Ch.refl _ _ _⟩
/-- What On answers, and the counts behind it. -/
def Ons (m l s t : Int) (p : Bool) (l' s' : Int) : Prop :=
  (0 ≤ t ∧ t ≤ 1099511627776) ∧ (t < m ∧ p = false ∧ l' = l + 1 ∧ s' = s + 1 ∨ m ≤ t ∧ p = true ∧ l' = l ∧ s' = s + 1) ∨ ¬ (0 ≤ t ∧ t ≤ 1099511627776) ∧ p = false ∧ l' = l ∧ s' = s
/-- clock.Clock.On, of a runner. -/
theorem on_is (b q : Nat) (u : Value) (m l s n sl K k f t : Int) (p : Bool) (l' s' : Int) (w : World) (hc : Rnk w b m l s q u n sl K k f) (hp : Ons m l s t p l' s') (hl : 0 ≤ l ∧ l ≤ 1000000) (hs : 0 ≤ s ∧ s ≤ 1000000) :
    Calls Try.prog 69 #[.pointer (some ⟨b, 0, none⟩), .int .i64 t] w fun e w' => e = .returned (.bool p) ∧ Rnk w' b m l' s' q u n sl K k f ∧ Ch b b w w' := by
  have c0 := hc.c0
  have c1 := hc.c1
  have c2 := hc.c2
  have f1 := hc.free 1
  have f2 := hc.free 2
  obtain ⟨l1, l2⟩ := hl
  obtain ⟨s1, s2⟩ := hs
  rcases hp with ⟨⟨h1, h2⟩, ⟨h3, rfl, rfl, rfl⟩ | ⟨h3, rfl, rfl, rfl⟩⟩ | ⟨h, rfl, rfl, rfl⟩
  · have hc2 := hc.set2 (s + 1)
    go_enter Try.func69, Try.ntmps69
    go_wp2
    go_ret
    exact ⟨rfl, hc2.set1 _, ((Ch.refl b b w).set (p := ⟨b, _, none⟩) (.inl rfl) _).set (p := ⟨b, _, none⟩) (.inl rfl) _⟩
  · have hc2 := hc.set2 (s + 1)
    go_enter Try.func69, Try.ntmps69
    go_wp2
    go_ret
    exact ⟨rfl, hc2, (Ch.refl b b w).set (p := ⟨b, _, none⟩) (.inl rfl) _⟩
  · by_cases h1 : 0 ≤ t
    · have h2 : ¬ t ≤ 1099511627776 := fun x => h ⟨h1, x⟩
      clear h
      go_enter Try.func69, Try.ntmps69
      go_wp2
      go_ret
      exact ⟨rfl, hc, Ch.refl _ _ _⟩
    · clear h
      go_enter Try.func69, Try.ntmps69
      go_wp2
      go_ret
      exact ⟨rfl, hc, Ch.refl _ _ _⟩
theorem seen_is (m l s : Int) (w : World) : Calls Try.prog 28 #[.agg #[.int .i64 m, .int .i64 l, .int .i64 s]] w fun e w' => e = .returned (.int .i64 s) ∧ Below w.heap.size w w' := by
  go_enter Try.func28, Try.ntmps28
  go_wp2
  go_ret
  exact ⟨rfl, (Below.refl _ _).alloc (Nat.le_refl _) _⟩
end Go.Proofs.Ytnamjnopicghhaa
