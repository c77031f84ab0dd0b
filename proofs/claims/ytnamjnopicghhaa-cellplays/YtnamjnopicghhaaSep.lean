/- Things in memory that stand apart from each other: what a call does to one of them leaves all others. -/
import Derived.Test.YtnamjnopicghhaaRows
import Derived.WalkKit
import Derived.Below
namespace Go.Proofs.Ytnamjnopicghhaa
open Go.RowKit
set_option linter.unusedVariables false

/-- Of what was there nothing outside F has turned. -/
structure Chf (F : Nat → Prop) (w w' : World) : Prop where
  os : w'.os = w.os
  tape : w'.tape = w.tape
  output : w'.output = w.output
  size : w.heap.size ≤ w'.heap.size
  other : ∀ g, g < w.heap.size → ¬ F g → w'.heap[g]? = w.heap[g]?
theorem Chf.refl (F : Nat → Prop) (w : World) : Chf F w w := ⟨rfl, rfl, rfl, Nat.le_refl _, fun _ _ _ => rfl⟩
theorem Chf.ofBelow {F : Nat → Prop} {w w' : World} (h : Below w.heap.size w w') : Chf F w w' := ⟨h.os, h.tape, h.output, h.size, fun g hl _ => h.block g hl⟩
theorem Chf.mono {F G : Nat → Prop} {w w' : World} (h : Chf F w w') (hg : ∀ k, F k → G k) : Chf G w w' := ⟨h.os, h.tape, h.output, h.size, fun g hl hn => h.other g hl (fun x => hn (hg g x))⟩
theorem Chf.trans {F G : Nat → Prop} {w w' w'' : World} (h : Chf F w w') (h2 : Chf G w' w'') (hg : ∀ k, G k → F k ∨ w.heap.size ≤ k) : Chf F w w'' :=
  ⟨h2.os.trans h.os, h2.tape.trans h.tape, h2.output.trans h.output, Nat.le_trans h.size h2.size, fun g hl hn => (h2.other g (Nat.lt_of_lt_of_le hl h.size) (fun x => by
    rcases hg g x with h | h
    · exact hn h
    · omega)).trans (h.other g hl hn)⟩
theorem Chf.below {F : Nat → Prop} {B : Nat} {w w' : World} (h : Chf F w w') (hF : ∀ k, F k → B ≤ k) (hB : B ≤ w.heap.size) : Below B w w' :=
  ⟨h.os, h.tape, h.output, h.size, fun g hg => h.other g (by omega) (fun x => by have := hF g x; omega)⟩
theorem Chf.grown {w w' : World} {v : Value} (h : w.grownBy w' v.ownBlock) : Chf (fun k => v.ownBlock = some k) w w' :=
  ⟨h.os, h.tape, h.output, h.size, fun g hl hn => h.block g hl (fun e => hn e.symm)⟩

/-- A thing: what it says of the memory, and which blocks are its own. -/
structure Th where
  P : World → (Nat → Prop) → Prop
  lt : ∀ {w F}, P w F → ∀ k, F k → k < w.heap.size
  keep : ∀ {w w' F}, P w F → w.heap.size ≤ w'.heap.size → (∀ k, F k → w'.heap[k]? = w.heap[k]?) → P w' F
/-- All of them, each apart from all others. -/
inductive Sep (w : World) : List Th → (Nat → Prop) → Prop
  | nil : Sep w [] (fun _ => False)
  | cons {t : Th} {ts : List Th} {F G : Nat → Prop} : t.P w F → Sep w ts G → (∀ k, F k → ¬ G k) → Sep w (t :: ts) (fun k => F k ∨ G k)
theorem Sep.lt {w : World} {ts : List Th} {F : Nat → Prop} (h : Sep w ts F) : ∀ k, F k → k < w.heap.size := by
  induction h with
  | nil => intro k hk; exact hk.elim
  | cons h1 h2 h3 ih =>
    intro k hk
    rcases hk with hk | hk
    · exact Th.lt _ h1 k hk
    · exact ih k hk
theorem Sep.keep {w w' : World} {ts : List Th} {F : Nat → Prop} (h : Sep w ts F) (hz : w.heap.size ≤ w'.heap.size) (hk : ∀ k, F k → w'.heap[k]? = w.heap[k]?) : Sep w' ts F := by
  induction h with
  | nil => exact .nil
  | cons h1 h2 h3 ih => exact .cons (Th.keep _ h1 hz (fun k x => hk k (.inl x))) (ih (fun k x => hk k (.inr x))) h3
theorem Sep.perm {w : World} {ts us : List Th} (hp : ts.Perm us) : ∀ {F : Nat → Prop}, Sep w ts F → ∃ G, Sep w us G ∧ ∀ k, G k ↔ F k := by
  induction hp with
  | nil => intro F h; exact ⟨F, h, fun k => Iff.rfl⟩
  | cons x _ ih =>
    intro F h
    cases h with
    | cons h1 h2 h3 =>
      obtain ⟨G, hG, he⟩ := ih h2
      exact ⟨_, .cons h1 hG (fun k hk hg => h3 k hk ((he k).1 hg)), fun k => by
        constructor
        · rintro (h | h)
          · exact .inl h
          · exact .inr ((he k).1 h)
        · rintro (h | h)
          · exact .inl h
          · exact .inr ((he k).2 h)⟩
  | swap x y l =>
    intro F h
    cases h with
    | cons h1 h2 h3 =>
      cases h2 with
      | cons h4 h5 h6 =>
        refine ⟨_, .cons h4 (.cons h1 h5 (fun k hk hg => h3 k hk (.inr hg))) (fun k hk hg => ?_), fun k => ?_⟩
        · rcases hg with hg | hg
          · exact h3 k hg (.inl hk)
          · exact h6 k hk hg
        · constructor
          · rintro (h | h | h)
            · exact .inr (.inl h)
            · exact .inl h
            · exact .inr (.inr h)
          · rintro (h | h | h)
            · exact .inr (.inl h)
            · exact .inl h
            · exact .inr (.inr h)
  | trans _ _ ih1 ih2 =>
    intro F h
    obtain ⟨G, hG, he⟩ := ih1 h
    obtain ⟨G2, hG2, he2⟩ := ih2 hG
    exact ⟨G2, hG2, fun k => (he2 k).trans (he k)⟩
theorem Sep.append {w : World} {ts us : List Th} {F G : Nat → Prop} (h : Sep w ts F) (h2 : Sep w us G) (ha : ∀ k, F k → ¬ G k) : ∃ H, Sep w (ts ++ us) H ∧ ∀ k, H k ↔ F k ∨ G k := by
  induction h with
  | nil => exact ⟨G, h2, fun k => by simp⟩
  | cons h1 h3 h4 ih =>
    obtain ⟨H, hH, he⟩ := ih (fun k hk => ha k (.inr hk))
    refine ⟨_, .cons h1 hH (fun k hk hh => ?_), fun k => ?_⟩
    · rcases (he k).1 hh with h | h
      · exact h4 k hk h
      · exact ha k (.inl hk) h
    · constructor
      · rintro (h | h)
        · exact .inl (.inl h)
        · rcases (he k).1 h with h | h
          · exact .inl (.inr h)
          · exact .inr h
      · rintro ((h | h) | h)
        · exact .inl h
        · exact .inr ((he k).2 (.inl h))
        · exact .inr ((he k).2 (.inr h))
theorem Sep.split {w : World} : ∀ (ts : List Th) {us : List Th} {H : Nat → Prop}, Sep w (ts ++ us) H → ∃ F G, Sep w ts F ∧ Sep w us G ∧ (∀ k, F k → ¬ G k) ∧ ∀ k, H k ↔ F k ∨ G k
  | [], us, H, h => ⟨_, H, .nil, h, fun k hk => hk.elim, fun k => by simp⟩
  | t :: ts, us, H, h => by
    cases h with
    | cons h1 h2 h3 =>
      obtain ⟨F, G, a, b, c, d⟩ := Sep.split ts h2
      refine ⟨_, G, .cons h1 a (fun k hk hf => h3 k hk ((d k).2 (.inl hf))), b, fun k hk hg => ?_, fun k => ?_⟩
      · rcases hk with hk | hk
        · exact h3 k hk ((d k).2 (.inr hg))
        · exact c k hk hg
      · constructor
        · rintro (h | h)
          · exact .inl (.inl h)
          · rcases (d k).1 h with h | h
            · exact .inl (.inr h)
            · exact .inr h
        · rintro ((h | h) | h)
          · exact .inl h
          · exact .inr ((d k).2 (.inl h))
          · exact .inr ((d k).2 (.inr h))

/-- What stands: these things, all apart; nothing that was there ahead has turned. -/
structure St (W0 w : World) (ts : List Th) : Prop where
  b : Below W0.heap.size W0 w
  s : ∃ F, Sep w ts F ∧ ∀ k, F k → W0.heap.size ≤ k
section
variable {W0 w w' : World} {ts us vs : List Th} {t u x y z : Th}
theorem st_start (w : World) : St w w [] := ⟨Below.refl _ _, _, .nil, fun k hk => hk.elim⟩
theorem St.size (h : St W0 w ts) : W0.heap.size ≤ w.heap.size := h.b.size
theorem St.below (h : St W0 w ts) (hb : Below w.heap.size w w') : St W0 w' ts := by
  obtain ⟨F, hs, hl⟩ := h.s
  exact ⟨h.b.trans (hb.mono h.b.size), F, hs.keep hb.size (fun k hk => hb.block k (hs.lt k hk)), hl⟩
theorem St.perm (h : St W0 w ts) (hp : ts.Perm us) : St W0 w us := by
  obtain ⟨F, hs, hl⟩ := h.s
  obtain ⟨G, hG, he⟩ := hs.perm hp
  exact ⟨h.b, G, hG, fun k hk => hl k ((he k).1 hk)⟩
/-- A call turns the first ones of them. -/
theorem St.acts (h : St W0 w (ts ++ us)) : ∃ F, Sep w ts F ∧ (∀ k, F k → W0.heap.size ≤ k) ∧ ∀ w' vs F', Sep w' vs F' → (∀ k, F' k → F k ∨ w.heap.size ≤ k) → Chf F w w' → St W0 w' (vs ++ us) := by
  obtain ⟨H, hs, hl⟩ := h.s
  obtain ⟨F, G, a, b, c, d⟩ := Sep.split ts hs
  refine ⟨F, a, fun k hk => hl k ((d k).2 (.inl hk)), fun w' vs F' hv hf hc => ?_⟩
  have hb : Sep w' us G := b.keep hc.size (fun k hk => hc.other k (b.lt k hk) (fun x => c k x hk))
  obtain ⟨H', hH, he⟩ := hv.append hb (fun k hk hg => by
    rcases hf k hk with h | h
    · exact c k h hg
    · have := b.lt k hg; omega)
  have hz := h.b.size
  refine ⟨h.b.trans (hc.below (fun k hk => hl k ((d k).2 (.inl hk))) hz), H', hH, fun k hk => ?_⟩
  rcases (he k).1 hk with h | h
  · rcases hf k h with h | h
    · exact hl k ((d k).2 (.inl h))
    · omega
  · exact hl k ((d k).2 (.inr h))
/-- A call turns the first one. -/
theorem St.act (h : St W0 w (t :: us)) : ∃ F, t.P w F ∧ (∀ k, F k → W0.heap.size ≤ k) ∧ ∀ w' t' F', t'.P w' F' → (∀ k, F' k → F k ∨ w.heap.size ≤ k) → Chf F w w' → St W0 w' (t' :: us) := by
  obtain ⟨F, hs, hl, hc⟩ := St.acts (ts := [t]) h
  cases hs with
  | cons h1 h2 h3 =>
    cases h2
    refine ⟨_, h1, fun k hk => hl k (.inl hk), fun w' t' F' ht hf hch => ?_⟩
    refine hc w' [t'] _ (.cons ht .nil (fun k _ hk => hk)) (fun k hk => ?_) (hch.mono (fun k hk => .inl hk))
    rcases hk with hk | hk
    · rcases hf k hk with h | h
      · exact .inl (.inl h)
      · exact .inr h
    · exact hk.elim
theorem St.get (h : St W0 w (t :: us)) : ∃ F, t.P w F ∧ ∀ k, F k → W0.heap.size ≤ k := by
  obtain ⟨F, h1, h2, _⟩ := h.act
  exact ⟨F, h1, h2⟩
/-- One more, in new memory. -/
theorem St.new (h : St W0 w us) (hb : Below w.heap.size w w') {F : Nat → Prop} (ht : t.P w' F) (hf : ∀ k, F k → w.heap.size ≤ k) : St W0 w' (t :: us) := by
  obtain ⟨G, hs, hl⟩ := h.s
  have hz := h.b.size
  refine ⟨(h.below hb).b, _, .cons ht (hs.keep hb.size (fun k hk => hb.block k (hs.lt k hk))) (fun k hk hg => ?_), fun k hk => ?_⟩
  · have := hs.lt k hg
    have := hf k hk
    omega
  · rcases hk with hk | hk
    · have := hf k hk; omega
    · exact hl k hk
/-- The same memory told otherwise. -/
theorem St.as (h : St W0 w (t :: us)) (hu : ∀ F, t.P w F → ∃ F', u.P w F' ∧ ∀ k, F' k → F k) : St W0 w (u :: us) := by
  obtain ⟨F, h1, _, h2⟩ := h.act
  obtain ⟨F', h3, h4⟩ := hu F h1
  exact h2 w u F' h3 (fun k hk => .inl (h4 k hk)) (Chf.refl _ _)
theorem St.drop (h : St W0 w (t :: us)) : St W0 w us := by
  obtain ⟨F, hs, hl⟩ := h.s
  cases hs with
  | cons h1 h2 h3 => exact ⟨h.b, _, h2, fun k hk => hl k (.inr hk)⟩
theorem St.sw (h : St W0 w (x :: y :: us)) : St W0 w (y :: x :: us) := h.perm (List.Perm.swap y x us)
theorem Sep.mem {w : World} {ts : List Th} {F : Nat → Prop} (h : Sep w ts F) : ∀ t ∈ ts, ∃ G, t.P w G ∧ ∀ k, G k → F k := by
  induction h with
  | nil => intro t ht; cases ht
  | cons h1 h2 h3 ih =>
    intro t ht
    rcases List.mem_cons.1 ht with rfl | ht
    · exact ⟨_, h1, fun k hk => .inl hk⟩
    · obtain ⟨G, a, b⟩ := ih t ht
      exact ⟨G, a, fun k hk => .inr (b k hk)⟩
theorem St.mem (h : St W0 w ts) (ht : t ∈ ts) : ∃ F, t.P w F ∧ ∀ k, F k → W0.heap.size ≤ k := by
  obtain ⟨F, hs, hl⟩ := h.s
  obtain ⟨G, a, b⟩ := hs.mem t ht
  exact ⟨G, a, fun k hk => hl k (b k hk)⟩
/-- The n-th of them goes ahead. -/
theorem perm_up (n : Nat) (us : List Th) : us.Perm ((us.drop n).take 1 ++ (us.take n ++ us.drop (n + 1))) := by
  have e : us.take n ++ ((us.drop n).take 1 ++ us.drop (n + 1)) = us := by
    rw [← List.drop_drop, List.take_append_drop, List.take_append_drop]
  have hp : (us.take n ++ ((us.drop n).take 1 ++ us.drop (n + 1))).Perm ((us.drop n).take 1 ++ (us.take n ++ us.drop (n + 1))) := by
    rw [← List.append_assoc, ← List.append_assoc]
    exact List.perm_append_comm.append_right _
  rw [e] at hp
  exact hp
theorem St.up (n : Nat) (h : St W0 w us) : St W0 w ((us.drop n).take 1 ++ (us.take n ++ us.drop (n + 1))) := h.perm (perm_up n us)
/-- The first one goes back to the n-th place. -/
theorem St.dn (n : Nat) (h : St W0 w (x :: us)) : St W0 w (us.take n ++ x :: us.drop n) := h.perm (by
  have := (List.perm_middle (a := x) (l₁ := us.take n) (l₂ := us.drop n)).symm
  rwa [List.take_append_drop] at this)
end
/-- A block, whole. -/
def blkT (b : Nat) (o : Obj) : Th where
  P w F := w.heap[b]? = some o ∧ ∀ k, F k ↔ k = b
  lt h k hk := by obtain rfl := (h.2 k).1 hk; exact (Array.getElem?_eq_some_iff.1 h.1).1
  keep h hz hk := ⟨(hk _ ((h.2 _).2 rfl)).trans h.1, h.2⟩
theorem St.blk {W0 w : World} {b : Nat} {o : Obj} {us : List Th} (h : St W0 w (blkT b o :: us)) : w.heap[b]? = some o := by
  obtain ⟨F, h1, _⟩ := h.get
  exact h1.1
theorem St.blkAt {W0 w : World} {b : Nat} {o : Obj} {us : List Th} (h : St W0 w us) (hm : blkT b o ∈ us) : w.heap[b]? = some o := by
  obtain ⟨F, h1, _⟩ := h.mem hm
  exact h1.1
theorem St.newBlk {W0 w : World} {us : List Th} (h : St W0 w us) (o : Obj) (b : Nat) (hb : w.heap.size = b) : St W0 (w.alloc o) (blkT b o :: us) := by
  subst hb
  refine h.new (F := fun k => k = w.heap.size) ((Below.refl _ _).alloc (Nat.le_refl _) _) ⟨?_, fun k => Iff.rfl⟩ (fun k hk => Nat.le_of_eq hk.symm)
  show (w.heap.push _)[w.heap.size]? = _
  simp
def nilT : Th where
  P w F := ∀ k, ¬ F k
  lt h k hk := (h k hk).elim
  keep h _ _ := h
theorem map_getD_range {α : Type _} (d : α) : ∀ (ts : List α) (n : Nat), n ≤ ts.length → (List.range n).map (fun i => ts.getD i d) = ts.take n := by
  intro ts n hn
  apply List.ext_getElem?
  intro i
  rw [List.getElem?_map, List.getElem?_take]
  by_cases h : i < n
  · rw [List.getElem?_range h, if_pos h]
    simp [List.getD_eq_getElem?_getD, List.getElem?_eq_getElem (show i < ts.length by omega)]
  · rw [if_neg h, List.getElem?_eq_none (by simpa using Nat.le_of_not_lt h)]
    rfl
/-- The first n of them in the order σ. -/
theorem St.re {W0 w : World} {ts : List Th} (h : St W0 w ts) (σ : List Nat) (n : Nat) (hσ : σ.Perm (List.range n) := by decide) (hn : n ≤ ts.length := by simp) : St W0 w (σ.map (fun i => ts.getD i nilT) ++ ts.drop n) := by
  refine h.perm ?_
  have h1 := hσ.map (fun i => ts.getD i nilT)
  rw [map_getD_range nilT ts n hn] at h1
  have h2 := (h1.append_right (ts.drop n)).symm
  rwa [List.take_append_drop] at h2
/-- The head and the first ones. -/
example {W0 w : World} {a b c d : Th} {us : List Th} (h : St W0 w (a :: b :: c :: d :: us)) : St W0 w (c :: a :: b :: d :: us) := h.re [2, 0, 1] 3
/-- The n-th goes away. -/
theorem St.rm {W0 w : World} {ts : List Th} (h : St W0 w ts) (n : Nat) (hn : n < ts.length := by simp) : St W0 w (ts.take n ++ ts.drop (n + 1)) := by
  have h1 := h.up n
  have e : (ts.drop n).take 1 = [ts[n]] := by
    rw [List.take_one, List.head?_drop, List.getElem?_eq_getElem hn]; rfl
  rw [e] at h1
  exact h1.drop
end Go.Proofs.Ytnamjnopicghhaa
