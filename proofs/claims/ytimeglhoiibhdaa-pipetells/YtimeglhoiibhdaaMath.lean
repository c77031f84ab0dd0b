/- Plain mathematics of packed numbers: twice n or -1 less twice n; seven bits a byte; what is read back. Nothing of any program is in this text. -/
namespace Go.Proofs.Ytimeglhoiibhdaa.M

/-! The number that an int is put as. -/
def zz (n : Int) : Nat := if 0 ≤ n then (2 * n).toNat else (-1 - 2 * n).toNat
def unzz (u : Nat) : Int := if u % 2 = 0 then ((u / 2 : Nat) : Int) else -1 - ((u / 2 : Nat) : Int)
def Fits (n : Int) : Prop := -9223372036854775808 ≤ n ∧ n ≤ 9223372036854775807
theorem unzz_zz (n : Int) : unzz (zz n) = n := by
  unfold unzz zz
  by_cases h : 0 ≤ n
  · rw [if_pos h, if_pos (by omega)]; omega
  · rw [if_neg h, if_neg (by omega)]; omega
theorem zz_unzz (u : Nat) : zz (unzz u) = u := by
  unfold unzz zz
  by_cases h : u % 2 = 0
  · rw [if_pos h, if_pos (by omega)]; omega
  · rw [if_neg h, if_neg (by omega)]; omega
theorem zz_lt (n : Int) (h : Fits n) : zz n < 18446744073709551616 := by
  unfold zz Fits at *
  split <;> omega
theorem unzz_fits (u : Nat) (h : u < 18446744073709551616) : Fits (unzz u) := by
  unfold unzz Fits
  split <;> omega
theorem zz_inj (m n : Int) (h : zz m = zz n) : m = n := by rw [← unzz_zz m, h, unzz_zz]

/-! Its bytes. -/
def leb (u : Nat) : List Nat := if u < 128 then [u] else (u % 128 + 128) :: leb (u / 128)
termination_by u
decreasing_by omega
theorem leb_small (u : Nat) (h : u < 128) : leb u = [u] := by rw [leb, if_pos h]
theorem leb_great (u : Nat) (h : 128 ≤ u) : leb u = (u % 128 + 128) :: leb (u / 128) := by rw [leb, if_neg (by omega)]
theorem leb_ind {P : Nat → Prop} (h0 : ∀ u, u < 128 → P u) (h1 : ∀ u, 128 ≤ u → P (u / 128) → P u) (u : Nat) : P u := by
  induction u using Nat.strongRecOn with
  | ind u ih =>
    by_cases h : u < 128
    · exact h0 u h
    · exact h1 u (by omega) (ih (u / 128) (by omega))
theorem leb_pos (u : Nat) : 1 ≤ (leb u).length := by
  by_cases h : u < 128
  · rw [leb_small u h]; simp
  · rw [leb_great u (by omega)]; simp
theorem leb_ne (u : Nat) : leb u ≠ [] := by
  intro h
  have := leb_pos u
  rw [h] at this
  simp at this
theorem leb_bytes (u : Nat) : ∀ c ∈ leb u, c < 256 := by
  induction u using leb_ind with
  | h0 u h => rw [leb_small u h]; simp; omega
  | h1 u h ih =>
    rw [leb_great u h]
    intro c hc
    rcases List.mem_cons.1 hc with rfl | hc
    · omega
    · exact ih c hc
/-- How long: it fits into k bytes just if it is below 128 to the k. -/
theorem leb_len_le (u : Nat) : ∀ k, 1 ≤ k → ((leb u).length ≤ k ↔ u < 128 ^ k) := by
  induction u using leb_ind with
  | h0 u h =>
    intro k hk
    rw [leb_small u h]
    have : 128 ^ 1 ≤ 128 ^ k := Nat.pow_le_pow_right (by omega) hk
    simp
    omega
  | h1 u h ih =>
    intro k hk
    rw [leb_great u h, List.length_cons]
    by_cases h1 : k = 1
    · subst h1
      have := leb_pos (u / 128)
      constructor
      · intro _; omega
      · intro _; omega
    · obtain ⟨j, rfl⟩ : ∃ j, k = j + 1 := ⟨k - 1, by omega⟩
      have := ih j (by omega)
      rw [Nat.pow_succ]
      constructor
      · intro hl
        have := this.1 (by omega)
        omega
      · intro hl
        have := this.2 (by omega)
        omega
theorem leb_mono (u v : Nat) (h : u ≤ v) : (leb u).length ≤ (leb v).length :=
  (leb_len_le u _ (leb_pos v)).2 (Nat.lt_of_le_of_lt h ((leb_len_le v _ (leb_pos v)).1 (Nat.le_refl _)))
theorem leb_ten (u : Nat) (h : u < 18446744073709551616) : (leb u).length ≤ 10 :=
  (leb_len_le u 10 (by decide)).2 (by omega)

/-! Read back. -/
def dec : List Nat → Option (Nat × Nat)
  | [] => none
  | c :: r => if c < 128 then some (c, 1) else
    match dec r with
    | none => none
    | some (v, k) => if v = 0 then none else some (c - 128 + 128 * v, k + 1)
theorem dec_leb (u : Nat) : ∀ r, dec (leb u ++ r) = some (u, (leb u).length) := by
  induction u using leb_ind with
  | h0 u h => intro r; rw [leb_small u h]; simp [dec, h]
  | h1 u h ih =>
    intro r
    rw [leb_great u h, List.cons_append, dec, if_neg (by omega), ih r]
    simp only
    rw [if_neg (by omega), List.length_cons]
    congr 2
    omega
theorem dec_some : ∀ (b : List Nat) (u k : Nat), (∀ c ∈ b, c < 256) → dec b = some (u, k) → leb u = b.take k ∧ k ≤ b.length
  | [], _, _, _, h => by simp [dec] at h
  | c :: r, u, k, hb, h => by
    rw [dec] at h
    by_cases hc : c < 128
    · rw [if_pos hc] at h
      simp only [Option.some.injEq, Prod.mk.injEq] at h
      obtain ⟨rfl, rfl⟩ := h
      rw [leb_small _ hc]
      simp
    · rw [if_neg hc] at h
      cases hd : dec r with
      | none => rw [hd] at h; simp at h
      | some p =>
        obtain ⟨v, j⟩ := p
        rw [hd] at h
        simp only at h
        by_cases hv : v = 0
        · rw [if_pos hv] at h; simp at h
        · rw [if_neg hv] at h
          simp only [Option.some.injEq, Prod.mk.injEq] at h
          obtain ⟨rfl, rfl⟩ := h
          have hc2 := hb c (List.mem_cons_self ..)
          obtain ⟨h1, h2⟩ := dec_some r v j (fun x hx => hb x (List.mem_cons_of_mem _ hx)) hd
          refine ⟨?_, by simp; omega⟩
          rw [leb_great _ (by omega), List.take_succ_cons, ← h1]
          congr 1
          · omega
          · congr 1; omega
/-- The first int of bytes, as a number of 64 bits, and its size. -/
def next (b : List Nat) : Option (Nat × Nat) :=
  match dec b with
  | none => none
  | some (u, k) => if u < 18446744073709551616 then some (u, k) else none
theorem next_leb (u : Nat) (h : u < 18446744073709551616) (r : List Nat) : next (leb u ++ r) = some (u, (leb u).length) := by
  unfold next; rw [dec_leb]; simp [h]
theorem next_some (b : List Nat) (u k : Nat) (hb : ∀ c ∈ b, c < 256) (h : next b = some (u, k)) : u < 18446744073709551616 ∧ leb u = b.take k ∧ k ≤ b.length ∧ k = (leb u).length := by
  unfold next at h
  cases hd : dec b with
  | none => rw [hd] at h; simp at h
  | some p =>
    obtain ⟨v, j⟩ := p
    rw [hd] at h
    simp only at h
    by_cases hv : v < 18446744073709551616
    · rw [if_pos hv] at h
      simp only [Option.some.injEq, Prod.mk.injEq] at h
      obtain ⟨rfl, rfl⟩ := h
      obtain ⟨h1, h2⟩ := dec_some b v j hb hd
      exact ⟨hv, h1, h2, by rw [h1, List.length_take]; omega⟩
    · rw [if_neg hv] at h; simp at h

/-! The shape of a number's bytes: the last one alone is below 128; it isn't nought where there are more. -/
theorem leb_shape (u : Nat) : ∃ (hs : List Nat) (c : Nat), leb u = hs ++ [c] ∧ c < 128 ∧ (∀ x ∈ hs, 128 ≤ x) ∧ (hs ≠ [] → c ≠ 0) := by
  induction u using leb_ind with
  | h0 u h => exact ⟨[], u, by rw [leb_small u h]; rfl, h, by simp, by simp⟩
  | h1 u h ih =>
    obtain ⟨hs, c, e, hc, hx, hz⟩ := ih
    refine ⟨(u % 128 + 128) :: hs, c, by rw [leb_great u h, e]; rfl, hc, ?_, ?_⟩
    · intro x hm
      rcases List.mem_cons.1 hm with rfl | hm
      · omega
      · exact hx x hm
    · intro _
      by_cases h0 : hs = []
      · subst h0
        have : u / 128 < 128 := by
          have hl : (leb (u / 128)).length = 1 := by rw [e]; rfl
          have := (leb_len_le (u / 128) 1 (by decide)).1 (by omega)
          omega
        rw [leb_small _ this] at e
        simp at e
        omega
      · exact hz h0
theorem dec_all_great : ∀ b : List Nat, (∀ x ∈ b, 128 ≤ x) → dec b = none
  | [], _ => rfl
  | c :: r, h => by
    rw [dec, if_neg (by have := h c (List.mem_cons_self ..); omega), dec_all_great r fun x hx => h x (List.mem_cons_of_mem _ hx)]
theorem dec_long : ∀ b : List Nat, b ≠ [] → (∀ x ∈ b, 128 ≤ x) → dec (b ++ [0]) = none
  | [], h, _ => absurd rfl h
  | [c], _, h => by
    have := h c (List.mem_cons_self ..)
    simp [dec]; omega
  | c :: d :: r, _, h => by
    have h1 := dec_long (d :: r) (by simp) fun x hx => h x (List.mem_cons_of_mem _ hx)
    rw [List.cons_append, dec, if_neg (by have := h c (List.mem_cons_self ..); omega), h1]
/-- A beginning of a number's bytes is none. -/
theorem dec_cut (u k : Nat) (h : k < (leb u).length) : dec ((leb u).take k) = none := by
  obtain ⟨hs, c, e, _, hx, _⟩ := leb_shape u
  rw [e] at h ⊢
  rw [List.length_append, List.length_singleton] at h
  rw [List.take_append_of_le_length (by omega)]
  exact dec_all_great _ fun x hm => hx x (List.mem_of_mem_take hm)

/-! Several. -/
def put (l : List Int) : List Nat := l.flatMap fun n => leb (zz n)
theorem put_nil : put [] = [] := rfl
theorem put_cons (n : Int) (l : List Int) : put (n :: l) = leb (zz n) ++ put l := rfl
theorem put_append (l m : List Int) : put (l ++ m) = put l ++ put m := by simp [put]
theorem put_bytes (l : List Int) : ∀ c ∈ put l, c < 256 := by
  intro c hc
  obtain ⟨n, _, h⟩ := List.mem_flatMap.1 hc
  exact leb_bytes _ c h
theorem put_one (n : Int) : put [n] = leb (zz n) := by simp [put]
def get : Nat → List Nat → Option (List Int)
  | _, [] => some []
  | 0, _ :: _ => none
  | f + 1, c :: r =>
    match next (c :: r) with
    | none => none
    | some (u, k) => (get f ((c :: r).drop k)).map fun l => unzz u :: l
theorem get_put : ∀ (l : List Int) (f : Nat), (∀ n ∈ l, Fits n) → (put l).length ≤ f → get f (put l) = some l
  | [], f, _, _ => by cases f <;> rfl
  | n :: l, f, hf, hl => by
    have hp := leb_pos (zz n)
    rw [put_cons] at hl ⊢
    rw [List.length_append] at hl
    have hn := next_leb (zz n) (zz_lt n (hf n (List.mem_cons_self ..))) (put l)
    obtain ⟨g, rfl⟩ : ∃ g, f = g + 1 := ⟨f - 1, by omega⟩
    have hd : (leb (zz n) ++ put l).drop (leb (zz n)).length = put l := List.drop_left
    have ih := get_put l g (fun x hx => hf x (List.mem_cons_of_mem _ hx)) (by omega)
    cases hb : leb (zz n) ++ put l with
    | nil =>
      have := congrArg List.length hb
      rw [List.length_append, List.length_nil] at this
      omega
    | cons c r =>
      rw [get, ← hb, hn]
      simp only
      rw [hd, ih, unzz_zz]
      rfl
theorem get_some : ∀ (f : Nat) (b : List Nat) (l : List Int), (∀ c ∈ b, c < 256) → get f b = some l → put l = b ∧ ∀ n ∈ l, Fits n
  | f, [], l, _, h => by
    have : get f [] = some [] := by cases f <;> rfl
    rw [this] at h
    simp only [Option.some.injEq] at h
    subst h
    exact ⟨rfl, by simp⟩
  | 0, c :: r, l, _, h => by simp [get] at h
  | f + 1, c :: r, l, hb, h => by
    rw [get] at h
    cases hn : next (c :: r) with
    | none => rw [hn] at h; simp at h
    | some p =>
      obtain ⟨u, k⟩ := p
      rw [hn] at h
      simp only at h
      cases hg : get f ((c :: r).drop k) with
      | none => rw [hg] at h; simp at h
      | some m =>
        rw [hg] at h
        simp only [Option.map_some, Option.some.injEq] at h
        subst h
        obtain ⟨h1, h2, h3, h4⟩ := next_some _ u k hb hn
        obtain ⟨g1, g2⟩ := get_some f _ m (fun x hx => hb x (List.mem_of_mem_drop hx)) hg
        refine ⟨?_, ?_⟩
        · rw [put_cons, zz_unzz, h2, g1, List.take_append_drop]
        · intro n hm
          rcases List.mem_cons.1 hm with rfl | hm
          · exact unzz_fits u h1
          · exact g2 n hm
theorem put_inj (l m : List Int) (hl : ∀ n ∈ l, Fits n) (hm : ∀ n ∈ m, Fits n) (h : put l = put m) : l = m := by
  have h1 := get_put l (put l).length hl (Nat.le_refl _)
  have h2 := get_put m (put l).length hm (by rw [h]; exact Nat.le_refl _)
  rw [← h, h1] at h2
  exact Option.some.inj h2

/-! Cut. -/
theorem ends_count (l : List Int) : (put l).countP (fun c => decide (c < 128)) = l.length := by
  induction l with
  | nil => rfl
  | cons n l ih =>
    rw [put_cons, List.countP_append, ih]
    obtain ⟨hs, c, e, hc, hx, _⟩ := leb_shape (zz n)
    have h0 : hs.countP (fun c => decide (c < 128)) = 0 := by
      rw [List.countP_eq_zero]
      intro x hm
      have := hx x hm
      simp; omega
    rw [e, List.countP_append, h0]
    simp [hc]
    omega
theorem put_len (l : List Int) : (put l).length = (l.map fun n => (leb (zz n)).length).sum := by
  induction l with
  | nil => rfl
  | cons n l ih => rw [put_cons, List.length_append, ih]; simp
/-- A cut of ints' bytes at which an int ends is between two of them. -/
theorem cut_whole : ∀ (l : List Int) (k : Nat), k ≤ (put l).length → (k = 0 ∨ ∃ c, (put l)[k - 1]? = some c ∧ c < 128) → ∃ i, i ≤ l.length ∧ (put l).take k = put (l.take i) ∧ (put l).drop k = put (l.drop i)
  | [], k, hk, _ => by
    have : k = 0 := by simpa [put] using hk
    subst this
    exact ⟨0, by simp, by simp [put], by simp [put]⟩
  | n :: l, k, hk, h => by
    by_cases h0 : k = 0
    · subst h0
      exact ⟨0, by simp, by simp [put], by simp⟩
    · obtain ⟨c, hc, hlt⟩ := h.resolve_left h0
      obtain ⟨hs, d, e, hd, hx, _⟩ := leb_shape (zz n)
      have hlen : (leb (zz n)).length = hs.length + 1 := by rw [e]; simp
      by_cases h1 : k ≤ hs.length
      · exfalso
        rw [put_cons, e, List.append_assoc, List.getElem?_append_left (by omega)] at hc
        have := hx c (List.mem_of_getElem? hc)
        omega
      · obtain ⟨j, rfl⟩ : ∃ j, k = (leb (zz n)).length + j := ⟨k - (leb (zz n)).length, by omega⟩
        rw [put_cons, List.length_append] at hk
        have ih := cut_whole l j (by omega) (by
          by_cases hj : j = 0
          · exact .inl hj
          · refine .inr ⟨c, ?_, hlt⟩
            rw [put_cons, List.getElem?_append_right (by omega)] at hc
            rw [← hc]
            congr 1
            omega)
        obtain ⟨i, hi, h2, h3⟩ := ih
        refine ⟨i + 1, by simp; omega, ?_, ?_⟩
        · rw [List.take_succ_cons, put_cons, put_cons, List.take_append, List.take_of_length_le (by omega), Nat.add_sub_cancel_left, h2]
        · rw [List.drop_succ_cons, put_cons, List.drop_append, List.drop_of_length_le (by omega), Nat.add_sub_cancel_left, h3, List.nil_append]
/-- .. and at any other cut the first part is no ints' bytes. -/
theorem cut_within (l m : List Int) (k : Nat) (h : (put l).take k = put m) (hk : k ≤ (put l).length) : k = 0 ∨ ∃ c, (put l)[k - 1]? = some c ∧ c < 128 := by
  by_cases h0 : k = 0
  · exact .inl h0
  · right
    have hl : (put m).length = k := by rw [← h, List.length_take]; omega
    cases hm : m.reverse with
    | nil =>
      have : m = [] := by simpa using hm
      subst this
      simp [put] at hl
      omega
    | cons x r =>
      have e : m = r.reverse ++ [x] := by
        have := congrArg List.reverse hm
        simpa using this
      obtain ⟨hs, c, es, hc, _, _⟩ := leb_shape (zz x)
      have e2 : put m = put r.reverse ++ hs ++ [c] := by rw [e, put_append, put_one, es, List.append_assoc]
      refine ⟨c, ?_, hc⟩
      have h1 : ((put l).take k)[k - 1]? = (put l)[k - 1]? := List.getElem?_take_of_lt (by omega)
      rw [← h1, h, e2]
      have h2 : k - 1 = (put r.reverse ++ hs).length := by
        have := congrArg List.length e2
        rw [hl, List.length_append, List.length_singleton] at this
        omega
      rw [h2, List.getElem?_append_right (Nat.le_refl _), Nat.sub_self]
      rfl
/-! Read step by step: the bytes that say that another follows, then one that doesn't. -/
def acc : List Nat → Nat
  | [] => 0
  | c :: r => c - 128 + 128 * acc r
theorem acc_lt : ∀ hs : List Nat, (∀ x ∈ hs, x < 256) → acc hs < 128 ^ hs.length
  | [], _ => by simp [acc]
  | c :: r, h => by
    have h1 := acc_lt r fun x hx => h x (List.mem_cons_of_mem _ hx)
    have h2 := h c (List.mem_cons_self ..)
    rw [acc, List.length_cons, Nat.pow_succ]
    omega
theorem acc_snoc : ∀ (hs : List Nat) (c : Nat), acc (hs ++ [c]) = acc hs + (c - 128) * 128 ^ hs.length
  | [], c => by simp [acc]
  | d :: r, c => by
    have e : ∀ a P : Nat, 128 * (a * P) = a * (P * 128) := fun a P => by rw [Nat.mul_left_comm, Nat.mul_comm 128]
    rw [List.cons_append, acc, acc, acc_snoc r c, List.length_cons, Nat.pow_succ, Nat.mul_add, ← Nat.add_assoc, e]
theorem dec_acc : ∀ (hs : List Nat) (c : Nat) (r : List Nat), (∀ x ∈ hs, 128 ≤ x) → c < 128 → (hs ≠ [] → c ≠ 0) → dec (hs ++ c :: r) = some (acc hs + c * 128 ^ hs.length, hs.length + 1) ∧ (c ≠ 0 → acc hs + c * 128 ^ hs.length ≠ 0)
  | [], c, r, _, hc, _ => by simp [dec, acc, hc]
  | d :: hs, c, r, h, hc, hz => by
    have hz' := hz (by simp)
    obtain ⟨h1, h2⟩ := dec_acc hs c r (fun x hx => h x (List.mem_cons_of_mem _ hx)) hc fun _ => hz'
    have e : d - 128 + 128 * (acc hs + c * 128 ^ hs.length) = acc (d :: hs) + c * 128 ^ (d :: hs).length := by
      have e2 : ∀ a P : Nat, 128 * (a * P) = a * (P * 128) := fun a P => by rw [Nat.mul_left_comm, Nat.mul_comm 128]
      rw [acc, List.length_cons, Nat.pow_succ, Nat.mul_add, ← Nat.add_assoc, e2]
    have h3 := h d (List.mem_cons_self ..)
    refine ⟨?_, fun _ => ?_⟩
    · rw [List.cons_append, dec, if_neg (by omega), h1]
      simp only
      rw [if_neg (h2 hz'), e]
      rfl
    · rw [← e]
      have := h2 hz'
      omega
theorem dec_acc_zero (hs r : List Nat) (h : ∀ x ∈ hs, 128 ≤ x) (hne : hs ≠ []) : dec (hs ++ 0 :: r) = none := by
  induction hs with
  | nil => exact absurd rfl hne
  | cons d hs ih =>
    have h3 := h d (List.mem_cons_self ..)
    rw [List.cons_append, dec, if_neg (by omega)]
    by_cases h0 : hs = []
    · subst h0
      have : dec ([] ++ 0 :: r) = some (0, 1) := rfl
      rw [this]
      rfl
    · rw [ih (fun x hx => h x (List.mem_cons_of_mem _ hx)) h0]
/-- What Next answers. -/
def nx (b : List Nat) : Int × Nat :=
  match next b with
  | none => (0, 0)
  | some (u, k) => (unzz u, k)
theorem nx_none {b : List Nat} (h : next b = none) : nx b = (0, 0) := by unfold nx; rw [h]
theorem nx_some {b : List Nat} {u k : Nat} (h : next b = some (u, k)) : nx b = (unzz u, k) := by unfold nx; rw [h]
def mayEnd (c i : Nat) : Bool := if c = 0 then decide (i = 0) else decide (i < 9) || decide (c ≤ 1)
theorem pow9 : (128 : Nat) ^ 9 = 9223372036854775808 := by decide
theorem pow_le9 (i : Nat) (h : i ≤ 8) : (128 : Nat) ^ (i + 1) ≤ 9223372036854775808 := by
  rw [← pow9]; exact Nat.pow_le_pow_right (by decide) (by omega)
theorem step_lt (hs : List Nat) (c : Nat) (hb : ∀ x ∈ hs, x < 256) (hc : c < 128) : acc hs + c * 128 ^ hs.length < 128 ^ (hs.length + 1) := by
  have h1 := acc_lt hs hb
  rw [Nat.pow_succ]
  generalize 128 ^ hs.length = P at *
  have : c * P ≤ 127 * P := Nat.mul_le_mul_right _ (by omega)
  omega
theorem nx_end (hs : List Nat) (c : Nat) (r : List Nat) (h : ∀ x ∈ hs, 128 ≤ x) (hb : ∀ x ∈ hs, x < 256) (hc : c < 128) (hi : hs.length ≤ 9) (hm : mayEnd c hs.length = true) :
    nx (hs ++ c :: r) = (unzz (acc hs + c * 128 ^ hs.length), hs.length + 1) ∧ acc hs + c * 128 ^ hs.length < 18446744073709551616 := by
  have hlt : acc hs + c * 128 ^ hs.length < 18446744073709551616 := by
    by_cases h8 : hs.length ≤ 8
    · have h1 := step_lt hs c hb hc
      have h2 := pow_le9 _ h8
      omega
    · have e : hs.length = 9 := by omega
      have h1 := acc_lt hs hb
      have hc1 : c ≤ 1 := by
        unfold mayEnd at hm
        by_cases h0 : c = 0
        · omega
        · rw [if_neg h0, e] at hm; simpa using hm
      rw [e, pow9] at h1 ⊢
      omega
  have hz : hs ≠ [] → c ≠ 0 := by
    intro hne h0
    subst h0
    unfold mayEnd at hm
    simp at hm
    exact hne hm
  refine ⟨nx_some ?_, hlt⟩
  unfold next
  rw [(dec_acc hs c r h hc hz).1]
  simp [hlt]
theorem nx_bad (hs : List Nat) (c : Nat) (r : List Nat) (h : ∀ x ∈ hs, 128 ≤ x) (hc : c < 128) (hm : mayEnd c hs.length = false) : nx (hs ++ c :: r) = (0, 0) := by
  refine nx_none ?_
  unfold next
  by_cases h0 : c = 0
  · subst h0
    have hne : hs ≠ [] := by
      intro e; subst e; simp [mayEnd] at hm
    rw [dec_acc_zero hs r h hne]
  · rw [(dec_acc hs c r h hc fun _ => h0).1]
    unfold mayEnd at hm
    rw [if_neg h0] at hm
    simp at hm
    have h9 : 128 ^ 9 ≤ 128 ^ hs.length := Nat.pow_le_pow_right (by decide) hm.1
    rw [pow9] at h9
    have : 2 * 128 ^ hs.length ≤ c * 128 ^ hs.length := Nat.mul_le_mul_right _ (by omega)
    simp only
    rw [if_neg (by omega)]
theorem nx_open (b : List Nat) (hb : ∀ x ∈ b, x < 256) (h : ∀ x ∈ b.take 10, 128 ≤ x) : nx b = (0, 0) := by
  refine nx_none ?_
  unfold next
  cases hd : dec b with
  | none => rfl
  | some p =>
    obtain ⟨u, k⟩ := p
    obtain ⟨h1, h2⟩ := dec_some b u k hb hd
    simp only
    obtain ⟨hs, c, e, hc, _, _⟩ := leb_shape u
    have hk : k = hs.length + 1 := by
      have := congrArg List.length h1
      rw [e, List.length_take] at this
      simp at this; omega
    by_cases h10 : k ≤ 10
    · exfalso
      have hm : c ∈ b.take 10 := by
        have : c ∈ b.take k := by rw [← h1, e]; simp
        exact List.take_subset_take_left b h10 this
      have := h c hm
      omega
    · rw [if_neg]
      intro hlt
      have h3 := leb_ten u hlt
      rw [e, List.length_append, List.length_singleton] at h3
      omega

/-! How many bytes, by how many bits. -/
theorem size_bits (u L : Nat) (hL : L ≤ 64) (h1 : u < 2 ^ L) (h2 : L ≠ 0 → 2 ^ (L - 1) ≤ u) : (leb u).length = max 1 ((L + 6) / 7) := by
  have e128 : ∀ k, (128 : Nat) ^ k = 2 ^ (7 * k) := fun k => by rw [Nat.pow_mul]
  by_cases h0 : L = 0
  · subst h0
    have : u = 0 := by simpa using h1
    subst this
    rw [leb_small 0 (by decide)]; rfl
  · have h3 := h2 h0
    have hk : max 1 ((L + 6) / 7) = (L + 6) / 7 := by omega
    rw [hk]
    have hle : (leb u).length ≤ (L + 6) / 7 := (leb_len_le u _ (by omega)).2 (by
      rw [e128]
      exact Nat.lt_of_lt_of_le h1 (Nat.pow_le_pow_right (by decide) (by omega)))
    by_cases hs : (L + 6) / 7 = 1
    · have := leb_pos u
      omega
    · have hgt : ¬ (leb u).length ≤ (L + 6) / 7 - 1 := by
        rw [leb_len_le u _ (by omega), e128]
        have : 2 ^ (7 * ((L + 6) / 7 - 1)) ≤ 2 ^ (L - 1) := Nat.pow_le_pow_right (by decide) (by omega)
        omega
      omega
end Go.Proofs.Ytimeglhoiibhdaa.M
