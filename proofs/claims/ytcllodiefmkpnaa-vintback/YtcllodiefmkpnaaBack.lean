/- VintBack, walked: of any two lists of ints and any bytes it returns true, and nothing that was there is written. -/
import Derived.Test.YtcllodiefmkpnaaRoomy
import Derived.Test.YtcllodiefmkpnaaRef
import Derived.Deep.RegionHeld3
import Derived.Deep.DrawnRows
namespace Go.Proofs.Ytcllodiefmkpnaa
open Go.RowKit M

/-- A list that may be read, and appended. -/
def Lst (x : List Int) (v : Value) (w : World) : Prop := Rd .i64 w v x ∧ Src w v x.length (iv x)
theorem Lst.below {x : List Int} {v : Value} {w w' : World} (h : Lst x v w) (b : Below w.heap.size w w') : Lst x v w' := ⟨h.1.below b (Nat.le_refl _), h.2.below b (Nat.le_refl _)⟩
theorem keep_alloc {w W : World} {o : Obj} (h : Below w.heap.size w W) : Below w.heap.size w (W.alloc o) := h.alloc h.size o
theorem keep_call {w W W' : World} (h : Below w.heap.size w W) (b : Below W.heap.size W W') : Below w.heap.size w W' := h.trans (b.mono h.size)
theorem first_of {k : IntKind} {w : World} {ao : Option Addr} {len cap : Nat} {zs : List Int} (hrow : IsRow k w ao len cap zs) (m : Nat) : ∃ K : Nat, K ≤ m ∧ K ≤ len ∧ min (len : Int) (m : Int) = (K : Int) ∧ (zs.take K).length = K ∧ Src w (.slice ao K cap) K ((zs.take K).map (Value.int k)) ∧ ∀ n ∈ zs.take K, (Lit.int k n).wf = true := by
  obtain ⟨K, hKm, hKl, hmin⟩ : ∃ K : Nat, K ≤ m ∧ K ≤ len ∧ min (len : Int) (m : Int) = (K : Int) := by
    by_cases h : len ≤ m
    · exact ⟨len, h, Nat.le_refl _, by omega⟩
    · exact ⟨m, Nat.le_refl _, by omega, by omega⟩
  refine ⟨K, hKm, hKl, hmin, ?_, src_row hrow K hKl, ?_⟩
  · rcases hrow with ⟨_, rfl, _, rfl⟩ | ⟨x, _, h1, _, h3, _⟩
    · simp; omega
    · rw [List.length_take]; omega
  · intro n hn
    rcases hrow with ⟨_, _, _, rfl⟩ | ⟨x, _, _, _, _, _, hwf⟩
    · simp at hn
    · exact hwf n (List.mem_of_mem_take hn)

/-- An operation that yields is taken first: the slot by its number. -/
theorem take_at {P : Program} {ops : Array Oper} {Q : Exit → Act → World → Prop} {md : Region.Mode} {S : World → Prop} {i k : Nat} {oi : Oper} {v : Value} {fuel : Nat} {listed : Array Bool} {a : Act} {w : World} (hi : ops[i]? = some oi) (hd : oi.dst = some k)
    (hs : Region.noSelect ops = true) (hf : Region.free md ops listed i = true) (hr : (Region.ready md ops listed).contains i = true)
    (hQ : ∀ c a w, Q (.panic c) (a.put (some k) v) w → Q (.panic c) a w) (hy : YieldsIf P ops S oi v a) (hS : S w)
    (h : wpAnyH P md ops Q S fuel (listed.setIfInBounds i true) (a.put (some k) v) w) : wpAnyH P md ops Q S (fuel + 1) listed a w := by
  rw [← hd] at h hQ
  exact wpAnyH_take hi hs hf hr hQ hy hS h
theorem bytes_of : ∀ zs : List Int, (∀ n ∈ zs, (Lit.int .u8 n).wf = true) → ∃ l : List Nat, toI l = zs ∧ ∀ c ∈ l, c < 256
  | [], _ => ⟨[], rfl, by simp⟩
  | z :: zs, h => by
    obtain ⟨l, h1, h2⟩ := bytes_of zs fun n hn => h n (List.mem_cons_of_mem _ hn)
    obtain ⟨n, rfl, hn⟩ := wf_byte (h z (List.mem_cons_self ..))
    refine ⟨n :: l, by rw [← h1]; rfl, fun c hc => ?_⟩
    rcases List.mem_cons.1 hc with rfl | hc
    · exact hn
    · exact h2 c hc
theorem step_at {P : Program} (w : World) {ops : Array Oper} {o : Oper} {a : Act} {K : Act → World → Prop} {Q : Exit → Act → World → Prop} {E : Prop} {d : Nat} (hd : o.dst = some d) (hgd : o.guard = none) (s x : Operand) (t : TypeId)
    (ho : o.op = .call { callee := .builtin .append, args := #[s, x], argTypes := #[t, t] })
    (e : TypeId) (i : TypeInfo) (z : Value) (bytes : Nat) (k : IntKind) (ht : P.underlying t = some (.slice e)) (hi : P.info? e = some i) (hz : i.zero = some z)
    (hsize : i.size = 1) (hby : i.bytes = bytes) (hzs : z.cells.size = 1)
    (ad0 : Addr) (hs : a.eval s = .slice (some ad0) 0 0) (u : Value) (zs : List Int) (hx : a.eval x = u) (hsrc : Src w u zs.length (zs.map (Value.int k)))
    (h63 : zs.length ≤ maxLen) (hbytes : zs.length * bytes ≤ 140737488355328)
    (h : ∀ v' w', Rd k w' v' zs → Src w' v' zs.length (zs.map (Value.int k)) → Below w.heap.size w w' → K (a.put (some d) v') w') :
    if Region.wanted o (yielded ops a.tmps) = true then Oper.wp P o a w K Q else E := by
  refine step_append_fresh w hgd s x t ho e i z bytes k ht hi hz hsize hby hzs ad0 hs u zs hx hsrc h63 hbytes ?_
  rw [hd]
  exact h
attribute [local go_sem ↓] Go.wp_at_zero Go.wp_at_succ
set_option maxHeartbeats 4000000 in
set_option maxRecDepth 100000 in
theorem back_core (o1 : Option Addr) (len1 cap1 : Nat) (z1 : List Int) (o2 : Option Addr) (len2 cap2 : Nat) (z2 : List Int) (o3 : Option Addr) (len3 cap3 : Nat) (z3 : List Int) (w : World)
    (row1 : IsInts w o1 len1 cap1 z1) (row2 : IsInts w o2 len2 cap2 z2) (row3 : IsBytes w o3 len3 cap3 z3) :
    Calls Try.prog 4 #[.slice o1 len1 cap1, .slice o2 len2 cap2, .slice o3 len3 cap3] w fun e w' => e = .returned (.bool true) ∧ Below w.heap.size w w' := by
  obtain ⟨i0, hi, hz0, hz1, hz2⟩ := info_parts Try.info3
  obtain ⟨K1, k15, kl1, min1, xl0, src1, wf1⟩ := first_of row1 15
  obtain ⟨K2, m15, kl2, min2, yl0, src2, wf2⟩ := first_of row2 15
  obtain ⟨x, hx⟩ : ∃ x, Hid (z1.take K1 = x) := ⟨_, rfl⟩
  obtain ⟨y, hy⟩ : ∃ y, Hid (z2.take K2 = y) := ⟨_, rfl⟩
  rw [hx.out] at xl0 src1 wf1
  rw [hy.out] at yl0 src2 wf2
  have fx : Hid (∀ n ∈ x, Fits n) := fun n hn => wf_fits (wf1 n hn)
  have fy : Hid (∀ n ∈ y, Fits n) := fun n hn => wf_fits (wf2 n hn)
  have s1 : Hid (Src w (.slice o1 K1 cap1) x.length (iv x)) := by rw [xl0]; exact src1
  have s2 : Hid (Src w (.slice o2 K2 cap2) y.length (iv y)) := by rw [yl0]; exact src2
  have xl : x.length ≤ 15 := by omega
  have yl : y.length ≤ 15 := by omega
  clear hx hy src1 src2 wf1 wf2 xl0 yl0
  go_enter Try.func4, Try.ntmps4
  go_upto_region 1 with fail
  go_cut [7, 8] (fun v1 v2 wx => Lst x v1 wx ∧ Lst y v2 wx ∧ Below w.heap.size w wx)
  case first =>
    have hS : Below w.heap.size w w.drew := (Below.refl _ _).drew
    have m1 : min (len1 : Int) 15 = (K1 : Int) := min1
    have m2 : min (len2 : Int) 15 = (K2 : Int) := min2
    clear min1 min2 row3
    refine wp_region_held_drew (S := fun w' => Below w.heap.size w w') (by kernel_rfl) hS (fun hHeld => ?_)
    refine take_at (i := 1) (v := .slice o1 len1 cap1) rfl rfl (by kernel_rfl) (by kernel_rfl) (by kernel_rfl) (fun _ _ _ h => h) (Or.inl ⟨by rfl, fun W _ => by go_simp⟩) hHeld ?_
    simp only [Act.put, List.setIfInBounds_toArray, List.set_cons_zero, List.set_cons_succ]
    refine take_at (i := 2) (v := .slice o1 len1 cap1) rfl rfl (by kernel_rfl) (by kernel_rfl) (by kernel_rfl) (fun _ _ _ h => h) (Or.inl ⟨by rfl, fun W _ => by go_simp⟩) hHeld ?_
    simp only [Act.put, List.setIfInBounds_toArray, List.set_cons_zero, List.set_cons_succ]
    refine take_at (i := 3) (v := .int .i64 (len1 : Int)) rfl rfl (by kernel_rfl) (by kernel_rfl) (by kernel_rfl) (fun _ _ _ h => h) (Or.inl ⟨by rfl, fun W _ => by go_simp⟩) hHeld ?_
    simp only [Act.put, List.setIfInBounds_toArray, List.set_cons_zero, List.set_cons_succ]
    refine take_at (i := 4) (v := .int .i64 (K1 : Int)) rfl rfl (by kernel_rfl) (by kernel_rfl) (by kernel_rfl) (fun _ _ _ h => h) (Or.inl ⟨by rfl, fun W _ => by go_simp⟩) hHeld ?_
    simp only [Act.put, List.setIfInBounds_toArray, List.set_cons_zero, List.set_cons_succ]
    refine take_at (i := 5) (v := .slice o1 K1 cap1) rfl rfl (by kernel_rfl) (by kernel_rfl) (by kernel_rfl) (fun _ _ _ h => h) (Or.inl ⟨by rfl, fun W _ => ?sl1⟩) hHeld ?_
    case sl1 =>
      rcases row1 with ⟨rfl, rfl, rfl, rfl⟩ | ⟨ad, rfl, lc, cm, _, _, _⟩
      · have hK : K1 = 0 := by omega
        subst hK
        go_simp
      · unfold maxLen at cm
        have q1 : K1 ≤ cap1 := by omega
        go_simp
    simp only [Act.put, List.setIfInBounds_toArray, List.set_cons_zero, List.set_cons_succ]
    refine take_at (i := 8) (v := .slice o2 len2 cap2) rfl rfl (by kernel_rfl) (by kernel_rfl) (by kernel_rfl) (fun _ _ _ h => h) (Or.inl ⟨by rfl, fun W _ => by go_simp⟩) hHeld ?_
    simp only [Act.put, List.setIfInBounds_toArray, List.set_cons_zero, List.set_cons_succ]
    refine take_at (i := 9) (v := .slice o2 len2 cap2) rfl rfl (by kernel_rfl) (by kernel_rfl) (by kernel_rfl) (fun _ _ _ h => h) (Or.inl ⟨by rfl, fun W _ => by go_simp⟩) hHeld ?_
    simp only [Act.put, List.setIfInBounds_toArray, List.set_cons_zero, List.set_cons_succ]
    refine take_at (i := 10) (v := .int .i64 (len2 : Int)) rfl rfl (by kernel_rfl) (by kernel_rfl) (by kernel_rfl) (fun _ _ _ h => h) (Or.inl ⟨by rfl, fun W _ => by go_simp⟩) hHeld ?_
    simp only [Act.put, List.setIfInBounds_toArray, List.set_cons_zero, List.set_cons_succ]
    refine take_at (i := 11) (v := .int .i64 (K2 : Int)) rfl rfl (by kernel_rfl) (by kernel_rfl) (by kernel_rfl) (fun _ _ _ h => h) (Or.inl ⟨by rfl, fun W _ => by go_simp⟩) hHeld ?_
    simp only [Act.put, List.setIfInBounds_toArray, List.set_cons_zero, List.set_cons_succ]
    refine take_at (i := 12) (v := .slice o2 K2 cap2) rfl rfl (by kernel_rfl) (by kernel_rfl) (by kernel_rfl) (fun _ _ _ h => h) (Or.inl ⟨by rfl, fun W _ => ?sl2⟩) hHeld ?_
    case sl2 =>
      rcases row2 with ⟨rfl, rfl, rfl, rfl⟩ | ⟨ad, rfl, lc, cm, _, _, _⟩
      · have hK : K2 = 0 := by omega
        subst hK
        go_simp
      · unfold maxLen at cm
        have q1 : K2 ≤ cap2 := by omega
        go_simp
    simp only [Act.put, List.setIfInBounds_toArray, List.set_cons_zero, List.set_cons_succ]
    clear row1 row2 m1 m2
    refine wpAnyH_ready (rs := [0, 7]) (by kernel_rfl) (by simp) ?_
    refine AllReadyH.cons rfl (fun K hK => ?_) (AllReadyH.cons rfl (fun K hK => ?_) AllReadyH.nil)
    · rw [if_pos (by rfl)]
      go_simp
      refine hK.out _ _ (keep_alloc hHeld) (fun hHeld => ?_)
      clear hK K
      try simp only [Act.put, List.setIfInBounds_toArray, List.set_cons_zero, List.set_cons_succ]
      refine wpAnyH_ready (rs := [6, 7]) (by kernel_rfl) (by simp) ?_
      refine AllReadyH.cons rfl (fun K hK => ?_) (AllReadyH.cons rfl (fun K hK => ?_) AllReadyH.nil)
      · refine step_at _ rfl rfl (.tmp 18) (.tmp 23) 22 rfl 3 i0 (.int .i64 0) 8 .i64 Try.underlying22 hi hz0 hz1 hz2 rfl _ rfl _ x rfl (s1.out.below (B := w.heap.size) hHeld (Nat.le_refl _)) (by unfold maxLen; omega) (by omega) ?_
        intro v5 w5 r5 q5 b5
        refine hK.out _ _ (keep_call hHeld b5) (fun hHeld => ?_)
        clear hK K
        try simp only [Act.put, List.setIfInBounds_toArray, List.set_cons_zero, List.set_cons_succ]
        refine wpAnyH_ready (rs := [7]) (by kernel_rfl) (by simp) ?_
        refine AllReadyH.cons rfl (fun K hK => ?_) AllReadyH.nil
        rw [if_pos (by rfl)]
        go_simp
        refine hK.out _ _ (keep_alloc hHeld) (fun hHeld => ?_)
        clear hK K
        try simp only [Act.put, List.setIfInBounds_toArray, List.set_cons_zero, List.set_cons_succ]
        refine wpAnyH_ready (rs := [13]) (by kernel_rfl) (by simp) ?_
        refine AllReadyH.cons rfl (fun K hK => ?_) AllReadyH.nil
        refine step_at _ rfl rfl (.tmp 25) (.tmp 30) 22 rfl 3 i0 (.int .i64 0) 8 .i64 Try.underlying22 hi hz0 hz1 hz2 rfl _ rfl _ y rfl (s2.out.below (B := w.heap.size) hHeld (Nat.le_refl _)) (by unfold maxLen; omega) (by omega) ?_
        intro v9 w9 r9 q9 b9
        refine hK.out _ _ (keep_call hHeld b9) (fun hHeld => ?_)
        clear hK K
        try simp only [Act.put, List.setIfInBounds_toArray, List.set_cons_zero, List.set_cons_succ]
        refine take_at (i := 14) (v := v5) rfl rfl (by kernel_rfl) (by kernel_rfl) (by kernel_rfl) (fun _ _ _ h => h) (Or.inl ⟨by rfl, fun W _ => by go_simp⟩) hHeld ?_
        simp only [Act.put, List.setIfInBounds_toArray, List.set_cons_zero, List.set_cons_succ]
        refine take_at (i := 15) (v := v9) rfl rfl (by kernel_rfl) (by kernel_rfl) (by kernel_rfl) (fun _ _ _ h => h) (Or.inl ⟨by rfl, fun W _ => by go_simp⟩) hHeld ?_
        simp only [Act.put, List.setIfInBounds_toArray, List.set_cons_zero, List.set_cons_succ]
        refine wpAnyH_done (by kernel_rfl) ?_ _
        go_wp2_with fail
        go_meet
        refine ⟨?_, ?_, hHeld⟩
        · first | exact ⟨r5, q5⟩ | exact Lst.below ⟨r5, q5⟩ b9 | exact Lst.below (Lst.below ⟨r5, q5⟩ (below_alloc _ _)) b9
        · first | exact ⟨r9, q9⟩ | exact Lst.below ⟨r9, q9⟩ b5 | exact Lst.below (Lst.below ⟨r9, q9⟩ (below_alloc _ _)) b5
      · rw [if_pos (by rfl)]
        go_simp
        refine hK.out _ _ (keep_alloc hHeld) (fun hHeld => ?_)
        clear hK K
        try simp only [Act.put, List.setIfInBounds_toArray, List.set_cons_zero, List.set_cons_succ]
        refine wpAnyH_ready (rs := [6]) (by kernel_rfl) (by simp) ?_
        refine AllReadyH.cons rfl (fun K hK => ?_) AllReadyH.nil
        refine step_at _ rfl rfl (.tmp 18) (.tmp 23) 22 rfl 3 i0 (.int .i64 0) 8 .i64 Try.underlying22 hi hz0 hz1 hz2 rfl _ rfl _ x rfl (s1.out.below (B := w.heap.size) hHeld (Nat.le_refl _)) (by unfold maxLen; omega) (by omega) ?_
        intro v5 w5 r5 q5 b5
        refine hK.out _ _ (keep_call hHeld b5) (fun hHeld => ?_)
        clear hK K
        try simp only [Act.put, List.setIfInBounds_toArray, List.set_cons_zero, List.set_cons_succ]
        refine wpAnyH_ready (rs := [13]) (by kernel_rfl) (by simp) ?_
        refine AllReadyH.cons rfl (fun K hK => ?_) AllReadyH.nil
        refine step_at _ rfl rfl (.tmp 25) (.tmp 30) 22 rfl 3 i0 (.int .i64 0) 8 .i64 Try.underlying22 hi hz0 hz1 hz2 rfl _ rfl _ y rfl (s2.out.below (B := w.heap.size) hHeld (Nat.le_refl _)) (by unfold maxLen; omega) (by omega) ?_
        intro v9 w9 r9 q9 b9
        refine hK.out _ _ (keep_call hHeld b9) (fun hHeld => ?_)
        clear hK K
        try simp only [Act.put, List.setIfInBounds_toArray, List.set_cons_zero, List.set_cons_succ]
        refine take_at (i := 14) (v := v5) rfl rfl (by kernel_rfl) (by kernel_rfl) (by kernel_rfl) (fun _ _ _ h => h) (Or.inl ⟨by rfl, fun W _ => by go_simp⟩) hHeld ?_
        simp only [Act.put, List.setIfInBounds_toArray, List.set_cons_zero, List.set_cons_succ]
        refine take_at (i := 15) (v := v9) rfl rfl (by kernel_rfl) (by kernel_rfl) (by kernel_rfl) (fun _ _ _ h => h) (Or.inl ⟨by rfl, fun W _ => by go_simp⟩) hHeld ?_
        simp only [Act.put, List.setIfInBounds_toArray, List.set_cons_zero, List.set_cons_succ]
        refine wpAnyH_done (by kernel_rfl) ?_ _
        go_wp2_with fail
        go_meet
        refine ⟨?_, ?_, hHeld⟩
        · first | exact ⟨r5, q5⟩ | exact Lst.below ⟨r5, q5⟩ b9 | exact Lst.below (Lst.below ⟨r5, q5⟩ (below_alloc _ _)) b9
        · first | exact ⟨r9, q9⟩ | exact Lst.below ⟨r9, q9⟩ b5 | exact Lst.below (Lst.below ⟨r9, q9⟩ (below_alloc _ _)) b5
    · rw [if_pos (by rfl)]
      go_simp
      refine hK.out _ _ (keep_alloc hHeld) (fun hHeld => ?_)
      clear hK K
      try simp only [Act.put, List.setIfInBounds_toArray, List.set_cons_zero, List.set_cons_succ]
      refine wpAnyH_ready (rs := [0]) (by kernel_rfl) (by simp) ?_
      refine AllReadyH.cons rfl (fun K hK => ?_) AllReadyH.nil
      rw [if_pos (by rfl)]
      go_simp
      refine hK.out _ _ (keep_alloc hHeld) (fun hHeld => ?_)
      clear hK K
      try simp only [Act.put, List.setIfInBounds_toArray, List.set_cons_zero, List.set_cons_succ]
      refine wpAnyH_ready (rs := [6]) (by kernel_rfl) (by simp) ?_
      refine AllReadyH.cons rfl (fun K hK => ?_) AllReadyH.nil
      refine step_at _ rfl rfl (.tmp 18) (.tmp 23) 22 rfl 3 i0 (.int .i64 0) 8 .i64 Try.underlying22 hi hz0 hz1 hz2 rfl _ rfl _ x rfl (s1.out.below (B := w.heap.size) hHeld (Nat.le_refl _)) (by unfold maxLen; omega) (by omega) ?_
      intro v5 w5 r5 q5 b5
      refine hK.out _ _ (keep_call hHeld b5) (fun hHeld => ?_)
      clear hK K
      try simp only [Act.put, List.setIfInBounds_toArray, List.set_cons_zero, List.set_cons_succ]
      refine wpAnyH_ready (rs := [13]) (by kernel_rfl) (by simp) ?_
      refine AllReadyH.cons rfl (fun K hK => ?_) AllReadyH.nil
      refine step_at _ rfl rfl (.tmp 25) (.tmp 30) 22 rfl 3 i0 (.int .i64 0) 8 .i64 Try.underlying22 hi hz0 hz1 hz2 rfl _ rfl _ y rfl (s2.out.below (B := w.heap.size) hHeld (Nat.le_refl _)) (by unfold maxLen; omega) (by omega) ?_
      intro v9 w9 r9 q9 b9
      refine hK.out _ _ (keep_call hHeld b9) (fun hHeld => ?_)
      clear hK K
      try simp only [Act.put, List.setIfInBounds_toArray, List.set_cons_zero, List.set_cons_succ]
      refine take_at (i := 14) (v := v5) rfl rfl (by kernel_rfl) (by kernel_rfl) (by kernel_rfl) (fun _ _ _ h => h) (Or.inl ⟨by rfl, fun W _ => by go_simp⟩) hHeld ?_
      simp only [Act.put, List.setIfInBounds_toArray, List.set_cons_zero, List.set_cons_succ]
      refine take_at (i := 15) (v := v9) rfl rfl (by kernel_rfl) (by kernel_rfl) (by kernel_rfl) (fun _ _ _ h => h) (Or.inl ⟨by rfl, fun W _ => by go_simp⟩) hHeld ?_
      simp only [Act.put, List.setIfInBounds_toArray, List.set_cons_zero, List.set_cons_succ]
      refine wpAnyH_done (by kernel_rfl) ?_ _
      go_wp2_with fail
      go_meet
      refine ⟨?_, ?_, hHeld⟩
      · first | exact ⟨r5, q5⟩ | exact Lst.below ⟨r5, q5⟩ b9 | exact Lst.below (Lst.below ⟨r5, q5⟩ (below_alloc _ _)) b9
      · first | exact ⟨r9, q9⟩ | exact Lst.below ⟨r9, q9⟩ b5 | exact Lst.below (Lst.below ⟨r9, q9⟩ (below_alloc _ _)) b5
  case rest =>
    obtain ⟨L1, L2, t0⟩ := hcut
    obtain ⟨W0, hW0⟩ : ∃ W0, W0 = wc := ⟨_, rfl⟩
    subst hW0
    clear s1 s2 row1 row2 min1 min2 k15 m15 kl1 kl2
    have hpx : (put x).length ≤ 150 := by have := put_len_le x fx.out; omega
    have hpy : (put y).length ≤ 150 := by have := put_len_le y fy.out; omega
    have fxy : Hid (∀ n ∈ x ++ y, Fits n) := by
      intro n hn
      rcases List.mem_append.1 hn with hn | hn
      · exact fx.out n hn
      · exact fy.out n hn
    have gx : Hid (got (put x) = some x) := got_put x fx.out
    have hpxy : Hid (put (x ++ y) = put x ++ put y) := put_append x y
    have hbx : Hid (∀ c ∈ put x, c < 256) := put_bytes x
    obtain ⟨pp, hpp1, hpp2⟩ : ∃ pp : Bool, Hid (decide (put x = put y) = pp) ∧ Hid (decide (x = y) = pp) := by
      refine ⟨decide (x = y), ?_, rfl⟩
      show decide (put x = put y) = decide (x = y)
      rw [Bool.eq_iff_iff, decide_eq_true_iff, decide_eq_true_iff]
      exact ⟨put_inj x y fx.out fy.out, fun h => by rw [h]⟩
    obtain ⟨px, hpxe⟩ : ∃ px, Hid (put x = px) := ⟨_, rfl⟩
    obtain ⟨py, hpye⟩ : ∃ py, Hid (put y = py) := ⟨_, rfl⟩
    rw [hpxe.out] at hpx gx hpxy hbx hpp1
    rw [hpye.out] at hpy hpxy hpp1
    go_wp2_with fail
    refine (put_any _ x W0 L1.1 fx.out (by omega)).mono ?_
    rintro e w1 ⟨p, rfl, hp, b1⟩
    rw [hpxe.out] at hp
    have L1a := L1.below b1
    have L2a := L2.below b1
    have t1 := keep_call t0 b1
    clear L1 L2 t0 b1
    go_wp2_with fail
    refine (put_any _ y w1 L2a.1 fy.out (by omega)).mono ?_
    rintro e w2 ⟨q, rfl, hq, b2⟩
    rw [hpye.out] at hq
    have L1b := L1a.below b2
    have L2b := L2a.below b2
    have t2 := keep_call t1 b2
    have hp2 := own_below hp b2
    clear L1a L2a t1 b2 hp
    go_wp2_with fail
    refine (get_any _ px w2 (rd_bv hp2) hbx.out (by omega)).mono ?_
    rintro e w3 (⟨l, z, hg, rfl, hz, b3⟩ | ⟨hg, rfl, b3⟩)
    case inr => rw [gx.out] at hg; cases hg
    rw [gx.out] at hg
    injection hg with hg
    subst hg
    have L1c := L1b.below b3
    have L2c := L2b.below b3
    have t3 := keep_call t2 b3
    have hp3 := own_below hp2 b3
    have hq3 := own_below hq b3
    clear L1b L2b t2 b3 hp2 hq
    have hownL : (w3.alloc (.cells #[] 3)).ownsRow w3.heap.size 3 1 (.slice (some ⟨w3.heap.size, 0, none⟩) 0 0) 0 [] :=
      World.ownsRow_lit w3 #[] 0 (Nat.le_refl _) (by unfold maxLen; omega) (by simp)
    go_wp2_with (at_builtin; refine wpList_append_src _ (by rfl) _ _ 22 rfl w3.heap.size 3 i0 (.int .i64 0) 8 Try.underlying22 hi hz0 hz1 hz2 rfl _ 0 [] rfl hownL _ x.length (iv x) rfl (L1c.2.below (below_alloc w3 _) (Nat.le_refl _)) (iv_one _) (by unfold maxLen; omega) (by omega) (below_alloc w3 _).size ?_)
    intro v5 w5 o5 b5
    have t5 : Below w3.heap.size w3 w5 := (below_alloc w3 _).trans b5
    clear b5 hownL
    go_wp2_with (at_builtin; refine wpList_append_src _ (by rfl) _ _ 22 rfl w3.heap.size 3 i0 (.int .i64 0) 8 Try.underlying22 hi hz0 hz1 hz2 rfl _ _ _ rfl o5 _ y.length (iv y) rfl (L2c.2.below t5 (Nat.le_refl _)) (iv_one _) (by unfold maxLen; omega) (by omega) t5.size ?_)
    intro v6 w6 o6 b6
    have t6 : Below w3.heap.size w3 w6 := t5.trans b6
    have hr6 : Hid (Rd .i64 w6 v6 (x ++ y)) := by
      have h : w6.ownsRow w3.heap.size 3 1 v6 (x ++ y).length (iv (x ++ y)) := by
        rw [List.length_append, iv_append]
        first
          | exact o6
          | simpa using o6
      exact rd_iv h
    have L1d := L1c.below t6
    have L2d := L2c.below t6
    have T6 := keep_call t3 t6
    have hp6 := own_below hp3 t6
    have hq6 := own_below hq3 t6
    have hz6 := own_below hz t6
    clear L1c L2c t3 hp3 hq3 hz o5 o6 t5 t6 b6
    go_wp2_with fail
    refine (numbers_any _ x w6 L1d.1 fx.out (by omega)).mono ?_
    rintro e w7 ⟨nv, rfl, hnv, b7⟩
    rw [hpxe.out] at hnv
    have L1e := L1d.below b7
    have L2e := L2d.below b7
    have T7 := keep_call T6 b7
    have hp7 := own_below hp6 b7
    have hq7 := own_below hq6 b7
    have hz7 := own_below hz6 b7
    have hr7 : Hid (Rd .i64 w7 v6 (x ++ y)) := hr6.out.below b7 (Nat.le_refl _)
    clear L1d L2d T6 hp6 hq6 hz6 hr6 b7
    go_wp2_with fail
    refine (same_bytes _ _ px px w7 true (rd_bv hp7) (rd_bv hnv) (by simp)).mono ?_
    rintro e w8 ⟨rfl, b8⟩
    have L1f := L1e.below b8
    have L2f := L2e.below b8
    have T8 := keep_call T7 b8
    have hp8 := own_below hp7 b8
    have hq8 := own_below hq7 b8
    have hz8 := own_below hz7 b8
    have hr8 : Hid (Rd .i64 w8 v6 (x ++ y)) := hr7.out.below b8 (Nat.le_refl _)
    clear L1e L2e T7 hp7 hq7 hz7 hr7 b8 hnv
    go_wp2_with fail
    refine (same_i _ _ x x w8 true (rd_iv hz8) L1f.1 (by simp)).mono ?_
    rintro e w9 ⟨rfl, b9⟩
    have L1g := L1f.below b9
    have L2g := L2f.below b9
    have T9 := keep_call T8 b9
    have hp9 := own_below hp8 b9
    have hq9 := own_below hq8 b9
    have hr9 : Hid (Rd .i64 w9 v6 (x ++ y)) := hr8.out.below b9 (Nat.le_refl _)
    clear L1f L2f T8 hp8 hq8 hz8 hr8 b9
    go_wp2_with fail
    refine (put_any _ (x ++ y) w9 hr9.out fxy.out (by rw [List.length_append]; omega)).mono ?_
    rintro e w10 ⟨pb, rfl, hpb, b10⟩
    rw [hpxy.out] at hpb
    have L1h := L1g.below b10
    have L2h := L2g.below b10
    have T10 := keep_call T9 b10
    have hp10 := own_below hp9 b10
    have hq10 := own_below hq9 b10
    clear L1g L2g T9 hp9 hq9 hr9 b10
    obtain ⟨i5, hi5, hv0, hv1, hv2⟩ := info_parts Try.info5
    have hownB : (w10.alloc (.cells #[] 5)).ownsRow w10.heap.size 5 1 (.slice (some ⟨w10.heap.size, 0, none⟩) 0 0) 0 [] :=
      World.ownsRow_lit w10 #[] 0 (Nat.le_refl _) (by unfold maxLen; omega) (by simp)
    go_wp2_with (at_builtin; refine wpList_append_src _ (by rfl) _ _ 25 rfl w10.heap.size 5 i5 (.int .u8 0) 1 Try.underlying25 hi5 hv0 hv1 hv2 rfl _ 0 [] rfl hownB _ px.length (bv px) rfl ((src_own hp10).below (below_alloc w10 _) (Nat.le_refl _)) (bv_one _) (by unfold maxLen; omega) (by omega) (below_alloc w10 _).size ?_)
    intro v11 w11 o11 b11
    have t11 : Below w10.heap.size w10 w11 := (below_alloc w10 _).trans b11
    clear b11 hownB
    go_wp2_with (at_builtin; refine wpList_append_src _ (by rfl) _ _ 25 rfl w10.heap.size 5 i5 (.int .u8 0) 1 Try.underlying25 hi5 hv0 hv1 hv2 rfl _ _ _ rfl o11 _ py.length (bv py) rfl ((src_own hq10).below t11 (Nat.le_refl _)) (bv_one _) (by unfold maxLen; omega) (by omega) t11.size ?_)
    intro v12 w12 o12 b12
    have t12 : Below w10.heap.size w10 w12 := t11.trans b12
    have hr12 : Hid (Rd .u8 w12 v12 (toI (px ++ py))) := by
      have h : w12.ownsRow w10.heap.size 5 1 v12 (px ++ py).length (bv (px ++ py)) := by
        rw [List.length_append, bv_append]
        first
          | exact o12
          | simpa using o12
      exact rd_bv h
    have hpb12 := rd_bv (own_below hpb t12)
    have L1i := L1h.below t12
    have L2i := L2h.below t12
    have T12 := keep_call T10 t12
    have hp12 := own_below hp10 t12
    have hq12 := own_below hq10 t12
    clear L1h L2h T10 hp10 hq10 o11 o12 t11 t12 b12 hpb
    go_wp2_with fail
    refine (same_bytes _ _ (px ++ py) (px ++ py) w12 true hpb12 hr12.out (by simp)).mono ?_
    rintro e w13 ⟨rfl, b13⟩
    have L1j := L1i.below b13
    have L2j := L2i.below b13
    have T13 := keep_call T12 b13
    have hp13 := own_below hp12 b13
    have hq13 := own_below hq12 b13
    clear L1i L2i T12 hp12 hq12 hr12 hpb12 b13
    go_wp2_with fail
    refine (same_bytes _ _ px py w13 pp (rd_bv hp13) (rd_bv hq13) hpp1.out).mono ?_
    rintro e w14 ⟨rfl, b14⟩
    have L1k := L1j.below b14
    have L2k := L2j.below b14
    have T14 := keep_call T13 b14
    clear L1j L2j T13 hp13 hq13 b14
    go_wp2_with fail
    refine (same_i _ _ x y w14 pp L1k.1 L2k.1 hpp2.out).mono ?_
    rintro e w15 ⟨rfl, b15⟩
    have T15 := keep_call T14 b15
    clear L1k L2k T14 b15
    have hne : (pp != pp) = false := by cases pp <;> rfl
    go_upto_region 7 with fail
    obtain ⟨K3, k60, kl3, min3, bl0, src3, wf3⟩ := first_of row3 60
    have m3 : min (len3 : Int) 60 = (K3 : Int) := min3
    obtain ⟨rb, hrb, hrbb⟩ := bytes_of (z3.take K3) wf3
    have hrl : rb.length = K3 := by rw [← toI_len, hrb]; exact bl0
    have hownR : (w15.alloc (.cells #[] 5)).ownsRow w15.heap.size 5 1 (.slice (some ⟨w15.heap.size, 0, none⟩) 0 0) 0 [] :=
      World.ownsRow_lit w15 #[] 0 (Nat.le_refl _) (by unfold maxLen; omega) (by simp)
    have s3 : Hid (Src (w15.alloc (.cells #[] 5)) (.slice o3 K3 cap3) K3 (bv rb)) := by
      have h := (src3.below T15 (Nat.le_refl _)).below (below_alloc w15 (.cells #[] 5)) (Nat.le_refl _)
      rw [← hrb] at h
      exact h
    have hrbb' : Hid (∀ c ∈ rb, c < 256) := hrbb
    have hrl' : Hid (rb.length = K3) := hrl
    clear src3 wf3 bl0 min3 hrb hrbb hrl
    go_cut [14] (fun v wx => wx.ownsRow w15.heap.size 5 1 v K3 (bv rb) ∧ Below w15.heap.size w15 wx)
    case first =>
      rcases row3 with ⟨rfl, rfl, rfl, rfl⟩ | ⟨a3, rfl, lc3, cm3, _, _, _⟩
      · have hK3 : K3 = 0 := by omega
        subst hK3
        go_wp2_with (at_builtin; refine wpList_append_src _ (by rfl) _ _ 25 rfl w15.heap.size 5 i5 (.int .u8 0) 1 Try.underlying25 hi5 hv0 hv1 hv2 rfl _ 0 [] rfl hownR _ 0 (bv rb) rfl s3.out (bv_one _) (by unfold maxLen; omega) (by omega) (below_alloc w15 _).size ?_)
        intro v16 w16 o16 b16
        go_wp2_with fail
        go_meet
        exact ⟨by simpa using o16, (below_alloc w15 _).trans b16⟩
      · unfold maxLen at cm3
        have q3 : K3 ≤ cap3 := by omega
        go_wp2_with (at_builtin; refine wpList_append_src _ (by rfl) _ _ 25 rfl w15.heap.size 5 i5 (.int .u8 0) 1 Try.underlying25 hi5 hv0 hv1 hv2 rfl _ 0 [] rfl hownR _ K3 (bv rb) rfl s3.out (bv_one _) (by unfold maxLen; omega) (by omega) (below_alloc w15 _).size ?_)
        intro v16 w16 o16 b16
        go_wp2_with fail
        go_meet
        exact ⟨by simpa using o16, (below_alloc w15 _).trans b16⟩
    case rest =>
      obtain ⟨o16, b16⟩ := hcut
      have T16 := keep_call T15 b16
      clear T15 b16 hownR s3 row3 m3
      obtain ⟨w16, hw16⟩ : ∃ w16, w16 = wc := ⟨_, rfl⟩
      subst hw16
      have hraw : Hid (Rd .u8 w16 u14 (toI rb)) := rd_bv (by rw [hrl'.out]; exact o16)
      obtain ⟨aor, capr, hu14⟩ : ∃ aor capr, u14 = .slice aor K3 capr := by
        rcases own_shape o16 with ⟨rfl, h⟩ | ⟨g, cap, rfl, _⟩
        · exact ⟨none, 0, by rw [h]⟩
        · exact ⟨_, _, rfl⟩
      subst hu14
      go_wp2_with fail
      refine (roomy_any _ (toI rb) 7 w16 hraw.out (by rw [toI_len, hrl'.out]; exact k60)).mono ?_
      rintro e w17 ⟨fu, rfl, hfu, b17⟩
      have T17 := keep_call T16 b17
      have hraw2 : Hid (Rd .u8 w17 (.slice aor K3 capr) (toI rb)) := hraw.out.below b17 (Nat.le_refl _)
      have hfr : Hid (Rd .u8 w17 fu (toI rb ++ List.replicate 80 7)) := rd_own hfu
      have hfl : (toI rb ++ List.replicate 80 (7 : Int)).length = K3 + 80 := by rw [List.length_append, toI_len, hrl'.out]; simp
      rw [hfl] at hfu
      obtain ⟨g, capf, hfe, hgc, hcm, _, _⟩ := own_some hfu (by omega)
      subst hfe
      unfold maxLen at hcm
      have hft : Hid (Rd .u8 w17 (.slice (some ⟨g, 0, none⟩) K3 capf) (toI rb)) := by
        have h := hfr.out.take K3 (by rw [hfl]; omega)
        rw [List.take_left' (by rw [toI_len]; exact hrl'.out)] at h
        exact h
      clear hraw hfu T16 b17 o16 hfl
      have q4 : K3 ≤ capf := by omega
      go_wp2_with fail
      refine (get_any _ rb w17 hft.out hrbb'.out (by rw [hrl'.out]; omega)).mono ?_
      rintro e w18 (⟨l, z', hg, rfl, hz', b18⟩ | ⟨hg, rfl, b18⟩)
      · have T18 := keep_call T17 b18
        have hgp : Hid (put l = rb) := (got_some rb l hrbb'.out hg).1
        have hgf : Hid (∀ n ∈ l, Fits n) := (got_some rb l hrbb'.out hg).2
        have hll : l.length ≤ 60 := by
          have := got_len rb l hrbb'.out hg
          rw [hrl'.out] at this; omega
        have hfr2 : Hid (Rd .u8 w18 (.slice (some ⟨g, 0, none⟩) (K3 + 80) capf) (toI rb ++ List.replicate 80 7)) := hfr.out.below b18 (Nat.le_refl _)
        have hraw3 : Hid (Rd .u8 w18 (.slice aor K3 capr) (toI rb)) := hraw2.out.below b18 (Nat.le_refl _)
        clear hfr hraw2 hft hg T17 b18
        go_wp2_with fail
        refine (intact_any _ _ (toI rb) 7 w18 hfr2.out hraw3.out (by rw [toI_len, hrl'.out]; exact k60)).mono ?_
        rintro e w19 ⟨rfl, b19⟩
        have T19 := keep_call T18 b19
        have hz19 := own_below hz' b19
        have hraw4 : Hid (Rd .u8 w19 (.slice aor K3 capr) (toI rb)) := hraw3.out.below b19 (Nat.le_refl _)
        clear hfr2 hraw3 T18 b19 hz'
        go_wp2_with fail
        refine (put_any _ l w19 (rd_iv hz19) hgf.out (by omega)).mono ?_
        rintro e w20 ⟨pv, rfl, hpv, b20⟩
        rw [hgp.out] at hpv
        have T20 := keep_call T19 b20
        have hraw5 : Hid (Rd .u8 w20 (.slice aor K3 capr) (toI rb)) := hraw4.out.below b20 (Nat.le_refl _)
        clear hraw4 T19 b20 hz19
        go_wp2_with fail
        refine (same_bytes _ _ rb rb w20 true (rd_bv hpv) hraw5.out (by simp)).mono ?_
        rintro e w21 ⟨rfl, b21⟩
        have T21 := keep_call T20 b21
        clear hpv hraw5 T20 b21
        go_wp2_with fail
        refine (runs_any w21).mono ?_
        rintro e w22 ⟨rfl, b22⟩
        go_wp2_with fail
        go_ret
        exact ⟨rfl, keep_call T21 b22⟩
      · have T18 := keep_call T17 b18
        have hfr2 : Hid (Rd .u8 w18 (.slice (some ⟨g, 0, none⟩) (K3 + 80) capf) (toI rb ++ List.replicate 80 7)) := hfr.out.below b18 (Nat.le_refl _)
        have hraw3 : Hid (Rd .u8 w18 (.slice aor K3 capr) (toI rb)) := hraw2.out.below b18 (Nat.le_refl _)
        clear hfr hraw2 hft hg T17 b18
        go_wp2_with fail
        refine (intact_any _ _ (toI rb) 7 w18 hfr2.out hraw3.out (by rw [toI_len, hrl'.out]; exact k60)).mono ?_
        rintro e w19 ⟨rfl, b19⟩
        have T19 := keep_call T18 b19
        clear hfr2 hraw3 T18 b19
        go_wp2_with fail
        refine (runs_any w19).mono ?_
        rintro e w22 ⟨rfl, b22⟩
        go_wp2_with fail
        go_ret
        exact ⟨rfl, keep_call T19 b22⟩
theorem vintBack_walk (a0 : Option Addr) (len0 cap0 : Nat) (z0 : List Int) (a1 : Option Addr) (len1 cap1 : Nat) (z1 : List Int) (a2 : Option Addr) (len2 cap2 : Nat) (z2 : List Int) (w : World) (w0 : IsInts w a0 len0 cap0 z0) (w1 : IsInts w a1 len1 cap1 z1) (w2 : IsBytes w a2 len2 cap2 z2) :
    Calls Try.prog 4 #[.slice a0 len0 cap0, .slice a1 len1 cap1, .slice a2 len2 cap2] w fun e w' => e = .returned (.bool true) ∧ Below w.heap.size w w' :=
  back_core a0 len0 cap0 z0 a1 len1 cap1 z1 a2 len2 cap2 z2 w w0 w1 w2
end Go.Proofs.Ytcllodiefmkpnaa
