/- What pipe.Encode answers: the bytes of a pipe that may be, in new memory; none of another. -/
import Derived.Test.YtimeglhoiibhdaaPipe
namespace Go.Proofs.Ytimeglhoiibhdaa
open Go.RowKit M
theorem take_at {P : Program} {ops : Array Oper} {Q : Exit → Act → World → Prop} {md : Region.Mode} {S : World → Prop} {i k : Nat} {oi : Oper} {v : Value} {fuel : Nat} {listed : Array Bool} {a : Act} {w : World} (hi : ops[i]? = some oi) (hd : oi.dst = some k)
    (hs : Region.noSelect ops = true) (hf : Region.free md ops listed i = true) (hr : (Region.ready md ops listed).contains i = true)
    (hQ : ∀ c a w, Q (.panic c) (a.put (some k) v) w → Q (.panic c) a w) (hy : YieldsIf P ops S oi v a) (hS : S w)
    (h : wpAnyH P md ops Q S fuel (listed.setIfInBounds i true) (a.put (some k) v) w) : wpAnyH P md ops Q S (fuel + 1) listed a w := by
  rw [← hd] at h hQ
  exact wpAnyH_take hi hs hf hr hQ hy hS h
/-- 'append' onto a slice that has no room, as a step of a region that draws. -/
theorem step_append_grows {P : Program} {w : World} {ops : Array Oper} {o : Oper} {a : Act} {K : Act → World → Prop} {Q : Exit → Act → World → Prop} {E : Prop} {kd : Nat} (hgd : o.guard = none) (hd : o.dst = some kd) (s x : Operand) (t : TypeId)
    (ho : o.op = .call { callee := .builtin .append, args := #[s, x], argTypes := #[t, t] })
    (e : TypeId) (i : TypeInfo) (z : Value) (size bytes : Nat) (ht : P.underlying t = some (.slice e)) (hi : P.info? e = some i) (hz : i.zero = some z)
    (hsize : i.size = size) (hby : i.bytes = bytes) (hzs : z.cells.size = size) (hsz : 0 < size)
    (b : Addr) (n cap : Nat) (olds : List Value) (hs : a.eval s = .slice (some b) n cap) (hlo : olds.length = n * size) (holds : ∀ j u, olds[j]? = some u → w.cell? (b.add j) = some u)
    (ad : Addr) (m c : Nat) (news : List Value) (hx : a.eval x = .slice (some ad) m c) (hl : news.length = m * size) (hnews : ∀ j u, news[j]? = some u → w.cell? (ad.add j) = some u)
    (hg : cap < n + m) (h63 : n + m ≤ maxLen) (hbytes : (n + m) * bytes ≤ 140737488355328)
    (h : ∀ v' w', w'.ownsRow w.heap.size e size v' (n + m) (olds ++ news) → Below w.heap.size w w' → K (a.put (some kd) v') w') :
    if Region.wanted o (yielded ops a.tmps) = true then Oper.wp P o a w K Q else E := by
  have hw : Region.wanted o (yielded ops a.tmps) = true := by simp [Region.wanted, hgd]
  rw [if_pos hw]
  rw [← hd] at h
  obtain ⟨v', w', hr, h2, h3⟩ := run_append_arg_grows (P := P) w t o.type e i z size bytes ht hi hz hsize hby hzs hsz b n cap olds hlo holds ad m c news hl hnews hg h63 hbytes
  unfold Oper.wp execOp
  simp only [ho, resolve, invoke, builtin, Sem.run_bind, Sem.run_pure, Result.andThen_ok, List.map_toArray, List.map_cons, List.map_nil, hs, hx, hr]
  exact h v' w' h2 ((Below.refl _ _).grown h3 (Nat.le_refl _) (fun k hk => by cases hk))
theorem own_base {w : World} {a b : Nat} {e : TypeId} {size : Nat} {v : Value} {n : Nat} {xs : List Value} (h : w.ownsRow a e size v n xs) (hb : b ≤ a) : w.ownsRow b e size v n xs := by
  obtain ⟨h1, h | ⟨g, cap, cur, rfl, h2, r⟩⟩ := h
  · exact ⟨h1, .inl h⟩
  · exact ⟨h1, .inr ⟨g, cap, cur, rfl, Nat.le_trans hb h2, r⟩⟩
/-- The five cells of an array of ints. -/
def Ark (w : World) (b : Nat) (n s a k f : Int) : Prop := w.heap[b]? = some (.cells #[.int .i64 n, .int .i64 s, .int .i64 a, .int .i64 k, .int .i64 f] 51 (0, 0))
theorem ark_new (w : World) (n s a k f : Int) : Ark (w.alloc (.cells #[.int .i64 n, .int .i64 s, .int .i64 a, .int .i64 k, .int .i64 f] 51)) w.heap.size n s a k f := by
  show (w.heap.push _)[w.heap.size]? = _
  simp
theorem Ark.lt {w : World} {b : Nat} {n s a k f : Int} (h : Ark w b n s a k f) : b < w.heap.size := (Array.getElem?_eq_some_iff.1 h).1
theorem Ark.call {w w' : World} {b : Nat} {n s a k f : Int} (h : Ark w b n s a k f) (hb : Below w.heap.size w w') : Ark w' b n s a k f := (hb.block b h.lt).trans h
theorem Ark.cells {w : World} {b : Nat} {n s a k f : Int} (h : Ark w b n s a k f) : ∀ j u, (iv [n, s, a, k, f])[j]? = some u → w.cell? ((⟨b, 0, none⟩ : Addr).add j) = some u := by
  intro j u hj
  have hl : j < 5 := (List.getElem?_eq_some_iff.1 hj).1
  unfold Ark at h
  rw [Addr.add_lit]
  simp only [World.cell?, h]
  match j, hl with
  | 0, _ => simpa [iv] using hj
  | 1, _ => simpa [iv] using hj
  | 2, _ => simpa [iv] using hj
  | 3, _ => simpa [iv] using hj
  | 4, _ => simpa [iv] using hj
theorem opInts_take (os : List Oq) (k : Nat) (h : k < os.length) : opInts (os.take (k + 1)) = opInts (os.take k) ++ [(opAt os k).k, (opAt os k).n] := by
  rw [take_snoc' os ⟨0, 0⟩ k h]
  simp [opInts]
theorem opInts_len (os : List Oq) : (opInts os).length = 2 * os.length := by
  induction os with
  | nil => rfl
  | cons x r ih => simp only [opInts, List.flatMap_cons, List.length_append, List.length_cons, List.length_nil] at *; omega
theorem nums_len (p : Pq) : (nums p).length = 6 + 2 * p.os.length := by simp [nums, opInts_len]; omega
def OFits (os : List Oq) : Prop := ∀ o ∈ os, Fits o.k ∧ Fits o.n
def PFits (p : Pq) : Prop := OFits p.os ∧ Fits p.n ∧ Fits p.s ∧ Fits p.a ∧ Fits p.k ∧ Fits p.f
theorem opInts_fits {os : List Oq} (h : OFits os) : ∀ n ∈ opInts os, Fits n := by
  intro n hn
  simp only [opInts, List.mem_flatMap, List.mem_cons, List.not_mem_nil, or_false] at hn
  obtain ⟨o, ho, rfl | rfl⟩ := hn
  · exact (h o ho).1
  · exact (h o ho).2
theorem nums_fits {p : Pq} (h : PFits p) (hl : p.os.length ≤ 1000) : ∀ n ∈ nums p, Fits n := by
  obtain ⟨h0, h1, h2, h3, h4, h5⟩ := h
  intro n hn
  simp only [nums, List.cons_append, List.nil_append, List.mem_cons] at hn
  rcases hn with rfl | rfl | rfl | rfl | rfl | rfl | hn
  · exact h1
  · exact h2
  · exact h3
  · exact h4
  · exact h5
  · unfold Fits; omega
  · exact opInts_fits h0 n hn
theorem rightP_len {p : Pq} (h : rightP p = true) : p.os.length ≤ 6 := by
  simp only [rightP, rightL, Bool.and_eq_true, decide_eq_true_eq] at h
  exact h.1.1
attribute [local go_sem ↓] Go.wp_at_zero Go.wp_at_succ
set_option maxHeartbeats 2000000 in
set_option maxRecDepth 100000 in
/-- pipe.Encode of a pipe that may be. -/
theorem enc_yes (v : Value) (os : List Oq) (n s a k f : Int) (w : World) (hv : RdO w v os) (hr : rightP ⟨os, n, s, a, k, f⟩ = true) (hf : PFits ⟨os, n, s, a, k, f⟩) :
    Calls Try.prog 8 #[pv v n s a k f] w fun e w' => ∃ u, e = .returned u ∧ w'.ownsRow w.heap.size 5 1 u (put (nums ⟨os, n, s, a, k, f⟩)).length (bv (put (nums ⟨os, n, s, a, k, f⟩))) ∧ Below w.heap.size w w' := by
  obtain ⟨i0, hi, hz0, hz1, hz2⟩ := info_parts Try.info3
  have hl6 := rightP_len hr
  simp only at hl6
  obtain ⟨ao, cap, rfl⟩ : ∃ ao cap, v = .slice ao os.length cap := by obtain ⟨_, _, ao, cap, h, _⟩ := hv; exact ⟨ao, cap, h⟩
  have hv0 : Hid (RdO w (.slice ao os.length cap) os) := hv
  go_enter Try.func8, Try.ntmps8
  go_upto_region 1 with fail
  refine world_gen (fun W => Pik W w.heap.size (.slice ao os.length cap) n s a k f ∧ RdO W (.slice ao os.length cap) os ∧ Below w.heap.size w W) ⟨pik_new _ _ _ _ _ _ _, hv.call (below_alloc _ _), below_alloc _ _⟩ ?_
  clear hv
  rintro W0 ⟨k0, hv, b0⟩
  obtain ⟨g, hg⟩ : ∃ g, Hid (w.heap.size = g) := ⟨_, rfl⟩
  rw [hg.out] at k0 ⊢
  have c0 := k0.c0
  have c1 := k0.c1
  have c2 := k0.c2
  have c3 := k0.c3
  have c4 := k0.c4
  have c5 := k0.c5
  go_wp2_with fail
  refine (pright_is _ os n s a k f true _ hv hr).mono ?_
  rintro e w1 ⟨rfl, b1⟩
  have k1 := k0.call b1
  have hv1 := hv.call b1
  have bb := bcall b0 b1
  clear c0 c1 c2 c3 c4 c5 hv k0 b0 b1
  have c0 := k1.c0
  have c1 := k1.c1
  have c2 := k1.c2
  have c3 := k1.c3
  have c4 := k1.c4
  have c5 := k1.c5
  go_wp2_with fail
  refine (numbers_is _ n s a k f _).mono ?_
  rintro e w2 ⟨rfl, b2⟩
  have k2 := k1.call b2
  have hv2 := hv1.call b2
  have bb2 := bcall bb b2
  clear c0 c1 c2 c3 c4 c5 hv1 k1 b2 bb
  go_upto_region 4 with fail
  refine world_gen (fun W => Pik W g (.slice ao os.length cap) n s a k f ∧ Ark W w2.heap.size n s a k f ∧ RdO W (.slice ao os.length cap) os ∧ Below w.heap.size w W) ⟨k2.alloc _, ark_new _ _ _ _ _ _, hv2.call (below_alloc _ _), bnew bb2 _⟩ ?_
  clear k2 hv2 bb2
  rintro V ⟨k2, a2, hv2, bb2⟩
  generalize w2.heap.size = ga at a2 ⊢
  go_cut [4] (fun u wx => wx.ownsRow w.heap.size 3 1 u 6 (iv [n, s, a, k, f, (os.length : Int)]) ∧ Below V.heap.size V wx)
  case first =>
    refine wp_region_held_drew (S := fun w' => w'.cell? ⟨g, 0, none⟩ = some (.slice ao os.length cap) ∧ Below V.heap.size V w') (by kernel_rfl) ⟨k2.c0, (Below.refl _ _).drew⟩ (fun hHeld => ?_)
    generalize V.drew = V1 at hHeld ⊢
    have hV1 := hHeld.2.size
    have hV2 := bb2.size
    refine take_at (i := 0) (v := .slice (some ⟨ga, 0, none⟩) 5 5) rfl rfl (by kernel_rfl) (by kernel_rfl) (by kernel_rfl) (fun _ _ _ h => h) (Or.inl ⟨by rfl, fun X _ => by go_simp⟩) hHeld ?_
    try simp only [Act.put, List.setIfInBounds_toArray, List.set_cons_zero, List.set_cons_succ]
    refine take_at (i := 1) (v := .pointer (some ⟨g, 0, none⟩)) rfl rfl (by kernel_rfl) (by kernel_rfl) (by kernel_rfl) (fun _ _ _ h => h) (Or.inl ⟨by rfl, fun X _ => by go_simp⟩) hHeld ?_
    try simp only [Act.put, List.setIfInBounds_toArray, List.set_cons_zero, List.set_cons_succ]
    refine take_at (i := 2) (v := .slice ao os.length cap) rfl rfl (by kernel_rfl) (by kernel_rfl) (by kernel_rfl) (fun _ _ _ h => h) (Or.inl ⟨by rfl, fun X hX => by obtain ⟨c0, _⟩ := hX; go_simp⟩) hHeld ?_
    try simp only [Act.put, List.setIfInBounds_toArray, List.set_cons_zero, List.set_cons_succ]
    refine take_at (i := 3) (v := .int .i64 (os.length : Int)) rfl rfl (by kernel_rfl) (by kernel_rfl) (by kernel_rfl) (fun _ _ _ h => h) (Or.inl ⟨by rfl, fun X _ => by go_simp⟩) hHeld ?_
    try simp only [Act.put, List.setIfInBounds_toArray, List.set_cons_zero, List.set_cons_succ]
    refine wpAnyH_ready (rs := [4]) (by kernel_rfl) (by simp) ?_
    refine AllReadyH.cons rfl (fun K hK => ?_) AllReadyH.nil
    rw [if_pos (by rfl)]
    go_simp
    refine hK.out _ _ (⟨(k2.call hHeld.2).alloc _ |>.c0, bnew hHeld.2 _⟩) (fun hHeld => ?_)
    clear hK K
    try simp only [Act.put, List.setIfInBounds_toArray, List.set_cons_zero, List.set_cons_succ]
    refine wpAnyH_ready (rs := [5]) (by kernel_rfl) (by simp) ?_
    refine AllReadyH.cons rfl (fun K hK => ?_) AllReadyH.nil
    refine step_append_grows rfl rfl (.tmp 12) (.tmp 16) 36 rfl 3 i0 (.int .i64 0) 1 8 Try.underlying36 hi hz0 hz1 hz2 rfl (by decide) ⟨ga, 0, none⟩ 5 5 (iv [n, s, a, k, f]) rfl rfl (a2.call hHeld.2).cells ⟨V1.heap.size, 0, none⟩ 1 1 (iv [(os.length : Int)]) rfl rfl ?_ (by decide) (by unfold maxLen; omega) (by decide) ?_
    · intro j u hj
      match j, hj with
      | 0, hj => simp [iv] at hj; subst hj; simp [Addr.add]
    intro v5 w5 o5 b5
    refine hK.out _ _ (⟨(k2.call (bcall hHeld.2 b5)).c0, bcall hHeld.2 b5⟩) (fun hHeld => ?_)
    clear hK K
    try simp only [Act.put, List.setIfInBounds_toArray, List.set_cons_zero, List.set_cons_succ]
    refine take_at (i := 6) (v := v5) rfl rfl (by kernel_rfl) (by kernel_rfl) (by kernel_rfl) (fun _ _ _ h => h) (Or.inl ⟨by rfl, fun X _ => by go_simp⟩) hHeld ?_
    try simp only [Act.put, List.setIfInBounds_toArray, List.set_cons_zero, List.set_cons_succ]
    refine wpAnyH_done (by kernel_rfl) ?_ _
    go_wp2_with fail
    go_meet
    exact ⟨own_base o5 (by simp; omega), hHeld.2⟩
  case rest =>
    obtain ⟨hown, hbv⟩ := hcut
    have k3 := k2.call hbv
    have bb3 := bcall bb2 hbv
    clear k2 a2 hv2 bb2 hbv
    have c0 := k3.c0
    go_wp2_with fail
    go_loopw [4, 21] (fun l i wr => ∃ j : Nat, j ≤ os.length ∧ i = .int .i64 j ∧ wr.ownsRow w.heap.size 3 1 l (6 + 2 * j) (iv ([n, s, a, k, f, (os.length : Int)] ++ opInts (os.take j))) ∧ Below w.heap.size w wr) (fun _ i _ => os.length - (intOf i).toNat)
    case atStart => exact ⟨0, Nat.zero_le _, rfl, hown, bb3⟩
    case round =>
      obtain ⟨j, hj, rfl, hl, hbs⟩ := hrel
      clear hown c0 bb3
      by_cases hlt : j < os.length
      · obtain ⟨_, _, ao2, cap2, he, _, _, hc⟩ := hv0.out.below hbs (Nat.le_refl _) hbs.size
        injection he with he1 he2 he3
        subst he1 he3
        obtain ⟨b, off, rfl, hblt, hcell⟩ := hc (by omega)
        obtain ⟨p0, p1⟩ := hcell j hlt
        have hsn : Hid (opInts (os.take (j + 1)) = opInts (os.take j) ++ [(opAt os j).k, (opAt os j).n]) := opInts_take os j hlt
        clear hc hcell
        obtain ⟨⟨x, y⟩, hee⟩ : ∃ x, opAt os j = x := ⟨_, rfl⟩
        rw [hee] at p0 p1 hsn
        clear hee
        simp only at p0 p1
        have hbs2 := hbs.size
        go_wp2_with (at_builtin; refine wpList_append_own _ rfl _ _ 36 rfl w.heap.size 3 i0 (.int .i64 0) 1 8 Try.underlying36 hi hz0 hz1 hz2 rfl (by decide) _ _ _ rfl ((hl.alloc _).alloc _) ⟨wr.heap.size + 1, 0, none⟩ 2 2 (iv [x, y]) rfl rfl ?c1 ?c2 ?c3 ?c4 ?c5 ?_)
        case c1 =>
          intro j u hj
          match j, hj with
          | 0, hj => simp [iv] at hj; subst hj; simp
          | 1, hj => simp [iv] at hj; subst hj; simp
        case c2 => exact iv_one _
        case c3 => unfold maxLen; omega
        case c4 => omega
        case c5 => omega
        intro v' w5 hown' hgrow _
        have hb5 : Below w.heap.size w w5 := ((hbs.alloc hbs.size _).alloc (by simp; omega) _).grown hgrow (by simp; omega) (fun k hk => (hl.lt k hk).1)
        have hl5 : w5.ownsRow w.heap.size 3 1 v' (6 + 2 * (j + 1)) (iv ([n, s, a, k, f, (os.length : Int)] ++ opInts (os.take (j + 1)))) := by
          rw [hsn.out, ← List.append_assoc, iv_append, show 6 + 2 * (j + 1) = 6 + 2 * j + 2 by omega]; exact hown'
        clear hown' hgrow hl hsn
        go_wp2_with fail
        go_roundw
        case rel => exact ⟨j + 1, by omega, by go_num, hl5, hb5⟩
        case measure => simp [intOf]; omega
      · obtain rfl : j = os.length := by omega
        rw [List.take_length] at hl
        have hl2 : wr.ownsRow w.heap.size 3 1 u4 (nums ⟨os, n, s, a, k, f⟩).length (iv (nums ⟨os, n, s, a, k, f⟩)) := by rw [nums_len]; exact hl
        go_wp2_with fail
        refine (put_any _ _ _ (rd_iv hl2) (nums_fits hf (by simp only; omega)) (by rw [nums_len]; simp only; omega)).mono ?_
        rintro e w6 ⟨u, rfl, o6, b6⟩
        go_wp2
        go_ret
        exact ⟨_, rfl, own_base o6 hbs.size, bcall hbs b6⟩
namespace M
/-- The bytes of a pipe. -/
def enc (p : Pq) : List Nat := if rightP p = true then put (nums p) else []
theorem enc_of {p : Pq} (h : rightP p = true) : enc p = put (nums p) := if_pos h
theorem enc_none {p : Pq} (h : rightP p = false) : enc p = [] := if_neg (by rw [h]; decide)
end M
set_option maxHeartbeats 1000000 in
set_option maxRecDepth 100000 in
theorem enc_no (v : Value) (os : List Oq) (n s a k f : Int) (w : World) (hv : RdO w v os) (hr : rightP ⟨os, n, s, a, k, f⟩ = false) :
    Calls Try.prog 8 #[pv v n s a k f] w fun e w' => e = .returned (.slice none 0 0) ∧ Below w.heap.size w w' := by
  go_enter Try.func8, Try.ntmps8
  go_upto_region 1 with fail
  refine world_gen (fun W => Pik W w.heap.size v n s a k f ∧ RdO W v os ∧ Below w.heap.size w W) ⟨pik_new _ _ _ _ _ _ _, hv.call (below_alloc _ _), below_alloc _ _⟩ ?_
  clear hv
  rintro W0 ⟨k0, hv, b0⟩
  obtain ⟨g, hg⟩ : ∃ g, Hid (w.heap.size = g) := ⟨_, rfl⟩
  rw [hg.out] at k0 ⊢
  have c0 := k0.c0
  have c1 := k0.c1
  have c2 := k0.c2
  have c3 := k0.c3
  have c4 := k0.c4
  have c5 := k0.c5
  go_wp2_with fail
  refine (pright_is v os n s a k f false _ hv hr).mono ?_
  rintro e w1 ⟨rfl, b1⟩
  go_wp2
  go_ret
  exact ⟨rfl, hg.out ▸ bcall b0 b1⟩
/-- pipe.Encode. -/
theorem enc_any (v : Value) (p : Pq) (w : World) (hv : RdO w v p.os) (hf : PFits p) :
    Calls Try.prog 8 #[pv v p.n p.s p.a p.k p.f] w fun e w' => ∃ u, e = .returned u ∧ w'.ownsRow w.heap.size 5 1 u (enc p).length (bv (enc p)) ∧ Below w.heap.size w w' := by
  obtain ⟨os, n, s, a, k, f⟩ := p
  cases hr : rightP ⟨os, n, s, a, k, f⟩
  · refine (enc_no v os n s a k f w hv hr).mono ?_
    rintro e w' ⟨rfl, b⟩
    exact ⟨_, rfl, by rw [enc_none hr]; exact World.ownsRow_nil _ _ _ _, b⟩
  · refine (enc_yes v os n s a k f w hv hr hf).mono ?_
    rintro e w' ⟨u, rfl, o, b⟩
    exact ⟨_, rfl, by rw [enc_of hr]; exact o, b⟩
end Go.Proofs.Ytimeglhoiibhdaa
