/- The statement PipeTells, for every memory. -/
import Derived.Test.YtimeglhoiibhdaaOpsW
import Derived.Test.YtimeglhoiibhdaaRefP
namespace Go.Proofs.Ytimeglhoiibhdaa
open Go.RowKit M
attribute [local go_sem ↓] Go.wp_at_zero Go.wp_at_succ
theorem IsOps.below {w w' : World} {a : Option Addr} {len cap B : Nat} {os : List Oq} (h : IsOps w a len cap os) (hb : Below B w w') (hB : w.heap.size ≤ B) : IsOps w' a len cap os := by
  rcases h with h | ⟨x, rfl, h1, h2, h3, h4, h5⟩
  · exact .inl h
  · refine .inr ⟨x, rfl, h1, h2, h3, fun i hi => ?_, h5⟩
    obtain ⟨c0, c1⟩ := h4 i hi
    have k0 : (x.add (i * 2)).block < w.heap.size := World.block_lt_of_cell? w _ c0
    have k1 : (x.add (i * 2 + 1)).block < w.heap.size := World.block_lt_of_cell? w _ c1
    exact ⟨(hb.cell (Nat.lt_of_lt_of_le k0 hB)).trans c0, (hb.cell (Nat.lt_of_lt_of_le k1 hB)).trans c1⟩
/-- The first K of a list that came in, as they are copied. -/
theorem src_ops {w : World} {x : Addr} {es : List Oq} {K : Nat} (hK : K ≤ es.length) (hcell : ∀ i, i < es.length → OpA w x i (opAt es i)) (hf : OFits es) :
    ∃ ns : List Oq, ns.length = K ∧ OFits ns ∧ (opl ns).length = K * 2 ∧ ∀ j u, (opl ns)[j]? = some u → w.cell? (x.add j) = some u := by
  have hl : (es.take K).length = K := by simp; omega
  refine ⟨es.take K, hl, fun y hy => hf y (List.mem_of_mem_take hy), by rw [opl_len, hl], ?_⟩
  intro j u hj
  obtain ⟨h1, h2⟩ := opl_some hj
  rw [hl] at h1
  have e1 : opAt (es.take K) (j / 2) = opAt es (j / 2) := by
    simp only [List.getD_eq_getElem?_getD, List.getElem?_take_of_lt h1]
  rw [e1] at h2
  obtain ⟨c0, c1⟩ := hcell (j / 2) (by omega)
  have hj' : j = j / 2 * 2 + j % 2 := by omega
  have hr : j % 2 < 2 := by omega
  generalize j % 2 = r at h2 hj' hr
  rw [hj']
  match r, hr with
  | 0, _ => simpa [opCells, ← h2] using c0
  | 1, _ => simpa [opCells, ← h2] using c1
theorem no_none : NoPipe [] := by
  intro q h1 h2 h3
  have h := enc_len h1
  rw [enc_of h1, h3] at h
  exact h rfl
set_option maxHeartbeats 8000000 in
set_option maxRecDepth 100000 in
theorem tells_core (pa : Option Addr) (pl pc : Nat) (os0 : List Oq) (pn ps pg pk pf : Int) (ao : Option Addr) (lo co : Nat) (an : Option Addr) (ln cn : Nat) (n s a k f : Int) (ao' : Option Addr) (lo' co' : Nat) (an' : Option Addr) (ln' cn' : Nat) (n' s' a' k' f' : Int) (own : Bool) (w : World)
    (hp : IsOps w pa pl pc os0) (hpf : Fits pn ∧ Fits ps ∧ Fits pg ∧ Fits pk ∧ Fits pf) (ho : Ints w ao lo co) (hn : Ints w an ln cn) (ho' : Ints w ao' lo' co') (hn' : Ints w an' ln' cn') :
    Calls Try.prog 4 #[pv (.slice pa pl pc) pn ps pg pk pf, kv (.slice ao lo co) (.slice an ln cn) n s a k f, kv (.slice ao' lo' co') (.slice an' ln' cn') n' s' a' k' f', .bool own] w fun e w' => e = .returned (.bool true) ∧ Below w.heap.size w w' := by
  obtain ⟨i0, hi, hz0, hz1, hz2⟩ := info_parts Try.info23
  have hpf' : Hid (Fits pn ∧ Fits ps ∧ Fits pg ∧ Fits pk ∧ Fits pf) := hpf
  clear hpf
  go_enter Try.func4, Try.ntmps4
  go_upto_region 1 with fail
  refine world_gen (fun W => Pik W w.heap.size (.slice pa pl pc) pn ps pg pk pf ∧ Kpk W (w.heap.size + 1) (.slice ao lo co) (.slice an ln cn) n s a k f ∧ Kpk W (w.heap.size + 1 + 1) (.slice ao' lo' co') (.slice an' ln' cn') n' s' a' k' f' ∧ Below w.heap.size w W)
    ⟨((pik_new _ _ _ _ _ _ _).alloc _).alloc _, by simpa using (kpk_new (w.alloc _) (.slice ao lo co) (.slice an ln cn) n s a k f).call (below_alloc _ _), by simpa using kpk_new ((w.alloc _).alloc _) (.slice ao' lo' co') (.slice an' ln' cn') n' s' a' k' f', bnew (bnew (below_alloc _ _) _) _⟩ ?_
  rintro W0 ⟨p0, k0, o0, b0⟩
  have hp0 := hp.below b0 (Nat.le_refl _)
  have hiw : Hid ((Ints w ao lo co ∧ Ints w an ln cn) ∧ Ints w ao' lo' co' ∧ Ints w an' ln' cn') := ⟨⟨ho, hn⟩, ho', hn'⟩
  obtain ⟨gp, hgp⟩ : ∃ g, Hid (w.heap.size = g) := ⟨_, rfl⟩
  obtain ⟨gk, hgk⟩ : ∃ g, Hid (w.heap.size + 1 = g) := ⟨_, rfl⟩
  obtain ⟨go, hgo⟩ : ∃ g, Hid (w.heap.size + 1 + 1 = g) := ⟨_, rfl⟩
  rw [hgo.out] at o0 ⊢
  rw [hgk.out] at k0 ⊢
  rw [hgp.out] at p0 ⊢
  have hpk : gp ≠ gk := by have := hgp.out; have := hgk.out; omega
  have hpo : gp ≠ go := by have := hgp.out; have := hgo.out; omega
  have hgw : w.heap.size ≤ gp := Nat.le_of_eq hgp.out
  clear hp ho hn ho' hn'
  have hemp := own_emptyO W0
  have pA := p0.alloc (.cells #[] 23)
  have c0 := pA.c0
  go_cut [3] (fun q wx => q = .bool own ∧ ∃ (ns : List Oq) (gr cr : Nat), ns.length ≤ 8 ∧ Hid (OFits ns) ∧ ns.length ≤ cr ∧ Hid (RdO wx (.slice (some ⟨gr, 0, none⟩) ns.length cr) ns) ∧ Pik wx gp (.slice (some ⟨gr, 0, none⟩) ns.length cr) pn ps pg pk pf ∧ Kpk wx gk (.slice ao lo co) (.slice an ln cn) n s a k f ∧ Kpk wx go (.slice ao' lo' co') (.slice an' ln' cn') n' s' a' k' f' ∧ Below w.heap.size w wx)
  case first =>
    have kA := k0.call (below_alloc W0 (.cells #[] 23))
    have oA := o0.call (below_alloc W0 (.cells #[] 23))
    have fr0 := pA.free 0
    have hgpW := p0.lt
    rcases hp0 with ⟨rfl, rfl, rfl, rfl⟩ | ⟨x, rfl, hlc, hcm, hzl, hcell, hwf⟩
    · go_wp2_with (at_builtin; refine wpList_append_own_none rfl _ _ 24 rfl W0.heap.size 23 i0 2 Try.underlying24 hi (.slice (some ⟨W0.heap.size, 0, none⟩) 0 0) 0 [] rfl hemp rfl ?_)
      go_meet
      exact ⟨rfl, [], W0.heap.size, 0, by simp, (fun o ho => by cases ho), by simp, ⟨by simp, by simp, _, 0, rfl, by simp, by simp, by simp⟩, (p0.set0 _).alloc _, (k0.heap (Below.heap_setCell _ _ _ _ (Ne.symm hpk))).call (below_alloc _ _), (o0.heap (Below.heap_setCell _ _ _ _ (Ne.symm hpo))).call (below_alloc _ _), bnew (b0.setCell hgw _) _⟩
    · unfold maxLen at hcm
      obtain ⟨K, hK, hKz, hKe⟩ : ∃ K, K ≤ 8 ∧ K ≤ os0.length ∧ ((pl ≤ 8 ∧ K = pl) ∨ (8 < pl ∧ K = 8)) := by
        by_cases h20 : pl ≤ 8
        · exact ⟨pl, h20, by omega, .inl ⟨h20, rfl⟩⟩
        · exact ⟨8, by decide, by omega, .inr ⟨by omega, rfl⟩⟩
      obtain ⟨ns, hnl, hns, hul, hsrc0⟩ := src_ops hKz hcell hwf
      have hsrc : ∀ j u, (opl ns)[j]? = some u → (W0.alloc (.cells #[] 23)).cell? (x.add j) = some u := fun j u h => by
        have h1 := hsrc0 j u h
        exact ((below_alloc W0 _).cell (World.block_lt_of_cell? W0 _ h1)).trans h1
      have hns' : Hid (OFits ns) := hns
      clear hcell hwf hsrc0 hns
      rcases hKe with ⟨h20, rfl⟩ | ⟨h20, rfl⟩
      · have hmin : min ((K : Int)) 8 = (K : Int) := by omega
        go_wp2_with (at_builtin; refine wpList_append_own _ rfl _ _ 24 rfl W0.heap.size 23 i0 _ 2 16 Try.underlying24 hi hz0 hz1 hz2 rfl (by decide) (.slice (some ⟨W0.heap.size, 0, none⟩) 0 0) 0 [] rfl hemp x K pc (opl ns) rfl hul hsrc (opl_one ns) (by unfold maxLen; omega) (by omega) (by simp) ?_; intro v' w1 hown' hgrow hnil; have hb1 : Below W0.heap.size W0 w1 := (below_alloc W0 _).grown hgrow (by simp) (fun k hk => by simp [Value.ownBlock] at hk; omega); have p1 := p0.call hb1; have d0 := p1.c0; have fr := p1.free 0; have hown1 : w1.ownsRow W0.heap.size 23 2 v' ns.length (opl ns) := (by rw [hnl]; simpa using hown'); obtain ⟨gr, cr, rfl, g1, g2, g3⟩ := own_form hown1 (by intro h; have := hnil.1 h; cases this.1))
        go_meet
        have hgr : gr ≠ gp := by omega
        refine ⟨rfl, ns, gr, cr, by omega, hns'.out, g1, (rd_opl hown1 rfl hns'.out).block (Below.heap_setCell _ _ _ _ hgr) (by simp [World.setCell]), (by rw [hnl]; exact p1.set0 _), (k0.call hb1).heap (Below.heap_setCell _ _ _ _ (Ne.symm hpk)), (o0.call hb1).heap (Below.heap_setCell _ _ _ _ (Ne.symm hpo)), (bcall b0 hb1).setCell hgw _⟩
      · have hmin : min ((pl : Int)) 8 = 8 := by omega
        go_wp2_with (at_builtin; refine wpList_append_own _ rfl _ _ 24 rfl W0.heap.size 23 i0 _ 2 16 Try.underlying24 hi hz0 hz1 hz2 rfl (by decide) (.slice (some ⟨W0.heap.size, 0, none⟩) 0 0) 0 [] rfl hemp x 8 pc (opl ns) rfl hul hsrc (opl_one ns) (by unfold maxLen; omega) (by omega) (by simp) ?_; intro v' w1 hown' hgrow hnil; have hb1 : Below W0.heap.size W0 w1 := (below_alloc W0 _).grown hgrow (by simp) (fun k hk => by simp [Value.ownBlock] at hk; omega); have p1 := p0.call hb1; have d0 := p1.c0; have fr := p1.free 0; have hown1 : w1.ownsRow W0.heap.size 23 2 v' ns.length (opl ns) := (by rw [hnl]; simpa using hown'); obtain ⟨gr, cr, rfl, g1, g2, g3⟩ := own_form hown1 (by intro h; have := hnil.1 h; cases this.1))
        go_meet
        have hgr : gr ≠ gp := by omega
        refine ⟨rfl, ns, gr, cr, by omega, hns'.out, g1, (rd_opl hown1 rfl hns'.out).block (Below.heap_setCell _ _ _ _ hgr) (by simp [World.setCell]), (by rw [hnl]; exact p1.set0 _), (k0.call hb1).heap (Below.heap_setCell _ _ _ _ (Ne.symm hpk)), (o0.call hb1).heap (Below.heap_setCell _ _ _ _ (Ne.symm hpo)), (bcall b0 hb1).setCell hgw _⟩
  case rest =>
    obtain ⟨rfl, ns, gr, cr, hn8, hnf, hcr, rdn, p1, k1, o1, b1⟩ := hcut
    obtain ⟨V, hVe⟩ : ∃ V, V = wc := ⟨_, rfl⟩
    subst hVe
    clear p0 k0 o0 b0 hp0 hemp pA c0
    go_upto_if 24 with fail
    obtain ⟨N0, hN0⟩ : ∃ N, Hid (ns.length = N) := ⟨_, rfl⟩
    rw [hN0.out] at hn8 hcr rdn p1
    go_cut [3] (fun q wx => q = .bool own ∧ ∃ (P : Pq) (ua : Option Addr) (uc : Nat), Hid (PFits P) ∧ P.os.length ≤ 8 ∧ Hid (RdO wx (.slice ua P.os.length uc) P.os) ∧ Pik wx gp (.slice ua P.os.length uc) P.n P.s P.a P.k P.f ∧ Kpk wx go (.slice ao' lo' co') (.slice an' ln' cn') n' s' a' k' f' ∧ Below w.heap.size w wx)
    case first =>
      cases own
      · go_wp2_with fail
        go_meet
        exact ⟨rfl, ⟨ns, pn, ps, pg, pk, pf⟩, some ⟨gr, 0, none⟩, cr, ⟨hnf.out, hpf'.out⟩, by simp only; rw [hN0.out]; exact hn8, by simp only; rw [hN0.out]; exact rdn.out, by simp only; rw [hN0.out]; exact p1, o1, b1⟩
      · have c0 := k1.c0
        have c1 := k1.c1
        have c2 := k1.c2
        have c3 := k1.c3
        have c4 := k1.c4
        have c5 := k1.c5
        have c6 := k1.c6
        go_wp2_with fail
        refine (keep_any ao lo co an ln cn n s a k f _ (hiw.out.1.1.below b1 (Nat.le_refl _) b1.size) (hiw.out.1.2.below b1 (Nat.le_refl _) b1.size)).mono ?_
        rintro e w2 ⟨P, u, hsm, rfl, o2, _, b2⟩
        have hrd := rd_opl o2 rfl (small_fits hsm).1
        obtain ⟨ua, uc, rfl⟩ := own_some2 o2
        have p2 := p1.call b2
        have hV2 : gp < V.heap.size := p1.lt
        have d0 := p2.c0
        have d1 := p2.c1
        have d2 := p2.c2
        have d3 := p2.c3
        have d4 := p2.c4
        have d5 := p2.c5
        have f0 := p2.free 0
        have f1 := p2.free 1
        have f2 := p2.free 2
        have f3 := p2.free 3
        have f4 := p2.free 4
        have f5 := p2.free 5
        clear c0 c1 c2 c3 c4 c5 c6
        have hl4 : P.os.length ≤ 4 := hsm.1
        go_wp2_with fail
        go_meet
        have hh : ∀ k, k ≠ gp → (set6 w2 gp (.slice ua P.os.length uc) P.n P.s P.a P.k P.f).heap[k]? = w2.heap[k]? := fun k hne => by
          rw [Below.heap_setCell _ _ _ _ hne, Below.heap_setCell _ _ _ _ hne, Below.heap_setCell _ _ _ _ hne, Below.heap_setCell _ _ _ _ hne, Below.heap_setCell _ _ _ _ hne, Below.heap_setCell _ _ _ _ hne]
        have o3 := own_heap (w' := set6 w2 gp (.slice ua P.os.length uc) P.n P.s P.a P.k P.f) o2 (fun k hk => hh k (by omega))
        exact ⟨rfl, P, ua, uc, small_fits hsm, by omega, rd_opl o3 rfl (small_fits hsm).1, p2.set6 _ _ _ _ _ _, (o1.call b2).heap (hh go (Ne.symm hpo)), below_set6 (bcall b1 b2) hgw _ _ _ _ _ _⟩
    case rest =>
      obtain ⟨rfl, P, ua, uc, hPf, hP8, rdP, p2, o2, b2⟩ := hcut
      clear p1 k1 o1 b1 rdn hnf hcr hn8
      obtain ⟨Po, Pn, Ps, Pa, Pk, Pf⟩ := P
      simp only at hP8 rdP p2
      obtain ⟨N, hN⟩ : ∃ N, Hid (Po.length = N) := ⟨_, rfl⟩
      rw [hN.out] at hP8 rdP p2
      have c0 := o2.c0
      have c1 := o2.c1
      have c2 := o2.c2
      have c3 := o2.c3
      have c4 := o2.c4
      have c5 := o2.c5
      have c6 := o2.c6
      go_wp2_with fail
      refine (keep_any ao' lo' co' an' ln' cn' n' s' a' k' f' _ (hiw.out.2.1.below b2 (Nat.le_refl _) b2.size) (hiw.out.2.2.below b2 (Nat.le_refl _) b2.size)).mono ?_
      rintro e w3 ⟨⟨Qo, Qn, Qs, Qa, Qk, Qf⟩, u, hsm, rfl, o3, _, b3⟩
      simp only at o3
      have hQr : Hid (rightP ⟨Qo, Qn, Qs, Qa, Qk, Qf⟩ = true) := small_right hsm
      have hQf : Hid (PFits ⟨Qo, Qn, Qs, Qa, Qk, Qf⟩) := small_fits hsm
      have hQ4 : Qo.length ≤ 4 := hsm.1
      have rdQ0 := rd_opl o3 rfl hQf.out.1
      obtain ⟨va, vc, rfl⟩ := own_some2 o3
      obtain ⟨N', hN'⟩ : ∃ N, Hid (Qo.length = N) := ⟨_, rfl⟩
      rw [hN'.out] at rdQ0 hQ4 ⊢
      have p3 := p2.call b3
      have rdP3 := rdP.out.call b3
      have bb3 := bcall b2 b3
      clear o2 p2 rdP b2 o3 b3 hsm c0 c1 c2 c3 c4 c5 c6 hiw
      go_upto_region 5 with fail
      refine world_gen (fun W => Pik W gp (.slice ua N uc) Pn Ps Pa Pk Pf ∧ Pik W w3.heap.size (.slice va N' vc) Qn Qs Qa Qk Qf ∧ Hid (RdO W (.slice ua N uc) Po) ∧ Hid (RdO W (.slice va N' vc) Qo) ∧ Below w.heap.size w W)
        ⟨p3.alloc _, pik_new _ _ _ _ _ _ _, rdP3.call (below_alloc _ _), rdQ0.call (below_alloc _ _), bnew bb3 _⟩ ?_
      clear p3 rdP3 rdQ0 bb3
      rintro W4 ⟨p4, q4, rdP4, rdQ4, bb4⟩
      generalize w3.heap.size = gq at q4 ⊢
      have c0 := p4.c0
      have c1 := p4.c1
      have c2 := p4.c2
      have c3 := p4.c3
      have c4 := p4.c4
      have c5 := p4.c5
      obtain ⟨r, hr⟩ : ∃ r, Hid (rightP ⟨Po, Pn, Ps, Pa, Pk, Pf⟩ = r) := ⟨_, rfl⟩
      obtain ⟨sm, hsm0⟩ := bool_of ((⟨Po, Pn, Ps, Pa, Pk, Pf⟩ : Pq) = ⟨Qo, Qn, Qs, Qa, Qk, Qf⟩)
      have hsm : Hid (sm = true ↔ (⟨Po, Pn, Ps, Pa, Pk, Pf⟩ : Pq) = ⟨Qo, Qn, Qs, Qa, Qk, Qf⟩) := hsm0
      clear hsm0
      go_wp2_with fail
      refine (enc_any _ ⟨Po, Pn, Ps, Pa, Pk, Pf⟩ _ rdP4.out hPf.out).mono ?_
      rintro e w5 ⟨ub, rfl, o5, b5⟩
      have rb5 : Hid (Rd .u8 w5 ub (toI (enc ⟨Po, Pn, Ps, Pa, Pk, Pf⟩))) := rd_bv o5
      have p5 := p4.call b5
      have q5 := q4.call b5
      have rdP5 : Hid (RdO w5 _ _) := rdP4.out.call b5
      have rdQ5 : Hid (RdO w5 _ _) := rdQ4.out.call b5
      have bb5 := bcall bb4 b5
      clear p4 q4 rdP4 rdQ4 bb4 b5 o5 c0 c1 c2 c3 c4 c5
      cases r
      · skip
        go_wp2_with fail
        rw [enc_none hr.out] at rb5
        refine (dec_no _ [] _ rb5.out (by intro c hc; cases hc) no_none).mono ?_
        rintro e w6 ⟨rfl, b6⟩
        have rdX0 := rdo_none w6
        have p6 := p5.call b6
        have q6 := q5.call b6
        have rdP6 : Hid (RdO _ _ _) := rdP5.out.call b6
        have rdQ6 : Hid (RdO _ _ _) := rdQ5.out.call b6
        have bb6 := bcall bb5 b6
        clear p5 q5 rdP5 rdQ5 bb5 b6
        clear rb5
        go_upto_region 6 with fail
        refine world_gen (fun W => Pik W gp (.slice ua N uc) Pn Ps Pa Pk Pf ∧ Pik W gq (.slice va N' vc) Qn Qs Qa Qk Qf ∧ Pik W w6.heap.size (.slice none 0 0) 0 0 0 0 0 ∧ Hid (RdO W (.slice ua N uc) Po) ∧ Hid (RdO W (.slice va N' vc) Qo) ∧ Hid (RdO W (.slice none 0 0) []) ∧ Below w.heap.size w W) ⟨p6.alloc _, q6.alloc _, pik_new _ _ _ _ _ _ _, rdP6.out.call (below_alloc _ _), rdQ6.out.call (below_alloc _ _), rdX0.call (below_alloc _ _), bnew bb6 _⟩ ?_
        clear p6 q6 rdP6 rdQ6 rdX0 bb6
        rintro W7 ⟨p7, q7, x7, rdP7, rdQ7, rdX7, bb7⟩
        generalize w6.heap.size = gx at x7 ⊢
        have c0 := p7.c0
        have c1 := p7.c1
        have c2 := p7.c2
        have c3 := p7.c3
        have c4 := p7.c4
        have c5 := p7.c5
        go_wp2_with fail
        refine (rpright_is _ Po Pn Ps Pa Pk Pf false _ rdP7.out hr.out).mono ?_
        rintro e w8 ⟨rfl, b8⟩
        have p8 := p7.call b8
        have q8 := q7.call b8
        have x8 := x7.call b8
        have rdP8 : Hid (RdO _ _ _) := rdP7.out.call b8
        have rdQ8 : Hid (RdO _ _ _) := rdQ7.out.call b8
        have rdX8 : Hid (RdO _ _ _) := rdX7.out.call b8
        have bb8 := bcall bb7 b8
        clear p7 q7 x7 rdP7 rdQ7 rdX7 bb7 b8
        clear c0 c1 c2 c3 c4 c5
        have c0 := p8.c0
        have c1 := p8.c1
        have c2 := p8.c2
        have c3 := p8.c3
        have c4 := p8.c4
        have c5 := p8.c5
        go_wp2_with fail
        refine (pright_is _ Po Pn Ps Pa Pk Pf false _ rdP8.out hr.out).mono ?_
        rintro e w9 ⟨rfl, b9⟩
        have p9 := p8.call b9
        have q9 := q8.call b9
        have x9 := x8.call b9
        have rdP9 : Hid (RdO _ _ _) := rdP8.out.call b9
        have rdQ9 : Hid (RdO _ _ _) := rdQ8.out.call b9
        have rdX9 : Hid (RdO _ _ _) := rdX8.out.call b9
        have bb9 := bcall bb8 b9
        clear p8 q8 x8 rdP8 rdQ8 rdX8 bb8 b9
        clear c0 c1 c2 c3 c4 c5
        have c0 := p9.c0
        have c1 := p9.c1
        have c2 := p9.c2
        have c3 := p9.c3
        have c4 := p9.c4
        have c5 := p9.c5
        go_wp2_with fail
        refine (enc_any _ ⟨Po, Pn, Ps, Pa, Pk, Pf⟩ _ rdP9.out hPf.out).mono ?_
        rintro e w10 ⟨ue, rfl, oe, b10⟩
        obtain ⟨ea, ec, rfl⟩ := own_some1 oe
        rw [enc_none hr.out]
        simp only [List.length_nil]
        have p10 := p9.call b10
        have q10 := q9.call b10
        have x10 := x9.call b10
        have rdP10 : Hid (RdO _ _ _) := rdP9.out.call b10
        have rdQ10 : Hid (RdO _ _ _) := rdQ9.out.call b10
        have rdX10 : Hid (RdO _ _ _) := rdX9.out.call b10
        have bb10 := bcall bb9 b10
        clear p9 q9 x9 rdP9 rdQ9 rdX9 bb9 b10
        clear c0 c1 c2 c3 c4 c5
        clear oe
        have c0 := p10.c0
        have c1 := p10.c1
        have c2 := p10.c2
        have c3 := p10.c3
        have c4 := p10.c4
        have c5 := p10.c5
        have d0 := x10.c0
        have d1 := x10.c1
        have d2 := x10.c2
        have d3 := x10.c3
        have d4 := x10.c4
        have d5 := x10.c5
        go_wp2_with fail
        refine (pipes_is _ _ ⟨[], 0, 0, 0, 0, 0⟩ ⟨[], 0, 0, 0, 0, 0⟩ true _ rdX10.out (rdo_none _) (by simp)).mono ?_
        rintro e w11 ⟨rfl, b11⟩
        have p11 := p10.call b11
        have q11 := q10.call b11
        have rdP11 : Hid (RdO _ _ _) := rdP10.out.call b11
        have rdQ11 : Hid (RdO _ _ _) := rdQ10.out.call b11
        have bb11 := bcall bb10 b11
        clear p10 q10 rdP10 rdQ10 bb10 b11
        clear x10 rdX10
        clear c0 c1 c2 c3 c4 c5 d0 d1 d2 d3 d4 d5
        have c0 := p11.c0
        have c1 := p11.c1
        have c2 := p11.c2
        have c3 := p11.c3
        have c4 := p11.c4
        have c5 := p11.c5
        have d0 := q11.c0
        have d1 := q11.c1
        have d2 := q11.c2
        have d3 := q11.c3
        have d4 := q11.c4
        have d5 := q11.c5
        go_wp2_with fail
        refine (pipes_is _ _ ⟨Po, Pn, Ps, Pa, Pk, Pf⟩ ⟨Qo, Qn, Qs, Qa, Qk, Qf⟩ sm _ rdP11.out rdQ11.out hsm.out).mono ?_
        rintro e V ⟨rfl, b12⟩
        have p12 := p11.call b12
        have q12 := q11.call b12
        have rdP12 : Hid (RdO _ _ _) := rdP11.out.call b12
        have rdQ12 : Hid (RdO _ _ _) := rdQ11.out.call b12
        have bb12 := bcall bb11 b12
        clear p11 q11 rdP11 rdQ11 bb11 b12
        clear c0 c1 c2 c3 c4 c5 d0 d1 d2 d3 d4 d5
        go_upto_region 10 with fail
        go_cut [8] (fun q wx => q = .bool true ∧ Below V.heap.size V wx)
        case first =>
          refine wp_region_held_drew (S := fun w' => Below V.heap.size V w') (by kernel_rfl) (Below.refl _ _).drew (fun hHeld => ?_)
          generalize V.drew = V1 at hHeld ⊢
          refine take_at (i := 0) (v := pv (.slice ua N uc) Pn Ps Pa Pk Pf) rfl rfl (by kernel_rfl) (by kernel_rfl) (by kernel_rfl) (fun _ _ _ h => h) (Or.inl ⟨by rfl, fun X hX => by have k := p12.call hX; have c0 := k.c0; have c1 := k.c1; have c2 := k.c2; have c3 := k.c3; have c4 := k.c4; have c5 := k.c5; go_simp⟩) hHeld ?_
          try simp only [Act.put, List.setIfInBounds_toArray, List.set_cons_zero, List.set_cons_succ]
          refine take_at (i := 1) (v := pv (.slice va N' vc) Qn Qs Qa Qk Qf) rfl rfl (by kernel_rfl) (by kernel_rfl) (by kernel_rfl) (fun _ _ _ h => h) (Or.inl ⟨by rfl, fun X hX => by have k := q12.call hX; have c0 := k.c0; have c1 := k.c1; have c2 := k.c2; have c3 := k.c3; have c4 := k.c4; have c5 := k.c5; go_simp⟩) hHeld ?_
          try simp only [Act.put, List.setIfInBounds_toArray, List.set_cons_zero, List.set_cons_succ]
          refine take_at (i := 4) (v := .bool sm) rfl rfl (by kernel_rfl) (by kernel_rfl) (by kernel_rfl) (fun _ _ _ h => h) (Or.inl ⟨by rfl, fun X _ => by go_simp⟩) hHeld ?_
          try simp only [Act.put, List.setIfInBounds_toArray, List.set_cons_zero, List.set_cons_succ]
          refine wpAnyH_ready (rs := [2]) (by kernel_rfl) (by simp) ?_
          refine (AllReadyH.cons rfl (fun K hK => ?_) AllReadyH.nil)
          rw [if_pos (by rfl)]
          go_simp
          have hA := hHeld
          refine hK.out _ _ (bnew hHeld _) (fun hHeld => ?_)
          clear hK K
          try simp only [Act.put, List.setIfInBounds_toArray, List.set_cons_zero, List.set_cons_succ]
          refine wpAnyH_ready (rs := [3]) (by kernel_rfl) (by simp) ?_
          refine (AllReadyH.cons rfl (fun K hK => ?_) AllReadyH.nil)
          rw [if_pos (by rfl)]
          go_wp2_with fail
          refine (psame_is _ _ sm _ (rdp_2 V1 _ _ ⟨Po, Pn, Ps, Pa, Pk, Pf⟩ ⟨Qo, Qn, Qs, Qa, Qk, Qf⟩ (rdP12.out.call hA) (rdQ12.out.call hA)) (by rw [hsm.out]; constructor <;> intro h <;> simpa [eq_comm] using h)).mono ?_
          rintro e V2 ⟨rfl, bz⟩
          go_wp2_with fail
          refine hK.out _ _ (bcall hHeld bz) (fun hHeld => ?_)
          clear hK K
          try simp only [Act.put, List.setIfInBounds_toArray, List.set_cons_zero, List.set_cons_succ]
          refine take_at (i := 5) (v := .bool true) rfl rfl (by kernel_rfl) (by kernel_rfl) (by kernel_rfl) (fun _ _ _ h => h) (Or.inl ⟨by rfl, fun X _ => by cases sm <;> go_simp⟩) hHeld ?_
          try simp only [Act.put, List.setIfInBounds_toArray, List.set_cons_zero, List.set_cons_succ]
          refine take_at (i := 6) (v := .bool true) rfl rfl (by kernel_rfl) (by kernel_rfl) (by kernel_rfl) (fun _ _ _ h => h) (Or.inl ⟨by rfl, fun X _ => by go_simp⟩) hHeld ?_
          try simp only [Act.put, List.setIfInBounds_toArray, List.set_cons_zero, List.set_cons_succ]
          refine take_at (i := 7) (v := pv (.slice ua N uc) Pn Ps Pa Pk Pf) rfl rfl (by kernel_rfl) (by kernel_rfl) (by kernel_rfl) (fun _ _ _ h => h) (Or.inl ⟨by rfl, fun X hX => by have k := p12.call hX; have c0 := k.c0; have c1 := k.c1; have c2 := k.c2; have c3 := k.c3; have c4 := k.c4; have c5 := k.c5; go_simp⟩) hHeld ?_
          try simp only [Act.put, List.setIfInBounds_toArray, List.set_cons_zero, List.set_cons_succ]
          refine take_at (i := 8) (v := pv (.slice ua N uc) Pn Ps Pa Pk Pf) rfl rfl (by kernel_rfl) (by kernel_rfl) (by kernel_rfl) (fun _ _ _ h => h) (Or.inl ⟨by rfl, fun X hX => by have k := p12.call hX; have c0 := k.c0; have c1 := k.c1; have c2 := k.c2; have c3 := k.c3; have c4 := k.c4; have c5 := k.c5; go_simp⟩) hHeld ?_
          try simp only [Act.put, List.setIfInBounds_toArray, List.set_cons_zero, List.set_cons_succ]
          refine take_at (i := 9) (v := pv (.slice va N' vc) Qn Qs Qa Qk Qf) rfl rfl (by kernel_rfl) (by kernel_rfl) (by kernel_rfl) (fun _ _ _ h => h) (Or.inl ⟨by rfl, fun X hX => by have k := q12.call hX; have c0 := k.c0; have c1 := k.c1; have c2 := k.c2; have c3 := k.c3; have c4 := k.c4; have c5 := k.c5; go_simp⟩) hHeld ?_
          try simp only [Act.put, List.setIfInBounds_toArray, List.set_cons_zero, List.set_cons_succ]
          refine take_at (i := 12) (v := .bool sm) rfl rfl (by kernel_rfl) (by kernel_rfl) (by kernel_rfl) (fun _ _ _ h => h) (Or.inl ⟨by rfl, fun X _ => by go_simp⟩) hHeld ?_
          try simp only [Act.put, List.setIfInBounds_toArray, List.set_cons_zero, List.set_cons_succ]
          refine wpAnyH_ready (rs := [10]) (by kernel_rfl) (by simp) ?_
          refine (AllReadyH.cons rfl (fun K hK => ?_) AllReadyH.nil)
          rw [if_pos (by rfl)]
          go_simp
          have hB := hHeld
          refine hK.out _ _ (bnew hHeld _) (fun hHeld => ?_)
          clear hK K
          try simp only [Act.put, List.setIfInBounds_toArray, List.set_cons_zero, List.set_cons_succ]
          refine wpAnyH_ready (rs := [11]) (by kernel_rfl) (by simp) ?_
          refine (AllReadyH.cons rfl (fun K hK => ?_) AllReadyH.nil)
          rw [if_pos (by rfl)]
          go_wp2_with fail
          refine (psame_is _ _ sm _ (rdp_3 V2 _ _ _ ⟨Po, Pn, Ps, Pa, Pk, Pf⟩ ⟨Po, Pn, Ps, Pa, Pk, Pf⟩ ⟨Qo, Qn, Qs, Qa, Qk, Qf⟩ (rdP12.out.call hB) (rdP12.out.call hB) (rdQ12.out.call hB)) (by rw [hsm.out]; constructor <;> intro h <;> simpa [eq_comm] using h)).mono ?_
          rintro e V3 ⟨rfl, bz⟩
          go_wp2_with fail
          refine hK.out _ _ (bcall hHeld bz) (fun hHeld => ?_)
          clear hK K
          try simp only [Act.put, List.setIfInBounds_toArray, List.set_cons_zero, List.set_cons_succ]
          refine take_at (i := 13) (v := .bool true) rfl rfl (by kernel_rfl) (by kernel_rfl) (by kernel_rfl) (fun _ _ _ h => h) (Or.inl ⟨by rfl, fun X _ => by cases sm <;> go_simp⟩) hHeld ?_
          try simp only [Act.put, List.setIfInBounds_toArray, List.set_cons_zero, List.set_cons_succ]
          refine take_at (i := 14) (v := .bool true) rfl rfl (by kernel_rfl) (by kernel_rfl) (by kernel_rfl) (fun _ _ _ h => h) (Or.inl ⟨by rfl, fun X _ => by go_simp⟩) hHeld ?_
          try simp only [Act.put, List.setIfInBounds_toArray, List.set_cons_zero, List.set_cons_succ]
          refine take_at (i := 15) (v := .bool true) rfl rfl (by kernel_rfl) (by kernel_rfl) (by kernel_rfl) (fun _ _ _ h => h) (Or.inl ⟨by rfl, fun X _ => by go_simp⟩) hHeld ?_
          try simp only [Act.put, List.setIfInBounds_toArray, List.set_cons_zero, List.set_cons_succ]
          refine take_at (i := 16) (v := pv (.slice ua N uc) Pn Ps Pa Pk Pf) rfl rfl (by kernel_rfl) (by kernel_rfl) (by kernel_rfl) (fun _ _ _ h => h) (Or.inl ⟨by rfl, fun X hX => by have k := p12.call hX; have c0 := k.c0; have c1 := k.c1; have c2 := k.c2; have c3 := k.c3; have c4 := k.c4; have c5 := k.c5; go_simp⟩) hHeld ?_
          try simp only [Act.put, List.setIfInBounds_toArray, List.set_cons_zero, List.set_cons_succ]
          refine wpAnyH_ready (rs := [17]) (by kernel_rfl) (by simp) ?_
          refine (AllReadyH.cons rfl (fun K hK => ?_) AllReadyH.nil)
          rw [if_pos (by rfl)]
          go_simp
          have hC := hHeld
          refine hK.out _ _ (bnew hHeld _) (fun hHeld => ?_)
          clear hK K
          try simp only [Act.put, List.setIfInBounds_toArray, List.set_cons_zero, List.set_cons_succ]
          refine wpAnyH_ready (rs := [18]) (by kernel_rfl) (by simp) ?_
          refine (AllReadyH.cons rfl (fun K hK => ?_) AllReadyH.nil)
          rw [if_pos (by rfl)]
          go_wp2_with fail
          refine (psame_is _ _ true _ (rdp_1 V3 _ ⟨Po, Pn, Ps, Pa, Pk, Pf⟩ (rdP12.out.call hC)) (by simp)).mono ?_
          rintro e V4 ⟨rfl, bz⟩
          go_wp2_with fail
          refine hK.out _ _ (bcall hHeld bz) (fun hHeld => ?_)
          clear hK K
          try simp only [Act.put, List.setIfInBounds_toArray, List.set_cons_zero, List.set_cons_succ]
          refine take_at (i := 19) (v := .bool true) rfl rfl (by kernel_rfl) (by kernel_rfl) (by kernel_rfl) (fun _ _ _ h => h) (Or.inl ⟨by rfl, fun X _ => by go_simp⟩) hHeld ?_
          try simp only [Act.put, List.setIfInBounds_toArray, List.set_cons_zero, List.set_cons_succ]
          refine take_at (i := 20) (v := .bool true) rfl rfl (by kernel_rfl) (by kernel_rfl) (by kernel_rfl) (fun _ _ _ h => h) (Or.inl ⟨by rfl, fun X _ => by go_simp⟩) hHeld ?_
          try simp only [Act.put, List.setIfInBounds_toArray, List.set_cons_zero, List.set_cons_succ]
          refine take_at (i := 21) (v := pv (.slice va N' vc) Qn Qs Qa Qk Qf) rfl rfl (by kernel_rfl) (by kernel_rfl) (by kernel_rfl) (fun _ _ _ h => h) (Or.inl ⟨by rfl, fun X hX => by have k := q12.call hX; have c0 := k.c0; have c1 := k.c1; have c2 := k.c2; have c3 := k.c3; have c4 := k.c4; have c5 := k.c5; go_simp⟩) hHeld ?_
          try simp only [Act.put, List.setIfInBounds_toArray, List.set_cons_zero, List.set_cons_succ]
          refine wpAnyH_ready (rs := [22]) (by kernel_rfl) (by simp) ?_
          refine (AllReadyH.cons rfl (fun K hK => ?_) AllReadyH.nil)
          rw [if_pos (by rfl)]
          go_wp2_with fail
          refine (pright_is _ Qo Qn Qs Qa Qk Qf true _ (rdQ12.out.call hHeld) hQr.out).mono ?_
          rintro e V5 ⟨rfl, bz⟩
          go_wp2_with fail
          refine hK.out _ _ (bcall hHeld bz) (fun hHeld => ?_)
          clear hK K
          try simp only [Act.put, List.setIfInBounds_toArray, List.set_cons_zero, List.set_cons_succ]
          refine take_at (i := 23) (v := .bool true) rfl rfl (by kernel_rfl) (by kernel_rfl) (by kernel_rfl) (fun _ _ _ h => h) (Or.inl ⟨by rfl, fun X _ => by go_simp⟩) hHeld ?_
          try simp only [Act.put, List.setIfInBounds_toArray, List.set_cons_zero, List.set_cons_succ]
          refine take_at (i := 24) (v := .bool true) rfl rfl (by kernel_rfl) (by kernel_rfl) (by kernel_rfl) (fun _ _ _ h => h) (Or.inl ⟨by rfl, fun X _ => by go_simp⟩) hHeld ?_
          try simp only [Act.put, List.setIfInBounds_toArray, List.set_cons_zero, List.set_cons_succ]
          refine take_at (i := 25) (v := .bool false) rfl rfl (by kernel_rfl) (by kernel_rfl) (by kernel_rfl) (fun _ _ _ h => h) (Or.inl ⟨by rfl, fun X _ => by go_simp⟩) hHeld ?_
          try simp only [Act.put, List.setIfInBounds_toArray, List.set_cons_zero, List.set_cons_succ]
          refine take_at (i := 26) (v := .bool true) rfl rfl (by kernel_rfl) (by kernel_rfl) (by kernel_rfl) (fun _ _ _ h => h) (Or.inl ⟨by rfl, fun X _ => by go_simp⟩) hHeld ?_
          try simp only [Act.put, List.setIfInBounds_toArray, List.set_cons_zero, List.set_cons_succ]
          refine take_at (i := 27) (v := .bool true) rfl rfl (by kernel_rfl) (by kernel_rfl) (by kernel_rfl) (fun _ _ _ h => h) (Or.inl ⟨by rfl, fun X _ => by go_simp⟩) hHeld ?_
          try simp only [Act.put, List.setIfInBounds_toArray, List.set_cons_zero, List.set_cons_succ]
          refine take_at (i := 28) (v := undef) rfl rfl (by kernel_rfl) (by kernel_rfl) (by kernel_rfl) (fun _ _ _ h => h) (Or.inr ⟨by rfl, rfl⟩) hHeld ?_
          try simp only [Act.put, List.setIfInBounds_toArray, List.set_cons_zero, List.set_cons_succ]
          refine take_at (i := 29) (v := undef) rfl rfl (by kernel_rfl) (by kernel_rfl) (by kernel_rfl) (fun _ _ _ h => h) (Or.inr ⟨by rfl, rfl⟩) hHeld ?_
          try simp only [Act.put, List.setIfInBounds_toArray, List.set_cons_zero, List.set_cons_succ]
          refine take_at (i := 30) (v := undef) rfl rfl (by kernel_rfl) (by kernel_rfl) (by kernel_rfl) (fun _ _ _ h => h) (Or.inr ⟨by rfl, rfl⟩) hHeld ?_
          try simp only [Act.put, List.setIfInBounds_toArray, List.set_cons_zero, List.set_cons_succ]
          refine take_at (i := 31) (v := undef) rfl rfl (by kernel_rfl) (by kernel_rfl) (by kernel_rfl) (fun _ _ _ h => h) (Or.inr ⟨by rfl, rfl⟩) hHeld ?_
          try simp only [Act.put, List.setIfInBounds_toArray, List.set_cons_zero, List.set_cons_succ]
          refine take_at (i := 32) (v := undef) rfl rfl (by kernel_rfl) (by kernel_rfl) (by kernel_rfl) (fun _ _ _ h => h) (Or.inr ⟨by rfl, rfl⟩) hHeld ?_
          try simp only [Act.put, List.setIfInBounds_toArray, List.set_cons_zero, List.set_cons_succ]
          refine take_at (i := 33) (v := undef) rfl rfl (by kernel_rfl) (by kernel_rfl) (by kernel_rfl) (fun _ _ _ h => h) (Or.inr ⟨by rfl, rfl⟩) hHeld ?_
          try simp only [Act.put, List.setIfInBounds_toArray, List.set_cons_zero, List.set_cons_succ]
          refine take_at (i := 34) (v := undef) rfl rfl (by kernel_rfl) (by kernel_rfl) (by kernel_rfl) (fun _ _ _ h => h) (Or.inr ⟨by rfl, rfl⟩) hHeld ?_
          try simp only [Act.put, List.setIfInBounds_toArray, List.set_cons_zero, List.set_cons_succ]
          refine take_at (i := 35) (v := .bool true) rfl rfl (by kernel_rfl) (by kernel_rfl) (by kernel_rfl) (fun _ _ _ h => h) (Or.inl ⟨by rfl, fun X _ => by go_simp⟩) hHeld ?_
          try simp only [Act.put, List.setIfInBounds_toArray, List.set_cons_zero, List.set_cons_succ]
          refine take_at (i := 36) (v := .bool true) rfl rfl (by kernel_rfl) (by kernel_rfl) (by kernel_rfl) (fun _ _ _ h => h) (Or.inl ⟨by rfl, fun X _ => by go_simp⟩) hHeld ?_
          try simp only [Act.put, List.setIfInBounds_toArray, List.set_cons_zero, List.set_cons_succ]
          refine take_at (i := 37) (v := .bool true) rfl rfl (by kernel_rfl) (by kernel_rfl) (by kernel_rfl) (fun _ _ _ h => h) (Or.inl ⟨by rfl, fun X _ => by go_simp⟩) hHeld ?_
          try simp only [Act.put, List.setIfInBounds_toArray, List.set_cons_zero, List.set_cons_succ]
          refine wpAnyH_ready (rs := [38]) (by kernel_rfl) (by simp) ?_
          refine (AllReadyH.cons rfl (fun K hK => ?_) AllReadyH.nil)
          rw [if_pos (by rfl)]
          go_wp2_with fail
          refine (pipeRuns_walk _).mono ?_
          rintro e V9 ⟨rfl, bz⟩
          go_wp2_with fail
          refine hK.out _ _ (bcall hHeld bz) (fun hHeld => ?_)
          clear hK K
          try simp only [Act.put, List.setIfInBounds_toArray, List.set_cons_zero, List.set_cons_succ]
          refine take_at (i := 39) (v := .bool true) rfl rfl (by kernel_rfl) (by kernel_rfl) (by kernel_rfl) (fun _ _ _ h => h) (Or.inl ⟨by rfl, fun X _ => by go_simp⟩) hHeld ?_
          try simp only [Act.put, List.setIfInBounds_toArray, List.set_cons_zero, List.set_cons_succ]
          refine take_at (i := 40) (v := .bool true) rfl rfl (by kernel_rfl) (by kernel_rfl) (by kernel_rfl) (fun _ _ _ h => h) (Or.inl ⟨by rfl, fun X _ => by go_simp⟩) hHeld ?_
          try simp only [Act.put, List.setIfInBounds_toArray, List.set_cons_zero, List.set_cons_succ]
          refine wpAnyH_done (by kernel_rfl) ?_ _
          go_wp2_with fail
          go_meet
          exact ⟨rfl, hHeld⟩
        case rest =>
          obtain ⟨rfl, bx⟩ := hcut
          go_wp2
          go_ret
          exact ⟨rfl, bcall bb12 bx⟩
      · skip
        go_wp2_with fail
        refine (dec_yes _ _ ⟨Po, Pn, Ps, Pa, Pk, Pf⟩ _ rb5.out hr.out hPf.out (enc_of hr.out).symm).mono ?_
        rintro e w6 ⟨x, rfl, o6, _, b6⟩
        simp only at o6
        have rdX0 := rd_opl o6 rfl hPf.out.1
        obtain ⟨xa, xc, rfl⟩ := own_some2 o6
        rw [hN.out] at rdX0 ⊢
        have p6 := p5.call b6
        have q6 := q5.call b6
        have rdP6 : Hid (RdO _ _ _) := rdP5.out.call b6
        have rdQ6 : Hid (RdO _ _ _) := rdQ5.out.call b6
        have bb6 := bcall bb5 b6
        clear p5 q5 rdP5 rdQ5 bb5 b6
        clear rb5
        clear o6
        go_upto_region 6 with fail
        refine world_gen (fun W => Pik W gp (.slice ua N uc) Pn Ps Pa Pk Pf ∧ Pik W gq (.slice va N' vc) Qn Qs Qa Qk Qf ∧ Pik W w6.heap.size (.slice xa N xc) Pn Ps Pa Pk Pf ∧ Hid (RdO W (.slice ua N uc) Po) ∧ Hid (RdO W (.slice va N' vc) Qo) ∧ Hid (RdO W (.slice xa N xc) Po) ∧ Below w.heap.size w W) ⟨p6.alloc _, q6.alloc _, pik_new _ _ _ _ _ _ _, rdP6.out.call (below_alloc _ _), rdQ6.out.call (below_alloc _ _), rdX0.call (below_alloc _ _), bnew bb6 _⟩ ?_
        clear p6 q6 rdP6 rdQ6 rdX0 bb6
        rintro W7 ⟨p7, q7, x7, rdP7, rdQ7, rdX7, bb7⟩
        generalize w6.heap.size = gx at x7 ⊢
        have c0 := p7.c0
        have c1 := p7.c1
        have c2 := p7.c2
        have c3 := p7.c3
        have c4 := p7.c4
        have c5 := p7.c5
        go_wp2_with fail
        refine (rpright_is _ Po Pn Ps Pa Pk Pf true _ rdP7.out hr.out).mono ?_
        rintro e w8 ⟨rfl, b8⟩
        have p8 := p7.call b8
        have q8 := q7.call b8
        have x8 := x7.call b8
        have rdP8 : Hid (RdO _ _ _) := rdP7.out.call b8
        have rdQ8 : Hid (RdO _ _ _) := rdQ7.out.call b8
        have rdX8 : Hid (RdO _ _ _) := rdX7.out.call b8
        have bb8 := bcall bb7 b8
        clear p7 q7 x7 rdP7 rdQ7 rdX7 bb7 b8
        clear c0 c1 c2 c3 c4 c5
        have c0 := p8.c0
        have c1 := p8.c1
        have c2 := p8.c2
        have c3 := p8.c3
        have c4 := p8.c4
        have c5 := p8.c5
        go_wp2_with fail
        refine (pright_is _ Po Pn Ps Pa Pk Pf true _ rdP8.out hr.out).mono ?_
        rintro e w9 ⟨rfl, b9⟩
        have p9 := p8.call b9
        have q9 := q8.call b9
        have x9 := x8.call b9
        have rdP9 : Hid (RdO _ _ _) := rdP8.out.call b9
        have rdQ9 : Hid (RdO _ _ _) := rdQ8.out.call b9
        have rdX9 : Hid (RdO _ _ _) := rdX8.out.call b9
        have bb9 := bcall bb8 b9
        clear p8 q8 x8 rdP8 rdQ8 rdX8 bb8 b9
        clear c0 c1 c2 c3 c4 c5
        have c0 := p9.c0
        have c1 := p9.c1
        have c2 := p9.c2
        have c3 := p9.c3
        have c4 := p9.c4
        have c5 := p9.c5
        go_wp2_with fail
        refine (enc_any _ ⟨Po, Pn, Ps, Pa, Pk, Pf⟩ _ rdP9.out hPf.out).mono ?_
        rintro e w10 ⟨ue, rfl, oe, b10⟩
        obtain ⟨ea, ec, rfl⟩ := own_some1 oe
        have hE := enc_len hr.out
        obtain ⟨E, hEe⟩ : ∃ E, Hid ((enc ⟨Po, Pn, Ps, Pa, Pk, Pf⟩).length = E) := ⟨_, rfl⟩
        rw [hEe.out] at hE ⊢
        have hE0 : (0 : Int) < (E : Int) := by omega
        have p10 := p9.call b10
        have q10 := q9.call b10
        have x10 := x9.call b10
        have rdP10 : Hid (RdO _ _ _) := rdP9.out.call b10
        have rdQ10 : Hid (RdO _ _ _) := rdQ9.out.call b10
        have rdX10 : Hid (RdO _ _ _) := rdX9.out.call b10
        have bb10 := bcall bb9 b10
        clear p9 q9 x9 rdP9 rdQ9 rdX9 bb9 b10
        clear c0 c1 c2 c3 c4 c5
        clear oe
        have c0 := p10.c0
        have c1 := p10.c1
        have c2 := p10.c2
        have c3 := p10.c3
        have c4 := p10.c4
        have c5 := p10.c5
        have d0 := x10.c0
        have d1 := x10.c1
        have d2 := x10.c2
        have d3 := x10.c3
        have d4 := x10.c4
        have d5 := x10.c5
        go_wp2_with fail
        refine (pipes_is _ _ ⟨Po, Pn, Ps, Pa, Pk, Pf⟩ ⟨Po, Pn, Ps, Pa, Pk, Pf⟩ true _ rdX10.out rdP10.out (by simp)).mono ?_
        rintro e w11 ⟨rfl, b11⟩
        have p11 := p10.call b11
        have q11 := q10.call b11
        have rdP11 : Hid (RdO _ _ _) := rdP10.out.call b11
        have rdQ11 : Hid (RdO _ _ _) := rdQ10.out.call b11
        have bb11 := bcall bb10 b11
        clear p10 q10 rdP10 rdQ10 bb10 b11
        clear x10 rdX10
        clear c0 c1 c2 c3 c4 c5 d0 d1 d2 d3 d4 d5
        have c0 := p11.c0
        have c1 := p11.c1
        have c2 := p11.c2
        have c3 := p11.c3
        have c4 := p11.c4
        have c5 := p11.c5
        have d0 := q11.c0
        have d1 := q11.c1
        have d2 := q11.c2
        have d3 := q11.c3
        have d4 := q11.c4
        have d5 := q11.c5
        go_wp2_with fail
        refine (pipes_is _ _ ⟨Po, Pn, Ps, Pa, Pk, Pf⟩ ⟨Qo, Qn, Qs, Qa, Qk, Qf⟩ sm _ rdP11.out rdQ11.out hsm.out).mono ?_
        rintro e V ⟨rfl, b12⟩
        have p12 := p11.call b12
        have q12 := q11.call b12
        have rdP12 : Hid (RdO _ _ _) := rdP11.out.call b12
        have rdQ12 : Hid (RdO _ _ _) := rdQ11.out.call b12
        have bb12 := bcall bb11 b12
        clear p11 q11 rdP11 rdQ11 bb11 b12
        clear c0 c1 c2 c3 c4 c5 d0 d1 d2 d3 d4 d5
        clear hE hE0
        go_upto_region 10 with fail
        go_cut [8] (fun q wx => q = .bool true ∧ Below V.heap.size V wx)
        case first =>
          have hse : Hid (decide (enc ⟨Po, Pn, Ps, Pa, Pk, Pf⟩ = enc ⟨Qo, Qn, Qs, Qa, Qk, Qf⟩) = sm) := by
            have h : decide (enc ⟨Po, Pn, Ps, Pa, Pk, Pf⟩ = enc ⟨Qo, Qn, Qs, Qa, Qk, Qf⟩) = sm := by
              rw [Bool.eq_iff_iff, decide_eq_true_iff, hsm.out]
              constructor
              · intro h
                rw [enc_of hr.out, enc_of hQr.out] at h
                exact enc_inj hPf.out hQf.out hr.out hQr.out h
              · intro h; rw [h]
            exact h
          refine wp_region_held_drew (S := fun w' => Below V.heap.size V w') (by kernel_rfl) (Below.refl _ _).drew (fun hHeld => ?_)
          generalize V.drew = V1 at hHeld ⊢
          refine take_at (i := 0) (v := pv (.slice ua N uc) Pn Ps Pa Pk Pf) rfl rfl (by kernel_rfl) (by kernel_rfl) (by kernel_rfl) (fun _ _ _ h => h) (Or.inl ⟨by rfl, fun X hX => by have k := p12.call hX; have c0 := k.c0; have c1 := k.c1; have c2 := k.c2; have c3 := k.c3; have c4 := k.c4; have c5 := k.c5; go_simp⟩) hHeld ?_
          try simp only [Act.put, List.setIfInBounds_toArray, List.set_cons_zero, List.set_cons_succ]
          refine take_at (i := 1) (v := pv (.slice va N' vc) Qn Qs Qa Qk Qf) rfl rfl (by kernel_rfl) (by kernel_rfl) (by kernel_rfl) (fun _ _ _ h => h) (Or.inl ⟨by rfl, fun X hX => by have k := q12.call hX; have c0 := k.c0; have c1 := k.c1; have c2 := k.c2; have c3 := k.c3; have c4 := k.c4; have c5 := k.c5; go_simp⟩) hHeld ?_
          try simp only [Act.put, List.setIfInBounds_toArray, List.set_cons_zero, List.set_cons_succ]
          refine take_at (i := 4) (v := .bool sm) rfl rfl (by kernel_rfl) (by kernel_rfl) (by kernel_rfl) (fun _ _ _ h => h) (Or.inl ⟨by rfl, fun X _ => by go_simp⟩) hHeld ?_
          try simp only [Act.put, List.setIfInBounds_toArray, List.set_cons_zero, List.set_cons_succ]
          refine wpAnyH_ready (rs := [2]) (by kernel_rfl) (by simp) ?_
          refine (AllReadyH.cons rfl (fun K hK => ?_) AllReadyH.nil)
          rw [if_pos (by rfl)]
          go_simp
          have hA := hHeld
          refine hK.out _ _ (bnew hHeld _) (fun hHeld => ?_)
          clear hK K
          try simp only [Act.put, List.setIfInBounds_toArray, List.set_cons_zero, List.set_cons_succ]
          refine wpAnyH_ready (rs := [3]) (by kernel_rfl) (by simp) ?_
          refine (AllReadyH.cons rfl (fun K hK => ?_) AllReadyH.nil)
          rw [if_pos (by rfl)]
          go_wp2_with fail
          refine (psame_is _ _ sm _ (rdp_2 V1 _ _ ⟨Po, Pn, Ps, Pa, Pk, Pf⟩ ⟨Qo, Qn, Qs, Qa, Qk, Qf⟩ (rdP12.out.call hA) (rdQ12.out.call hA)) (by rw [hsm.out]; constructor <;> intro h <;> simpa [eq_comm] using h)).mono ?_
          rintro e V2 ⟨rfl, bz⟩
          go_wp2_with fail
          refine hK.out _ _ (bcall hHeld bz) (fun hHeld => ?_)
          clear hK K
          try simp only [Act.put, List.setIfInBounds_toArray, List.set_cons_zero, List.set_cons_succ]
          refine take_at (i := 5) (v := .bool true) rfl rfl (by kernel_rfl) (by kernel_rfl) (by kernel_rfl) (fun _ _ _ h => h) (Or.inl ⟨by rfl, fun X _ => by cases sm <;> go_simp⟩) hHeld ?_
          try simp only [Act.put, List.setIfInBounds_toArray, List.set_cons_zero, List.set_cons_succ]
          refine take_at (i := 6) (v := .bool true) rfl rfl (by kernel_rfl) (by kernel_rfl) (by kernel_rfl) (fun _ _ _ h => h) (Or.inl ⟨by rfl, fun X _ => by go_simp⟩) hHeld ?_
          try simp only [Act.put, List.setIfInBounds_toArray, List.set_cons_zero, List.set_cons_succ]
          refine take_at (i := 7) (v := pv (.slice ua N uc) Pn Ps Pa Pk Pf) rfl rfl (by kernel_rfl) (by kernel_rfl) (by kernel_rfl) (fun _ _ _ h => h) (Or.inl ⟨by rfl, fun X hX => by have k := p12.call hX; have c0 := k.c0; have c1 := k.c1; have c2 := k.c2; have c3 := k.c3; have c4 := k.c4; have c5 := k.c5; go_simp⟩) hHeld ?_
          try simp only [Act.put, List.setIfInBounds_toArray, List.set_cons_zero, List.set_cons_succ]
          refine take_at (i := 8) (v := pv (.slice ua N uc) Pn Ps Pa Pk Pf) rfl rfl (by kernel_rfl) (by kernel_rfl) (by kernel_rfl) (fun _ _ _ h => h) (Or.inl ⟨by rfl, fun X hX => by have k := p12.call hX; have c0 := k.c0; have c1 := k.c1; have c2 := k.c2; have c3 := k.c3; have c4 := k.c4; have c5 := k.c5; go_simp⟩) hHeld ?_
          try simp only [Act.put, List.setIfInBounds_toArray, List.set_cons_zero, List.set_cons_succ]
          refine take_at (i := 9) (v := pv (.slice va N' vc) Qn Qs Qa Qk Qf) rfl rfl (by kernel_rfl) (by kernel_rfl) (by kernel_rfl) (fun _ _ _ h => h) (Or.inl ⟨by rfl, fun X hX => by have k := q12.call hX; have c0 := k.c0; have c1 := k.c1; have c2 := k.c2; have c3 := k.c3; have c4 := k.c4; have c5 := k.c5; go_simp⟩) hHeld ?_
          try simp only [Act.put, List.setIfInBounds_toArray, List.set_cons_zero, List.set_cons_succ]
          refine take_at (i := 12) (v := .bool sm) rfl rfl (by kernel_rfl) (by kernel_rfl) (by kernel_rfl) (fun _ _ _ h => h) (Or.inl ⟨by rfl, fun X _ => by go_simp⟩) hHeld ?_
          try simp only [Act.put, List.setIfInBounds_toArray, List.set_cons_zero, List.set_cons_succ]
          refine wpAnyH_ready (rs := [10]) (by kernel_rfl) (by simp) ?_
          refine (AllReadyH.cons rfl (fun K hK => ?_) AllReadyH.nil)
          rw [if_pos (by rfl)]
          go_simp
          have hB := hHeld
          refine hK.out _ _ (bnew hHeld _) (fun hHeld => ?_)
          clear hK K
          try simp only [Act.put, List.setIfInBounds_toArray, List.set_cons_zero, List.set_cons_succ]
          refine wpAnyH_ready (rs := [11]) (by kernel_rfl) (by simp) ?_
          refine (AllReadyH.cons rfl (fun K hK => ?_) AllReadyH.nil)
          rw [if_pos (by rfl)]
          go_wp2_with fail
          refine (psame_is _ _ sm _ (rdp_3 V2 _ _ _ ⟨Po, Pn, Ps, Pa, Pk, Pf⟩ ⟨Po, Pn, Ps, Pa, Pk, Pf⟩ ⟨Qo, Qn, Qs, Qa, Qk, Qf⟩ (rdP12.out.call hB) (rdP12.out.call hB) (rdQ12.out.call hB)) (by rw [hsm.out]; constructor <;> intro h <;> simpa [eq_comm] using h)).mono ?_
          rintro e V3 ⟨rfl, bz⟩
          go_wp2_with fail
          refine hK.out _ _ (bcall hHeld bz) (fun hHeld => ?_)
          clear hK K
          try simp only [Act.put, List.setIfInBounds_toArray, List.set_cons_zero, List.set_cons_succ]
          refine take_at (i := 13) (v := .bool true) rfl rfl (by kernel_rfl) (by kernel_rfl) (by kernel_rfl) (fun _ _ _ h => h) (Or.inl ⟨by rfl, fun X _ => by cases sm <;> go_simp⟩) hHeld ?_
          try simp only [Act.put, List.setIfInBounds_toArray, List.set_cons_zero, List.set_cons_succ]
          refine take_at (i := 14) (v := .bool true) rfl rfl (by kernel_rfl) (by kernel_rfl) (by kernel_rfl) (fun _ _ _ h => h) (Or.inl ⟨by rfl, fun X _ => by go_simp⟩) hHeld ?_
          try simp only [Act.put, List.setIfInBounds_toArray, List.set_cons_zero, List.set_cons_succ]
          refine take_at (i := 15) (v := .bool true) rfl rfl (by kernel_rfl) (by kernel_rfl) (by kernel_rfl) (fun _ _ _ h => h) (Or.inl ⟨by rfl, fun X _ => by go_simp⟩) hHeld ?_
          try simp only [Act.put, List.setIfInBounds_toArray, List.set_cons_zero, List.set_cons_succ]
          refine take_at (i := 16) (v := pv (.slice ua N uc) Pn Ps Pa Pk Pf) rfl rfl (by kernel_rfl) (by kernel_rfl) (by kernel_rfl) (fun _ _ _ h => h) (Or.inl ⟨by rfl, fun X hX => by have k := p12.call hX; have c0 := k.c0; have c1 := k.c1; have c2 := k.c2; have c3 := k.c3; have c4 := k.c4; have c5 := k.c5; go_simp⟩) hHeld ?_
          try simp only [Act.put, List.setIfInBounds_toArray, List.set_cons_zero, List.set_cons_succ]
          refine wpAnyH_ready (rs := [17]) (by kernel_rfl) (by simp) ?_
          refine (AllReadyH.cons rfl (fun K hK => ?_) AllReadyH.nil)
          rw [if_pos (by rfl)]
          go_simp
          have hC := hHeld
          refine hK.out _ _ (bnew hHeld _) (fun hHeld => ?_)
          clear hK K
          try simp only [Act.put, List.setIfInBounds_toArray, List.set_cons_zero, List.set_cons_succ]
          refine wpAnyH_ready (rs := [18]) (by kernel_rfl) (by simp) ?_
          refine (AllReadyH.cons rfl (fun K hK => ?_) AllReadyH.nil)
          rw [if_pos (by rfl)]
          go_wp2_with fail
          refine (psame_is _ _ true _ (rdp_1 V3 _ ⟨Po, Pn, Ps, Pa, Pk, Pf⟩ (rdP12.out.call hC)) (by simp)).mono ?_
          rintro e V4 ⟨rfl, bz⟩
          go_wp2_with fail
          refine hK.out _ _ (bcall hHeld bz) (fun hHeld => ?_)
          clear hK K
          try simp only [Act.put, List.setIfInBounds_toArray, List.set_cons_zero, List.set_cons_succ]
          refine take_at (i := 19) (v := .bool true) rfl rfl (by kernel_rfl) (by kernel_rfl) (by kernel_rfl) (fun _ _ _ h => h) (Or.inl ⟨by rfl, fun X _ => by go_simp⟩) hHeld ?_
          try simp only [Act.put, List.setIfInBounds_toArray, List.set_cons_zero, List.set_cons_succ]
          refine take_at (i := 20) (v := .bool true) rfl rfl (by kernel_rfl) (by kernel_rfl) (by kernel_rfl) (fun _ _ _ h => h) (Or.inl ⟨by rfl, fun X _ => by go_simp⟩) hHeld ?_
          try simp only [Act.put, List.setIfInBounds_toArray, List.set_cons_zero, List.set_cons_succ]
          refine take_at (i := 21) (v := pv (.slice va N' vc) Qn Qs Qa Qk Qf) rfl rfl (by kernel_rfl) (by kernel_rfl) (by kernel_rfl) (fun _ _ _ h => h) (Or.inl ⟨by rfl, fun X hX => by have k := q12.call hX; have c0 := k.c0; have c1 := k.c1; have c2 := k.c2; have c3 := k.c3; have c4 := k.c4; have c5 := k.c5; go_simp⟩) hHeld ?_
          try simp only [Act.put, List.setIfInBounds_toArray, List.set_cons_zero, List.set_cons_succ]
          refine wpAnyH_ready (rs := [22]) (by kernel_rfl) (by simp) ?_
          refine (AllReadyH.cons rfl (fun K hK => ?_) AllReadyH.nil)
          rw [if_pos (by rfl)]
          go_wp2_with fail
          refine (pright_is _ Qo Qn Qs Qa Qk Qf true _ (rdQ12.out.call hHeld) hQr.out).mono ?_
          rintro e V5 ⟨rfl, bz⟩
          go_wp2_with fail
          refine hK.out _ _ (bcall hHeld bz) (fun hHeld => ?_)
          clear hK K
          try simp only [Act.put, List.setIfInBounds_toArray, List.set_cons_zero, List.set_cons_succ]
          refine take_at (i := 23) (v := .bool true) rfl rfl (by kernel_rfl) (by kernel_rfl) (by kernel_rfl) (fun _ _ _ h => h) (Or.inl ⟨by rfl, fun X _ => by go_simp⟩) hHeld ?_
          try simp only [Act.put, List.setIfInBounds_toArray, List.set_cons_zero, List.set_cons_succ]
          refine take_at (i := 24) (v := .bool true) rfl rfl (by kernel_rfl) (by kernel_rfl) (by kernel_rfl) (fun _ _ _ h => h) (Or.inl ⟨by rfl, fun X _ => by go_simp⟩) hHeld ?_
          try simp only [Act.put, List.setIfInBounds_toArray, List.set_cons_zero, List.set_cons_succ]
          refine take_at (i := 25) (v := .bool true) rfl rfl (by kernel_rfl) (by kernel_rfl) (by kernel_rfl) (fun _ _ _ h => h) (Or.inl ⟨by rfl, fun X _ => by go_simp⟩) hHeld ?_
          try simp only [Act.put, List.setIfInBounds_toArray, List.set_cons_zero, List.set_cons_succ]
          refine take_at (i := 26) (v := .bool false) rfl rfl (by kernel_rfl) (by kernel_rfl) (by kernel_rfl) (fun _ _ _ h => h) (Or.inl ⟨by rfl, fun X _ => by go_simp⟩) hHeld ?_
          try simp only [Act.put, List.setIfInBounds_toArray, List.set_cons_zero, List.set_cons_succ]
          refine take_at (i := 27) (v := .bool false) rfl rfl (by kernel_rfl) (by kernel_rfl) (by kernel_rfl) (fun _ _ _ h => h) (Or.inl ⟨by rfl, fun X _ => by go_simp⟩) hHeld ?_
          try simp only [Act.put, List.setIfInBounds_toArray, List.set_cons_zero, List.set_cons_succ]
          refine take_at (i := 28) (v := pv (.slice ua N uc) Pn Ps Pa Pk Pf) rfl rfl (by kernel_rfl) (by kernel_rfl) (by kernel_rfl) (fun _ _ _ h => h) (Or.inl ⟨by rfl, fun X hX => by have k := p12.call hX; have c0 := k.c0; have c1 := k.c1; have c2 := k.c2; have c3 := k.c3; have c4 := k.c4; have c5 := k.c5; go_simp⟩) hHeld ?_
          try simp only [Act.put, List.setIfInBounds_toArray, List.set_cons_zero, List.set_cons_succ]
          refine take_at (i := 30) (v := pv (.slice va N' vc) Qn Qs Qa Qk Qf) rfl rfl (by kernel_rfl) (by kernel_rfl) (by kernel_rfl) (fun _ _ _ h => h) (Or.inl ⟨by rfl, fun X hX => by have k := q12.call hX; have c0 := k.c0; have c1 := k.c1; have c2 := k.c2; have c3 := k.c3; have c4 := k.c4; have c5 := k.c5; go_simp⟩) hHeld ?_
          try simp only [Act.put, List.setIfInBounds_toArray, List.set_cons_zero, List.set_cons_succ]
          refine take_at (i := 33) (v := .bool sm) rfl rfl (by kernel_rfl) (by kernel_rfl) (by kernel_rfl) (fun _ _ _ h => h) (Or.inl ⟨by rfl, fun X _ => by go_simp⟩) hHeld ?_
          try simp only [Act.put, List.setIfInBounds_toArray, List.set_cons_zero, List.set_cons_succ]
          refine wpAnyH_ready (rs := [29]) (by kernel_rfl) (by simp) ?_
          refine (AllReadyH.cons rfl (fun K hK => ?_) AllReadyH.nil)
          rw [if_pos (by rfl)]
          go_wp2_with fail
          refine (enc_any _ ⟨Po, Pn, Ps, Pa, Pk, Pf⟩ _ (rdP12.out.call hHeld) hPf.out).mono ?_
          rintro e V6 ⟨u6, rfl, o6, bz⟩
          have r6 := rd_bv o6
          go_wp2_with fail
          refine hK.out _ _ (bcall hHeld bz) (fun hHeld => ?_)
          clear hK K
          try simp only [Act.put, List.setIfInBounds_toArray, List.set_cons_zero, List.set_cons_succ]
          refine wpAnyH_ready (rs := [31]) (by kernel_rfl) (by simp) ?_
          refine (AllReadyH.cons rfl (fun K hK => ?_) AllReadyH.nil)
          rw [if_pos (by rfl)]
          go_wp2_with fail
          refine (enc_any _ ⟨Qo, Qn, Qs, Qa, Qk, Qf⟩ _ (rdQ12.out.call hHeld) hQf.out).mono ?_
          rintro e V7 ⟨u7, rfl, o7, bz⟩
          have r7 := rd_bv o7
          have r67 := r6.call bz
          go_wp2_with fail
          refine hK.out _ _ (bcall hHeld bz) (fun hHeld => ?_)
          clear hK K
          try simp only [Act.put, List.setIfInBounds_toArray, List.set_cons_zero, List.set_cons_succ]
          refine wpAnyH_ready (rs := [32]) (by kernel_rfl) (by simp) ?_
          refine (AllReadyH.cons rfl (fun K hK => ?_) AllReadyH.nil)
          rw [if_pos (by rfl)]
          go_wp2_with fail
          refine (same_bytes _ _ _ _ _ sm r67 r7 hse.out).mono ?_
          rintro e V8 ⟨rfl, bz⟩
          go_wp2_with fail
          refine hK.out _ _ (bcall hHeld bz) (fun hHeld => ?_)
          clear hK K
          try simp only [Act.put, List.setIfInBounds_toArray, List.set_cons_zero, List.set_cons_succ]
          refine take_at (i := 34) (v := .bool true) rfl rfl (by kernel_rfl) (by kernel_rfl) (by kernel_rfl) (fun _ _ _ h => h) (Or.inl ⟨by rfl, fun X _ => by cases sm <;> go_simp⟩) hHeld ?_
          try simp only [Act.put, List.setIfInBounds_toArray, List.set_cons_zero, List.set_cons_succ]
          refine take_at (i := 35) (v := .bool true) rfl rfl (by kernel_rfl) (by kernel_rfl) (by kernel_rfl) (fun _ _ _ h => h) (Or.inl ⟨by rfl, fun X _ => by go_simp⟩) hHeld ?_
          try simp only [Act.put, List.setIfInBounds_toArray, List.set_cons_zero, List.set_cons_succ]
          refine take_at (i := 36) (v := .bool true) rfl rfl (by kernel_rfl) (by kernel_rfl) (by kernel_rfl) (fun _ _ _ h => h) (Or.inl ⟨by rfl, fun X _ => by go_simp⟩) hHeld ?_
          try simp only [Act.put, List.setIfInBounds_toArray, List.set_cons_zero, List.set_cons_succ]
          refine take_at (i := 37) (v := .bool true) rfl rfl (by kernel_rfl) (by kernel_rfl) (by kernel_rfl) (fun _ _ _ h => h) (Or.inl ⟨by rfl, fun X _ => by go_simp⟩) hHeld ?_
          try simp only [Act.put, List.setIfInBounds_toArray, List.set_cons_zero, List.set_cons_succ]
          refine wpAnyH_ready (rs := [38]) (by kernel_rfl) (by simp) ?_
          refine (AllReadyH.cons rfl (fun K hK => ?_) AllReadyH.nil)
          rw [if_pos (by rfl)]
          go_wp2_with fail
          refine (pipeRuns_walk _).mono ?_
          rintro e V9 ⟨rfl, bz⟩
          go_wp2_with fail
          refine hK.out _ _ (bcall hHeld bz) (fun hHeld => ?_)
          clear hK K
          try simp only [Act.put, List.setIfInBounds_toArray, List.set_cons_zero, List.set_cons_succ]
          refine take_at (i := 39) (v := .bool true) rfl rfl (by kernel_rfl) (by kernel_rfl) (by kernel_rfl) (fun _ _ _ h => h) (Or.inl ⟨by rfl, fun X _ => by go_simp⟩) hHeld ?_
          try simp only [Act.put, List.setIfInBounds_toArray, List.set_cons_zero, List.set_cons_succ]
          refine take_at (i := 40) (v := .bool true) rfl rfl (by kernel_rfl) (by kernel_rfl) (by kernel_rfl) (fun _ _ _ h => h) (Or.inl ⟨by rfl, fun X _ => by go_simp⟩) hHeld ?_
          try simp only [Act.put, List.setIfInBounds_toArray, List.set_cons_zero, List.set_cons_succ]
          refine wpAnyH_done (by kernel_rfl) ?_ _
          go_wp2_with fail
          go_meet
          exact ⟨rfl, hHeld⟩
        case rest =>
          obtain ⟨rfl, bx⟩ := hcut
          go_wp2
          go_ret
          exact ⟨rfl, bcall bb12 bx⟩
theorem pipeTells_walk (a0 : PipeIn) (a1 a2 : KeepIn) (a3 : Bool) (w : World) (w0 : IsPipe w a0) (w1 : IsKeep w a1) (w2 : IsKeep w a2) :
    Calls Try.prog 4 #[pin a0, kin a1, kin a2, .bool a3] w fun e w' => e = .returned (.bool true) ∧ Below w.heap.size w w' := by
  obtain ⟨⟨os, hos⟩, hf⟩ := w0
  exact tells_core a0.a a0.len a0.cap os a0.n a0.s a0.g a0.k a0.f a1.ao a1.lo a1.co a1.an a1.ln a1.cn a1.n a1.s a1.g a1.k a1.f a2.ao a2.lo a2.co a2.an a2.ln a2.cn a2.n a2.s a2.g a2.k a2.f a3 w hos hf w1.1 w1.2 w2.1 w2.2
end Go.Proofs.Ytimeglhoiibhdaa
