/- QueuePlays, walked. -/
import Derived.Test.YtmkdhgjnfnfliaaRuns
import Derived.Test.YtmkdhgjnfnfliaaFrame
import Derived.Test.YtmkdhgjnfnfliaaOver
namespace Go.Proofs.Ytmkdhgjnfnfliaa
open Go.RowKit
set_option linter.unusedVariables false
set_option linter.unusedSimpArgs false
attribute [local go_sem ↓] Go.wp_at_zero Go.wp_at_succ
theorem cut_part {W0 w : World} {qs : List Qt} {ls : List Lt} {ao : Option Addr} {n cap : Nat} {L : List Inp} (h : St W0 w qs ((.slice ao n cap, L) :: ls)) (k : Nat) (hk : k ≤ L.length) (ao' : Option Addr) (c' : Nat)
    (ha : ao' = if cap - k = 0 then ao else ao.map (fun x => x.add (k * 5))) (hc : c' = cap - k) : St W0 w qs ((.slice ao' (n - k) c', L.drop k) :: ls) := by
  subst hc
  obtain ⟨q1, q2⟩ := qv_cut h.hl k hk ao' ha
  exact h.part q1 q2
abbrev ZM : Inp := ⟨true, ⟨0, 0, -1, 0⟩⟩
set_option maxHeartbeats 4000000 in
set_option maxRecDepth 100000 in
theorem queuePlays_walk (la : Option Addr) (ll lc : Nat) (w : World) (hL : IsA w la ll lc) :
    Calls Try.prog 4 #[.slice la ll lc] w fun e w' => e = .returned (.bool true) ∧ Below w.heap.size w w' := by
  have hLh : Hid (IsA w la ll lc) := hL
  have hl1 : ll ≤ 9223372036854775807 := hL.1
  clear hL
  go_enter Try.func4, Try.ntmps4
  go_upto_region 2 with fail
  refine world_gen (fun W => Hid (St w W [(w.heap.size, .slice none 0 0, [])] [(.slice none 0 0, [])])) ((st_start w).newq0.nill) ?_
  rintro w1 hS1
  obtain ⟨b, hb⟩ : ∃ b, Hid (w.heap.size = b) := ⟨_, rfl⟩
  rw [hb.out] at hS1 ⊢
  clear hb
  go_wp2_with fail
  go_loopw [4, 5, 6] (fun ov nv iv wr => ∃ (i n nx : Nat) (vq vo : Value) (Lo : List Inp), i ≤ ll ∧ i ≤ 40 ∧ Hid (Lo.length = n) ∧ n ≤ 5 * i ∧ nx ≤ 5 * i ∧ vo = ov ∧ nv = .int .i64 ((nx : Nat) : Int) ∧ iv = .int .i64 ((i : Nat) : Int) ∧ Hid (St w wr [(b, vq, Lo)] [(vo, Lo)])) (fun _ _ iv _ => ll - (intOf iv).toNat)
  case atStart => exact ⟨0, 0, 0, _, _, [], Nat.zero_le _, by decide, rfl, by decide, by decide, rfl, rfl, rfl, hS1⟩
  case round =>
    obtain ⟨i, n, nx, vq, vo, Lo, hi1, hi2, hn, hn5, hx5, rfl, rfl, rfl, hS10⟩ := hrel
    clear hS1
    by_cases hlt : i < ll
    · by_cases h40 : i < 40
      · have h40i : decide (((i : Nat) : Int) < 40) = true := by simp; omega
        obtain ⟨q8, off, x, y, z, rfl, hlb, p0, p1, p2⟩ := hLh.out.2.2.2 i hlt
        have hlc : ll ≤ lc ∧ lc ≤ 9223372036854775807 := ⟨hLh.out.2.2.1, hLh.out.2.1⟩
        rw [← hS10.out.b.cell (p := ⟨q8, off + i * 3, none⟩) hlb] at p0
        rw [← hS10.out.b.cell (p := ⟨q8, off + i * 3 + 1, none⟩) hlb] at p1
        rw [← hS10.out.b.cell (p := ⟨q8, off + i * 3 + 2, none⟩) hlb] at p2
        obtain ⟨hlc1, hlc2⟩ := hlc
        go_upto_region 8 with fail
        refine world_gen (fun W => Hid (St w W [(b, vq, Lo)] [(vo, Lo)]) ∧ Hid (Akk W wr.heap.size x y z)) ⟨hS10.out.below (below_alloc _ _), akk_new wr x y z⟩ ?_
        rintro w12 ⟨hS12, hA12⟩
        obtain ⟨g, hg⟩ : ∃ g, Hid (wr.heap.size = g) := ⟨_, rfl⟩
        rw [hg.out] at hA12 ⊢
        clear hg hS10 p0 p1 p2 hlb
        obtain ⟨c0, c1, c2⟩ := hA12.out.c
        go_upto_block 2 with fail
        go_cut [4, 5] (fun ov nv wx => ∃ (n2 nx2 : Nat) (vq2 vo2 : Value) (L2 : List Inp), Hid (L2.length = n2) ∧ n2 ≤ 5 * (i + 1) ∧ nx2 ≤ 5 * (i + 1) ∧ vo2 = ov ∧ nv = .int .i64 ((nx2 : Nat) : Int) ∧ Hid (St w wx [(b, vq2, L2)] [(vo2, L2)]))
        case first =>
          by_cases hx1 : x = 1
          · subst hx1
            go_wp2_with fail
            go_loopw [5, 8, 9] (fun nv iv kv wr => ∃ (kk p : Nat) (vi : Value), kk ≤ 5 ∧ Hid (nx + kk = p) ∧ nv = .int .i64 ((p : Nat) : Int) ∧ kv = .int .i64 ((kk : Nat) : Int) ∧ vi = iv ∧ Hid (St w wr [(b, vq, Lo)] [(vi, gen nx kk), (vo, Lo)]) ∧ Hid (Akk wr g 1 y z)) (fun _ _ kv _ => 5 - (intOf kv).toNat)
            case atStart => exact ⟨0, nx, _, by decide, rfl, rfl, rfl, rfl, hS12.out.nill, hA12⟩
            case round =>
              obtain ⟨kk, p, vi, hk5, hp, rfl, rfl, rfl, hS13, hA13⟩ := hrel
              clear hS12 hA12 c0 c1 c2
              have c1 := hA13.out.c.2.1
              go_wp2_with fail
              refine (within_any _ _ _ _ (by decide) (by decide) (by decide)).mono ?_
              rintro e w13 ⟨⟨cz, hcz0, hcz5, rfl⟩, rfl⟩
              clear c1
              by_cases hcz : ((kk : Nat) : Int) < cz
              · have hp40 : p ≤ 1000 := by have := hp.out; omega
                go_upto_region 15 with fail
                have hS14' : Hid (St w (w13.alloc (.cells #[.bool false, .int .i64 0, .int .i64 0, .int .i64 (((p : Nat) : Int) + 1), .int .u64 0] 37)) [(b, vq, Lo)] [((.slice (some ⟨w13.heap.size, 0, none⟩) 1 1), [⟨false, ⟨0, 0, ((p : Nat) : Int) + 1, 0⟩⟩]), (vi, gen nx kk), (vo, Lo)]) := hS13.out.newl0 [⟨false, ⟨0, 0, ((p : Nat) : Int) + 1, 0⟩⟩] (by simp)
                have hA14 : Hid (Akk (w13.alloc (.cells #[.bool false, .int .i64 0, .int .i64 0, .int .i64 (((p : Nat) : Int) + 1), .int .u64 0] 37)) g 1 y z) := hA13.out.call (below_alloc _ _)
                have hS14 : Hid (St w (w13.alloc (.cells #[.bool false, .int .i64 0, .int .i64 0, .int .i64 (((p : Nat) : Int) + 1), .int .u64 0] 37)) [(b, vq, Lo)] [(vi, gen nx kk), ((.slice (some ⟨w13.heap.size, 0, none⟩) 1 1), [⟨false, ⟨0, 0, ((p : Nat) : Int) + 1, 0⟩⟩]), (vo, Lo)]) := hS14'.out.swapl
                clear hS14' hS13 hA13
                obtain ⟨q14, hq14⟩ := (hS14.out.l ((.slice (some ⟨w13.heap.size, 0, none⟩) 1 1), [⟨false, ⟨0, 0, ((p : Nat) : Int) + 1, 0⟩⟩]) (by simp)).rdi
                have hgl : Hid (gen nx (kk + 1) = gen nx kk ++ [⟨false, ⟨0, 0, ((p : Nat) : Int) + 1, 0⟩⟩]) := by have h := hp.out; subst h; rfl
                go_wp2_with (at_builtin; refine wpList_append_q (by rfl) _ _ rfl vi (gen nx kk) rfl hS14.out.hl (.slice (some ⟨w13.heap.size, 0, none⟩) 1 1) q14 [⟨false, ⟨0, 0, ((p : Nat) : Int) + 1, 0⟩⟩] rfl hq14 (by rw [gen_len]; simp; omega) ?_; rintro v15 w15 hq15 hg15 hf15; rw [← hgl.out] at hq15; have hA15 : Hid (Akk w15 g 1 y z) := hA14.out.grown hS14.out.hl hg15; have hS15 : Hid (St w w15 [(b, vq, Lo)] [(v15, gen nx (kk + 1)), ((.slice (some ⟨w13.heap.size, 0, none⟩) 1 1), [⟨false, ⟨0, 0, ((p : Nat) : Int) + 1, 0⟩⟩]), (vo, Lo)]) := hS14.out.app hg15 hq15 hf15; clear hq15 hg15 hf15 hS14 hA14 hq14)
                go_roundw
                case rel =>
                  exact ⟨kk + 1, p + 1, _, by omega, (by have h := hp.out; subst h; rfl : nx + (kk + 1) = p + 1), by go_num, by go_num, rfl, hS15.out.swapl.dropl, hA15⟩
                case measure => simp [intOf]; omega
              · have hgl : Hid ((gen nx kk).length = kk) := gen_len nx kk
                have hp40 : p ≤ 5 * (i + 1) := by have := hp.out; omega
                obtain ⟨a14, cc14, e14, ec14⟩ := (hS13.out.l (vi, gen nx kk) (by simp)).len
                have ee14 : vi = .slice a14 kk cc14 := by first | exact e14 | (rw [← hgl.out]; exact e14)
                clear e14
                subst ee14
                obtain ⟨a15, cc15, e15, ec15⟩ := (hS13.out.l (vo, Lo) (by simp)).len
                have ee15 : vo = .slice a15 n cc15 := by first | exact e15 | (rw [← hn.out]; exact e15)
                clear e15
                subst ee15
                go_upto_region 16 with fail
                clear hcz0 hcz5 hcz
                by_cases hz : ((n : Nat) : Int) + ((kk : Nat) : Int) ≤ z
                · have c2 := hA13.out.c.2.2
                  go_wp2_with fail
                  obtain ⟨qv, hqv⟩ := hS13.out.hl.rdi
                  refine (roomy_i _ qv (gen nx kk) MK _ hqv (by rw [hgl.out]; omega)).mono ?_
                  rintro e w16 ⟨uf, rfl, hown, b16⟩
                  have hS16 : Hid (St w w16 [(b, vq, Lo)] [(uf, gen nx kk ++ List.replicate 80 MK), ((.slice a14 kk cc14), gen nx kk), ((.slice a15 n cc15), Lo)]) := hS13.out.newl b16 (qv_own hown) (fun k hk => (hown.lt k hk).1)
                  have hA16 : Hid (Akk w16 g 1 y z) := hA13.out.call b16
                  clear hS13 hA13 hown b16 hqv c2
                  have hfl : Hid ((gen nx kk ++ List.replicate 80 MK).length = kk + 80) := by have h1 : (gen nx kk ++ List.replicate 80 MK).length = kk + 80 := (by rw [List.length_append, List.length_replicate, hgl.out]); exact h1
                  obtain ⟨a17, cc17, e17, ec17⟩ := (hS16.out.l (uf, gen nx kk ++ List.replicate 80 MK) (by simp)).len
                  have ee17 : uf = .slice a17 (kk + 80) cc17 := by first | exact e17 | (rw [← hfl.out]; exact e17)
                  clear e17
                  subst ee17
                  have hfc : kk + 80 ≤ cc17 ∧ cc17 ≤ 9223372036854775807 := by have h := ec17; rw [hfl.out] at h; exact ⟨h.1, h.2.1⟩
                  obtain ⟨hfc1, hfc2⟩ := hfc
                  have hkc : kk ≤ cc17 := by omega
                  go_upto_region 18 with fail
                  have hV : Hid (St w w16.drew [(b, vq, Lo)] [((.slice a17 (kk + 80) cc17), gen nx kk ++ List.replicate 80 MK), ((.slice a14 kk cc14), gen nx kk), ((.slice a15 n cc15), Lo)]) := hS16.out.below (Below.refl _ _).drew
                  have hAV : Hid (Akk w16.drew g 1 y z) := hA16.out.call (Below.refl _ _).drew
                  clear hS16 hA16
                  refine wp_region_held_drew (S := fun _ => True) (by kernel_rfl) trivial (fun hHeld => ?_)
                  generalize w16.drew = V at hV hAV ⊢
                  refine take_at (i := 0) (v := .pointer (some ⟨g, 2, none⟩)) rfl rfl (by kernel_rfl) (by kernel_rfl) (by kernel_rfl) (fun _ _ _ h => h) (Or.inl ⟨by rfl, fun X _ => by go_simp⟩) trivial ?_
                  try simp only [Act.put, List.setIfInBounds_toArray, List.set_cons_zero, List.set_cons_succ]
                  refine take_at (i := 2) (v := .slice a17 (kk + 80) cc17) rfl rfl (by kernel_rfl) (by kernel_rfl) (by kernel_rfl) (fun _ _ _ h => h) (Or.inl ⟨by rfl, fun X _ => by go_simp⟩) trivial ?_
                  try simp only [Act.put, List.setIfInBounds_toArray, List.set_cons_zero, List.set_cons_succ]
                  refine take_at (i := 3) (v := .slice a14 kk cc14) rfl rfl (by kernel_rfl) (by kernel_rfl) (by kernel_rfl) (fun _ _ _ h => h) (Or.inl ⟨by rfl, fun X _ => by go_simp⟩) trivial ?_
                  try simp only [Act.put, List.setIfInBounds_toArray, List.set_cons_zero, List.set_cons_succ]
                  refine take_at (i := 4) (v := .int .i64 ((kk : Nat) : Int)) rfl rfl (by kernel_rfl) (by kernel_rfl) (by kernel_rfl) (fun _ _ _ h => h) (Or.inl ⟨by rfl, fun X _ => by go_simp⟩) trivial ?_
                  try simp only [Act.put, List.setIfInBounds_toArray, List.set_cons_zero, List.set_cons_succ]
                  refine take_at (i := 5) (v := .slice a17 kk cc17) rfl rfl (by kernel_rfl) (by kernel_rfl) (by kernel_rfl) (fun _ _ _ h => h) (Or.inl ⟨by rfl, fun X _ => by go_simp⟩) trivial ?_
                  try simp only [Act.put, List.setIfInBounds_toArray, List.set_cons_zero, List.set_cons_succ]
                  refine take_at (i := 7) (v := .bool true) rfl rfl (by kernel_rfl) (by kernel_rfl) (by kernel_rfl) (fun _ _ _ h => h) (Or.inl ⟨by rfl, fun X _ => by go_simp⟩) trivial ?_
                  try simp only [Act.put, List.setIfInBounds_toArray, List.set_cons_zero, List.set_cons_succ]
                  refine wpAnyH_ready (rs := [1]) (by kernel_rfl) (by simp) ?_
                  refine AllReadyH.cons rfl (fun K hK => ?_) AllReadyH.nil
                  rw [if_pos (by rfl)]
                  have c2 := hAV.out.c.2.2
                  go_simp
                  clear c2
                  refine hK.out _ _ trivial (fun hHeld => ?_)
                  clear hK K
                  try simp only [Act.put, List.setIfInBounds_toArray, List.set_cons_zero, List.set_cons_succ]
                  have hpt : Hid (Qv V (.slice a17 kk cc17) (gen nx kk)) := by have h := hV.out.hl.take kk (by rw [hfl.out]; omega); rw [List.take_append_of_le_length (by rw [hgl.out]; exact Nat.le_refl _), List.take_of_length_le (by rw [hgl.out]; exact Nat.le_refl _)] at h; exact h
                  obtain ⟨qp, hqp⟩ := hpt.out.rdi
                  refine wpAnyH_ready (rs := [6]) (by kernel_rfl) (by simp) ?_
                  refine AllReadyH.cons rfl (fun K hK => ?_) AllReadyH.nil
                  rw [if_pos (by rfl)]
                  clear hAV
                  go_wp2_with fail
                  refine (push_is (z) (.slice a17 kk cc17) qp (gen nx kk) _ hV.out hqp (by rw [hgl.out, hn.out]; omega) (Lo ++ gen nx kk) true (.inr ⟨by rw [hgl.out, hn.out]; omega, rfl, rfl⟩)).mono ?_
                  rintro e w18 ⟨rfl, v18, hS18'⟩
                  have hS18 : Hid (St w w18 [(b, v18, (Lo ++ gen nx kk))] [((.slice a17 (kk + 80) cc17), gen nx kk ++ List.replicate 80 MK), ((.slice a14 kk cc14), gen nx kk), ((.slice a15 n cc15), Lo)]) := hS18'
                  clear hS18' hV
                  clear hpt hqp
                  go_wp2_with fail
                  refine hK.out _ _ trivial (fun hHeld => ?_)
                  clear hK K
                  try simp only [Act.put, List.setIfInBounds_toArray, List.set_cons_zero, List.set_cons_succ]
                  refine take_at (i := 8) (v := .bool false) rfl rfl (by kernel_rfl) (by kernel_rfl) (by kernel_rfl) (fun _ _ _ h => h) (Or.inl ⟨by rfl, fun X _ => by go_simp⟩) trivial ?_
                  try simp only [Act.put, List.setIfInBounds_toArray, List.set_cons_zero, List.set_cons_succ]
                  refine take_at (i := 9) (v := .bool false) rfl rfl (by kernel_rfl) (by kernel_rfl) (by kernel_rfl) (fun _ _ _ h => h) (Or.inl ⟨by rfl, fun X _ => by go_simp⟩) trivial ?_
                  try simp only [Act.put, List.setIfInBounds_toArray, List.set_cons_zero, List.set_cons_succ]
                  refine take_at (i := 10) (v := .slice a17 (kk + 80) cc17) rfl rfl (by kernel_rfl) (by kernel_rfl) (by kernel_rfl) (fun _ _ _ h => h) (Or.inl ⟨by rfl, fun X _ => by go_simp⟩) trivial ?_
                  try simp only [Act.put, List.setIfInBounds_toArray, List.set_cons_zero, List.set_cons_succ]
                  refine take_at (i := 11) (v := .slice a14 kk cc14) rfl rfl (by kernel_rfl) (by kernel_rfl) (by kernel_rfl) (fun _ _ _ h => h) (Or.inl ⟨by rfl, fun X _ => by go_simp⟩) trivial ?_
                  try simp only [Act.put, List.setIfInBounds_toArray, List.set_cons_zero, List.set_cons_succ]
                  refine take_at (i := 12) (v := .agg #[.bool true, .int .i64 0, .int .i64 0, .int .i64 0, .int .u64 0]) rfl rfl (by kernel_rfl) (by kernel_rfl) (by kernel_rfl) (fun _ _ _ h => h) (Or.inl ⟨by rfl, fun X _ => by go_simp⟩) trivial ?_
                  try simp only [Act.put, List.setIfInBounds_toArray, List.set_cons_zero, List.set_cons_succ]
                  obtain ⟨qf, hqf⟩ := hS18.out.hl.rdi
                  obtain ⟨qi, hqi⟩ := (hS18.out.l ((.slice a14 kk cc14), gen nx kk) (by simp)).rdi
                  refine wpAnyH_ready (rs := [13]) (by kernel_rfl) (by simp) ?_
                  refine AllReadyH.cons rfl (fun K hK => ?_) AllReadyH.nil
                  rw [if_pos (by rfl)]
                  go_wp2_with fail
                  refine (intact_i _ _ qf qi (gen nx kk) MK _ hqf hqi (by rw [hgl.out]; omega)).mono ?_
                  rintro e w30 ⟨rfl, b30⟩
                  have hS30 : Hid (St w w30 [(b, v18, (Lo ++ gen nx kk))] [((.slice a17 (kk + 80) cc17), gen nx kk ++ List.replicate 80 MK), ((.slice a14 kk cc14), gen nx kk), ((.slice a15 n cc15), Lo)]) := hS18.out.below b30
                  clear hS18 b30 hqf hqi
                  go_wp2_with fail
                  refine hK.out _ _ trivial (fun hHeld => ?_)
                  clear hK K
                  try simp only [Act.put, List.setIfInBounds_toArray, List.set_cons_zero, List.set_cons_succ]
                  refine take_at (i := 14) (v := .bool false) rfl rfl (by kernel_rfl) (by kernel_rfl) (by kernel_rfl) (fun _ _ _ h => h) (Or.inl ⟨by rfl, fun X _ => by go_simp⟩) trivial ?_
                  try simp only [Act.put, List.setIfInBounds_toArray, List.set_cons_zero, List.set_cons_succ]
                  refine take_at (i := 15) (v := .bool false) rfl rfl (by kernel_rfl) (by kernel_rfl) (by kernel_rfl) (fun _ _ _ h => h) (Or.inl ⟨by rfl, fun X _ => by go_simp⟩) trivial ?_
                  try simp only [Act.put, List.setIfInBounds_toArray, List.set_cons_zero, List.set_cons_succ]
                  refine wpAnyH_done (by kernel_rfl) ?_ _
                  have hS31 : Hid (St w w30 [(b, v18, (Lo ++ gen nx kk))] [((.slice a14 kk cc14), gen nx kk), ((.slice a15 n cc15), Lo)]) := hS30.out.dropl
                  clear hS30
                  go_upto_region 21 with fail
                  have hS32 : Hid (St w (w30.alloc (.cells #[] 37)) [(b, v18, (Lo ++ gen nx kk))] [((.slice (some ⟨w30.heap.size, 0, none⟩) 0 0), []), ((.slice a14 kk cc14), gen nx kk), ((.slice a15 n cc15), Lo)]) := hS31.out.newl0 [] (by decide)
                  clear hS31
                  obtain ⟨qo, hqo⟩ := (hS32.out.l ((.slice a15 n cc15), Lo) (by simp)).rdi
                  go_wp2_with (at_builtin; first | (refine wpList_append_q (by rfl) _ _ rfl (.slice (some ⟨w30.heap.size, 0, none⟩) 0 0) ([]) rfl hS32.out.hl (.slice a15 n cc15) qo (Lo) rfl hqo (by rw [hn.out]; simp; omega) ?_; rintro v33 w33 hq33 hg33 hf33; rw [List.nil_append] at hq33; clear hqo; have hS33 : Hid (St w w33 [(b, v18, (Lo ++ gen nx kk))] [(v33, Lo), ((.slice a14 kk cc14), gen nx kk), ((.slice a15 n cc15), Lo)]) := hS32.out.app hg33 hq33 hf33; clear hq33 hg33 hf33 hS32; obtain ⟨qj, hqj⟩ := (hS33.out.l ((.slice a14 kk cc14), gen nx kk) (by simp)).rdi) | (refine wpList_append_q (by rfl) _ _ rfl v33 (Lo) rfl hS33.out.hl (.slice a14 kk cc14) qj (gen nx kk) rfl hqj (by rw [hn.out, hgl.out]; omega) ?_; rintro v34 w34 hq34 hg34 hf34; clear hqj; have hS34 : Hid (St w w34 [(b, v18, (Lo ++ gen nx kk))] [(v34, Lo ++ gen nx kk), ((.slice a14 kk cc14), gen nx kk), ((.slice a15 n cc15), Lo)]) := hS33.out.app hg34 hq34 hf34; clear hq34 hg34 hf34 hS33))
                  go_meet
                  exact ⟨n + kk, p, v18, _, Lo ++ gen nx kk, (by have h1 : (Lo ++ gen nx kk).length = Lo.length + (gen nx kk).length := List.length_append; rw [hn.out, hgl.out] at h1; exact h1 : (Lo ++ gen nx kk).length = n + kk), by omega, hp40, rfl, rfl, hS34.out.swapl.dropl.swapl.dropl⟩
                · have c2 := hA13.out.c.2.2
                  go_wp2_with fail
                  obtain ⟨qv, hqv⟩ := hS13.out.hl.rdi
                  refine (roomy_i _ qv (gen nx kk) MK _ hqv (by rw [hgl.out]; omega)).mono ?_
                  rintro e w16 ⟨uf, rfl, hown, b16⟩
                  have hS16 : Hid (St w w16 [(b, vq, Lo)] [(uf, gen nx kk ++ List.replicate 80 MK), ((.slice a14 kk cc14), gen nx kk), ((.slice a15 n cc15), Lo)]) := hS13.out.newl b16 (qv_own hown) (fun k hk => (hown.lt k hk).1)
                  have hA16 : Hid (Akk w16 g 1 y z) := hA13.out.call b16
                  clear hS13 hA13 hown b16 hqv c2
                  have hfl : Hid ((gen nx kk ++ List.replicate 80 MK).length = kk + 80) := by have h1 : (gen nx kk ++ List.replicate 80 MK).length = kk + 80 := (by rw [List.length_append, List.length_replicate, hgl.out]); exact h1
                  obtain ⟨a17, cc17, e17, ec17⟩ := (hS16.out.l (uf, gen nx kk ++ List.replicate 80 MK) (by simp)).len
                  have ee17 : uf = .slice a17 (kk + 80) cc17 := by first | exact e17 | (rw [← hfl.out]; exact e17)
                  clear e17
                  subst ee17
                  have hfc : kk + 80 ≤ cc17 ∧ cc17 ≤ 9223372036854775807 := by have h := ec17; rw [hfl.out] at h; exact ⟨h.1, h.2.1⟩
                  obtain ⟨hfc1, hfc2⟩ := hfc
                  have hkc : kk ≤ cc17 := by omega
                  go_upto_region 18 with fail
                  have hV : Hid (St w w16.drew [(b, vq, Lo)] [((.slice a17 (kk + 80) cc17), gen nx kk ++ List.replicate 80 MK), ((.slice a14 kk cc14), gen nx kk), ((.slice a15 n cc15), Lo)]) := hS16.out.below (Below.refl _ _).drew
                  have hAV : Hid (Akk w16.drew g 1 y z) := hA16.out.call (Below.refl _ _).drew
                  clear hS16 hA16
                  refine wp_region_held_drew (S := fun _ => True) (by kernel_rfl) trivial (fun hHeld => ?_)
                  generalize w16.drew = V at hV hAV ⊢
                  refine take_at (i := 0) (v := .pointer (some ⟨g, 2, none⟩)) rfl rfl (by kernel_rfl) (by kernel_rfl) (by kernel_rfl) (fun _ _ _ h => h) (Or.inl ⟨by rfl, fun X _ => by go_simp⟩) trivial ?_
                  try simp only [Act.put, List.setIfInBounds_toArray, List.set_cons_zero, List.set_cons_succ]
                  refine take_at (i := 2) (v := .slice a17 (kk + 80) cc17) rfl rfl (by kernel_rfl) (by kernel_rfl) (by kernel_rfl) (fun _ _ _ h => h) (Or.inl ⟨by rfl, fun X _ => by go_simp⟩) trivial ?_
                  try simp only [Act.put, List.setIfInBounds_toArray, List.set_cons_zero, List.set_cons_succ]
                  refine take_at (i := 3) (v := .slice a14 kk cc14) rfl rfl (by kernel_rfl) (by kernel_rfl) (by kernel_rfl) (fun _ _ _ h => h) (Or.inl ⟨by rfl, fun X _ => by go_simp⟩) trivial ?_
                  try simp only [Act.put, List.setIfInBounds_toArray, List.set_cons_zero, List.set_cons_succ]
                  refine take_at (i := 4) (v := .int .i64 ((kk : Nat) : Int)) rfl rfl (by kernel_rfl) (by kernel_rfl) (by kernel_rfl) (fun _ _ _ h => h) (Or.inl ⟨by rfl, fun X _ => by go_simp⟩) trivial ?_
                  try simp only [Act.put, List.setIfInBounds_toArray, List.set_cons_zero, List.set_cons_succ]
                  refine take_at (i := 5) (v := .slice a17 kk cc17) rfl rfl (by kernel_rfl) (by kernel_rfl) (by kernel_rfl) (fun _ _ _ h => h) (Or.inl ⟨by rfl, fun X _ => by go_simp⟩) trivial ?_
                  try simp only [Act.put, List.setIfInBounds_toArray, List.set_cons_zero, List.set_cons_succ]
                  refine take_at (i := 7) (v := .bool false) rfl rfl (by kernel_rfl) (by kernel_rfl) (by kernel_rfl) (fun _ _ _ h => h) (Or.inl ⟨by rfl, fun X _ => by go_simp⟩) trivial ?_
                  try simp only [Act.put, List.setIfInBounds_toArray, List.set_cons_zero, List.set_cons_succ]
                  refine wpAnyH_ready (rs := [1]) (by kernel_rfl) (by simp) ?_
                  refine AllReadyH.cons rfl (fun K hK => ?_) AllReadyH.nil
                  rw [if_pos (by rfl)]
                  have c2 := hAV.out.c.2.2
                  go_simp
                  clear c2
                  refine hK.out _ _ trivial (fun hHeld => ?_)
                  clear hK K
                  try simp only [Act.put, List.setIfInBounds_toArray, List.set_cons_zero, List.set_cons_succ]
                  have hpt : Hid (Qv V (.slice a17 kk cc17) (gen nx kk)) := by have h := hV.out.hl.take kk (by rw [hfl.out]; omega); rw [List.take_append_of_le_length (by rw [hgl.out]; exact Nat.le_refl _), List.take_of_length_le (by rw [hgl.out]; exact Nat.le_refl _)] at h; exact h
                  obtain ⟨qp, hqp⟩ := hpt.out.rdi
                  refine wpAnyH_ready (rs := [6]) (by kernel_rfl) (by simp) ?_
                  refine AllReadyH.cons rfl (fun K hK => ?_) AllReadyH.nil
                  rw [if_pos (by rfl)]
                  clear hAV
                  go_wp2_with fail
                  refine (push_is (z) (.slice a17 kk cc17) qp (gen nx kk) _ hV.out hqp (by rw [hgl.out, hn.out]; omega) Lo false (.inl ⟨by rw [hgl.out, hn.out]; omega, rfl, rfl⟩)).mono ?_
                  rintro e w18 ⟨rfl, v18, hS18'⟩
                  have hS18 : Hid (St w w18 [(b, v18, Lo)] [((.slice a17 (kk + 80) cc17), gen nx kk ++ List.replicate 80 MK), ((.slice a14 kk cc14), gen nx kk), ((.slice a15 n cc15), Lo)]) := hS18'
                  clear hS18' hV
                  clear hpt hqp
                  go_wp2_with fail
                  refine hK.out _ _ trivial (fun hHeld => ?_)
                  clear hK K
                  try simp only [Act.put, List.setIfInBounds_toArray, List.set_cons_zero, List.set_cons_succ]
                  refine take_at (i := 8) (v := .bool false) rfl rfl (by kernel_rfl) (by kernel_rfl) (by kernel_rfl) (fun _ _ _ h => h) (Or.inl ⟨by rfl, fun X _ => by go_simp⟩) trivial ?_
                  try simp only [Act.put, List.setIfInBounds_toArray, List.set_cons_zero, List.set_cons_succ]
                  refine take_at (i := 9) (v := .bool false) rfl rfl (by kernel_rfl) (by kernel_rfl) (by kernel_rfl) (fun _ _ _ h => h) (Or.inl ⟨by rfl, fun X _ => by go_simp⟩) trivial ?_
                  try simp only [Act.put, List.setIfInBounds_toArray, List.set_cons_zero, List.set_cons_succ]
                  refine take_at (i := 10) (v := .slice a17 (kk + 80) cc17) rfl rfl (by kernel_rfl) (by kernel_rfl) (by kernel_rfl) (fun _ _ _ h => h) (Or.inl ⟨by rfl, fun X _ => by go_simp⟩) trivial ?_
                  try simp only [Act.put, List.setIfInBounds_toArray, List.set_cons_zero, List.set_cons_succ]
                  refine take_at (i := 11) (v := .slice a14 kk cc14) rfl rfl (by kernel_rfl) (by kernel_rfl) (by kernel_rfl) (fun _ _ _ h => h) (Or.inl ⟨by rfl, fun X _ => by go_simp⟩) trivial ?_
                  try simp only [Act.put, List.setIfInBounds_toArray, List.set_cons_zero, List.set_cons_succ]
                  refine take_at (i := 12) (v := .agg #[.bool true, .int .i64 0, .int .i64 0, .int .i64 0, .int .u64 0]) rfl rfl (by kernel_rfl) (by kernel_rfl) (by kernel_rfl) (fun _ _ _ h => h) (Or.inl ⟨by rfl, fun X _ => by go_simp⟩) trivial ?_
                  try simp only [Act.put, List.setIfInBounds_toArray, List.set_cons_zero, List.set_cons_succ]
                  obtain ⟨qf, hqf⟩ := hS18.out.hl.rdi
                  obtain ⟨qi, hqi⟩ := (hS18.out.l ((.slice a14 kk cc14), gen nx kk) (by simp)).rdi
                  refine wpAnyH_ready (rs := [13]) (by kernel_rfl) (by simp) ?_
                  refine AllReadyH.cons rfl (fun K hK => ?_) AllReadyH.nil
                  rw [if_pos (by rfl)]
                  go_wp2_with fail
                  refine (intact_i _ _ qf qi (gen nx kk) MK _ hqf hqi (by rw [hgl.out]; omega)).mono ?_
                  rintro e w30 ⟨rfl, b30⟩
                  have hS30 : Hid (St w w30 [(b, v18, Lo)] [((.slice a17 (kk + 80) cc17), gen nx kk ++ List.replicate 80 MK), ((.slice a14 kk cc14), gen nx kk), ((.slice a15 n cc15), Lo)]) := hS18.out.below b30
                  clear hS18 b30 hqf hqi
                  go_wp2_with fail
                  refine hK.out _ _ trivial (fun hHeld => ?_)
                  clear hK K
                  try simp only [Act.put, List.setIfInBounds_toArray, List.set_cons_zero, List.set_cons_succ]
                  refine take_at (i := 14) (v := .bool false) rfl rfl (by kernel_rfl) (by kernel_rfl) (by kernel_rfl) (fun _ _ _ h => h) (Or.inl ⟨by rfl, fun X _ => by go_simp⟩) trivial ?_
                  try simp only [Act.put, List.setIfInBounds_toArray, List.set_cons_zero, List.set_cons_succ]
                  refine take_at (i := 15) (v := .bool false) rfl rfl (by kernel_rfl) (by kernel_rfl) (by kernel_rfl) (fun _ _ _ h => h) (Or.inl ⟨by rfl, fun X _ => by go_simp⟩) trivial ?_
                  try simp only [Act.put, List.setIfInBounds_toArray, List.set_cons_zero, List.set_cons_succ]
                  refine wpAnyH_done (by kernel_rfl) ?_ _
                  have hS31 : Hid (St w w30 [(b, v18, Lo)] [((.slice a14 kk cc14), gen nx kk), ((.slice a15 n cc15), Lo)]) := hS30.out.dropl
                  clear hS30
                  go_wp2_with fail
                  go_meet
                  exact ⟨n, p, v18, _, Lo, hn, by omega, hp40, rfl, rfl, hS31.out.dropl⟩
          by_cases hx2 : x = 2
          · subst hx2
            obtain ⟨a13, cc13, e13, ec13⟩ := (hS12.out.l (vo, Lo) (by simp)).len
            have ee13 : vo = .slice a13 n cc13 := by first | exact e13 | (rw [← hn.out]; exact e13)
            clear e13
            subst ee13
            have hoc1 : n ≤ cc13 ∧ cc13 ≤ 9223372036854775807 := by have h := ec13; rw [hn.out] at h; exact ⟨h.1, h.2.1⟩
            obtain ⟨hoc1, hoc2⟩ := hoc1
            obtain ⟨kk, hkk, hkb⟩ : ∃ kk, kk ≤ n ∧ ((y < 0 ∧ kk = 0) ∨ (0 ≤ y ∧ y ≤ ((n : Nat) : Int) ∧ y = ((kk : Nat) : Int)) ∨ (((n : Nat) : Int) < y ∧ kk = n)) := by
              by_cases h1 : y < 0
              · exact ⟨0, Nat.zero_le _, .inl ⟨h1, rfl⟩⟩
              · by_cases h2 : y ≤ ((n : Nat) : Int)
                · exact ⟨y.toNat, by omega, .inr (.inl ⟨by omega, h2, by omega⟩)⟩
                · exact ⟨n, Nat.le_refl _, .inr (.inr ⟨by omega, rfl⟩)⟩
            have hkh : Hid _ := hkb
            go_upto_region 23 with fail
            go_cut [12] (fun x wx => x = .int .i64 ((kk : Nat) : Int) ∧ wx = w12)
            case first =>
              rcases hkb with ⟨h4, rfl⟩ | ⟨h4, h5, rfl⟩ | ⟨h4, rfl⟩
              · go_wp2_with fail
                go_meet
                exact ⟨rfl, rfl⟩
              · go_wp2_with fail
                go_meet
                exact ⟨rfl, rfl⟩
              · go_wp2_with fail
                go_meet
                exact ⟨rfl, rfl⟩
            obtain ⟨rfl, he⟩ := hcut
            obtain rfl := he.symm
            clear hkb c0 c1 c2
            have hkc : kk ≤ cc13 := by omega
            go_upto_region 24 with fail
            have hV : Hid (St w w12.drew [(b, vq, Lo)] [((.slice a13 n cc13), Lo)]) := hS12.out.below (Below.refl _ _).drew
            have hAV : Hid (Akk w12.drew g 2 y z) := hA12.out.call (Below.refl _ _).drew
            clear hS12 hA12
            refine wp_region_held_drew (S := fun _ => True) (by kernel_rfl) trivial (fun hHeld => ?_)
            generalize w12.drew = V at hV hAV ⊢
            refine take_at (i := 0) (v := .pointer (some ⟨g, 1, none⟩)) rfl rfl (by kernel_rfl) (by kernel_rfl) (by kernel_rfl) (fun _ _ _ h => h) (Or.inl ⟨by rfl, fun X _ => by go_simp⟩) trivial ?_
            try simp only [Act.put, List.setIfInBounds_toArray, List.set_cons_zero, List.set_cons_succ]
            refine take_at (i := 3) (v := .slice a13 n cc13) rfl rfl (by kernel_rfl) (by kernel_rfl) (by kernel_rfl) (fun _ _ _ h => h) (Or.inl ⟨by rfl, fun X _ => by go_simp⟩) trivial ?_
            try simp only [Act.put, List.setIfInBounds_toArray, List.set_cons_zero, List.set_cons_succ]
            refine take_at (i := 4) (v := .int .i64 ((kk : Nat) : Int)) rfl rfl (by kernel_rfl) (by kernel_rfl) (by kernel_rfl) (fun _ _ _ h => h) (Or.inl ⟨by rfl, fun X _ => by go_simp⟩) trivial ?_
            try simp only [Act.put, List.setIfInBounds_toArray, List.set_cons_zero, List.set_cons_succ]
            refine take_at (i := 5) (v := .slice a13 kk cc13) rfl rfl (by kernel_rfl) (by kernel_rfl) (by kernel_rfl) (fun _ _ _ h => h) (Or.inl ⟨by rfl, fun X _ => by go_simp⟩) trivial ?_
            try simp only [Act.put, List.setIfInBounds_toArray, List.set_cons_zero, List.set_cons_succ]
            refine wpAnyH_ready (rs := [1]) (by kernel_rfl) (by simp) ?_
            refine AllReadyH.cons rfl (fun K hK => ?_) AllReadyH.nil
            rw [if_pos (by rfl)]
            have c1 := hAV.out.c.2.1
            go_simp
            clear c1
            refine hK.out _ _ trivial (fun hHeld => ?_)
            clear hK K
            try simp only [Act.put, List.setIfInBounds_toArray, List.set_cons_zero, List.set_cons_succ]
            refine wpAnyH_ready (rs := [2]) (by kernel_rfl) (by simp) ?_
            refine AllReadyH.cons rfl (fun K hK => ?_) AllReadyH.nil
            rw [if_pos (by rfl)]
            clear hAV
            go_wp2_with fail
            refine (pop_is (y) _ hV.out (by have := hn.out; omega) (kk) (by rw [hn.out]; exact hkh.out)).mono ?_
            rintro e w14 ⟨u14, v14, rfl, hS14'⟩
            have hS14 : Hid (St w w14 [(b, v14, Lo.drop kk)] [(u14, Lo.take kk), ((.slice a13 n cc13), Lo)]) := hS14'
            clear hS14' hV
            go_wp2_with fail
            refine hK.out _ _ trivial (fun hHeld => ?_)
            clear hK K
            try simp only [Act.put, List.setIfInBounds_toArray, List.set_cons_zero, List.set_cons_succ]
            have hS15 : Hid (St w w14 [(b, v14, Lo.drop kk)] [((.slice a13 n cc13), Lo), (u14, Lo.take kk)]) := hS14.out.swapl
            clear hS14
            obtain ⟨qa, ha⟩ := (hS15.out.l (u14, Lo.take kk) (by simp)).rdi
            obtain ⟨qb, hb2⟩ := (hS15.out.hl.take kk (by have := hn.out; omega)).rdi
            refine wpAnyH_ready (rs := [6]) (by kernel_rfl) (by simp) ?_
            refine AllReadyH.cons rfl (fun K hK => ?_) AllReadyH.nil
            rw [if_pos (by rfl)]
            go_wp2_with fail
            refine (same_i _ _ qa qb _ _ ha hb2).mono ?_
            rintro e w30 ⟨rfl, b30⟩
            have hS30 : Hid (St w w30 [(b, v14, Lo.drop kk)] [((.slice a13 n cc13), Lo), (u14, Lo.take kk)]) := hS15.out.below b30
            clear hS15 b30 ha hb2
            go_wp2_with fail
            refine hK.out _ _ trivial (fun hHeld => ?_)
            clear hK K
            try simp only [Act.put, List.setIfInBounds_toArray, List.set_cons_zero, List.set_cons_succ]
            refine take_at (i := 7) (v := .bool false) rfl rfl (by kernel_rfl) (by kernel_rfl) (by kernel_rfl) (fun _ _ _ h => h) (Or.inl ⟨by rfl, fun X _ => by go_simp⟩) trivial ?_
            try simp only [Act.put, List.setIfInBounds_toArray, List.set_cons_zero, List.set_cons_succ]
            refine wpAnyH_done (by kernel_rfl) ?_ _
            have hS31 : Hid (St w w30 [(b, v14, Lo.drop kk)] [(u14, Lo.take kk), ((.slice a13 n cc13), Lo)]) := hS30.out.swapl
            clear hS30
            have hS32 : Hid (St w w30 [(b, v14, Lo.drop kk)] [((.slice a13 n cc13), Lo)]) := hS31.out.dropl
            clear hS31
            have hlen : Hid ((Lo.drop kk).length = n - kk) := by have h1 := List.length_drop (i := kk) (l := Lo); rw [hn.out] at h1; exact h1
            go_upto_region 26 with fail
            go_wp2_with fail
            · go_meet
              exact ⟨n - kk, nx, _, _, Lo.drop kk, hlen, by omega, by omega, rfl, rfl, cut_part hS32.out kk (by have := hn.out; omega) _ _ (by first | (rw [if_pos (by omega)]) | (rw [if_neg (by omega)])) (by omega)⟩
            · go_meet
              exact ⟨n - kk, nx, _, _, Lo.drop kk, hlen, by omega, by omega, rfl, rfl, cut_part hS32.out kk (by have := hn.out; omega) _ _ (by first | (rw [if_pos (by omega)]) | (rw [if_neg (by omega)])) (by omega)⟩
          by_cases hx3 : x = 3
          · subst hx3
            clear c0 c1 c2 hA12
            have cq := hS12.out.hd.2.1.c
            go_wp2_with fail
            refine (split_is vq Lo _ hS12.out.hd.2.2 (by have := hn.out; omega)).mono ?_
            rintro e w14 ⟨u14, rfl, hu14, b14, hf14⟩
            have hS14 : Hid (St w w14 [(b, vq, Lo)] [(u14, Lo), (vo, Lo)]) := hS12.out.newl b14 hu14 hf14
            clear hS12 b14 hu14 hf14 cq
            obtain ⟨a15, cc15, e15, ec15⟩ := (hS14.out.l (u14, Lo) (by simp)).len
            have ee15 : u14 = .slice a15 n cc15 := by first | exact e15 | (rw [← hn.out]; exact e15)
            clear e15
            subst ee15
            go_upto_region 29 with fail
            refine world_gen (fun W => Hid (St w W [(w14.heap.size, (.slice a15 n cc15), Lo), (b, vq, Lo)] [(vo, Lo)])) hS14.out.toq1 ?_
            rintro w24 hS24
            obtain ⟨bo, hbo⟩ : ∃ b, Hid (w14.heap.size = b) := ⟨_, rfl⟩
            rw [hbo.out] at hS24 ⊢
            clear hS14 hbo
            have hS25 : Hid (St w w24 [(b, vq, Lo), (bo, (.slice a15 n cc15), Lo)] [(vo, Lo)]) := hS24.out.swapq
            clear hS24
            obtain ⟨L3, ok3, hL3, hl3⟩ : ∃ L3 ok, (((99 : Int) < ((Lo.length + [MK].length : Nat) : Int) ∧ ok = false ∧ L3 = Lo) ∨ (((Lo.length + [MK].length : Nat) : Int) ≤ 99 ∧ ok = true ∧ L3 = Lo ++ [MK])) ∧ L3.length ≤ 1000 := by
              have h := hn.out
              by_cases hd : ((Lo.length + [MK].length : Nat) : Int) ≤ 99
              · exact ⟨_, _, .inr ⟨hd, rfl, rfl⟩, by rw [List.length_append]; simp; omega⟩
              · exact ⟨_, _, .inl ⟨by omega, rfl, rfl⟩, by omega⟩
            have hL3h : Hid _ := hL3
            clear hL3
            go_wp2_with fail
            have hS26 : Hid (St w (w24.alloc (.cells #[.bool true, .int .i64 0, .int .i64 0, .int .i64 0, .int .u64 0] 37)) [(b, vq, Lo), (bo, (.slice a15 n cc15), Lo)] [((.slice (some ⟨w24.heap.size, 0, none⟩) 1 1), [MK]), (vo, Lo)]) := hS25.out.newl0 [MK] (by decide)
            clear hS25
            obtain ⟨q26, hq26⟩ := hS26.out.hl.rdi
            skip
            refine (push_is (99) (.slice (some ⟨w24.heap.size, 0, none⟩) 1 1) q26 [MK] _ hS26.out hq26 (by have := hn.out; simp; omega) L3 ok3 hL3h.out).mono ?_
            rintro e w27 ⟨rfl, v27, hS27'⟩
            have hS27 : Hid (St w w27 [(b, v27, L3), (bo, (.slice a15 n cc15), Lo)] [((.slice (some ⟨w24.heap.size, 0, none⟩) 1 1), [MK]), (vo, Lo)]) := hS27'
            clear hS27' hS26
            clear hq26 hL3h
            obtain ⟨k3, hk3⟩ : ∃ k : Nat, ((50 : Int) < 0 ∧ k = 0) ∨ (0 ≤ (50 : Int) ∧ (50 : Int) ≤ ((L3.length : Nat) : Int) ∧ (50 : Int) = ((k : Nat) : Int)) ∨ (((L3.length : Nat) : Int) < 50 ∧ k = L3.length) := by
              by_cases hd : (50 : Int) ≤ ((L3.length : Nat) : Int)
              · exact ⟨50, .inr (.inl ⟨by decide, hd, rfl⟩)⟩
              · exact ⟨L3.length, .inr (.inr ⟨by omega, rfl⟩)⟩
            have hk3h : Hid _ := hk3
            clear hk3
            go_wp2_with fail
            refine (pop_is (50) _ hS27.out (by omega) (k3) hk3h.out).mono ?_
            rintro e w28 ⟨u28, v28, rfl, hS28'⟩
            have hS28 : Hid (St w w28 [(b, v28, L3.drop k3), (bo, (.slice a15 n cc15), Lo)] [(u28, L3.take k3), ((.slice (some ⟨w24.heap.size, 0, none⟩) 1 1), [MK]), (vo, Lo)]) := hS28'
            clear hS28' hS27
            have hS29 : Hid (St w w28 [(bo, (.slice a15 n cc15), Lo), (b, v28, L3.drop k3)] [(u28, L3.take k3), ((.slice (some ⟨w24.heap.size, 0, none⟩) 1 1), [MK]), (vo, Lo)]) := hS28.out.swapq
            clear hS28
            have d0 := hS29.out.hd.2.1.c
            have d1 := (hS29.out.q (b, v28, L3.drop k3) (by simp)).2.1.c
            have f1 := (hS29.out.q (b, v28, L3.drop k3) (by simp)).2.1.free 0
            clear hk3h hl3
            go_wp2_with fail
            go_meet
            exact ⟨n, nx, _, vo, Lo, hn, by omega, by omega, rfl, rfl, hS29.out.assign.dropl.dropl⟩
          go_wp2_with fail
          go_meet
          exact ⟨n, nx, vq, vo, Lo, hn, by omega, by omega, rfl, rfl, hS12⟩
        clear hS12 hA12 c0 c1 c2
        obtain ⟨n2, nx2, vq2, vo2, L2, hn2, hn25, hx25, rfl, rfl, hS20⟩ := hcut
        obtain ⟨a21, cc21, e21, ec21⟩ := (hS20.out.l (vo2, L2) (by simp)).len
        have ee21 : vo2 = .slice a21 n2 cc21 := by first | exact e21 | (rw [← hn2.out]; exact e21)
        clear e21
        subst ee21
        have c22 := (hS20.out.q (b, vq2, L2) (by simp)).2.1.c
        go_wp2_with fail
        refine (all_is vq2 (L2) _ (hS20.out.q (b, vq2, L2) (by simp)).2.2 (by have := hn2.out; omega)).mono ?_
        rintro e w22 ⟨u22, rfl, hu22, b22, hf22⟩
        have hS22 : Hid (St w w22 [(b, vq2, L2)] [(u22, L2), ((.slice a21 n2 cc21), L2)]) := hS20.out.newl b22 hu22 hf22
        clear hS20 b22 hu22 hf22 c22
        obtain ⟨a23, cc23, e23, ec23⟩ := (hS22.out.l (u22, L2) (by simp)).len
        have ee23 : u22 = .slice a23 n2 cc23 := by first | exact e23 | (rw [← hn2.out]; exact e23)
        clear e23
        subst ee23
        have c24 := (hS22.out.q (b, vq2, L2) (by simp)).2.1.c
        go_wp2_with fail
        refine (waiting_is vq2 (L2) _ (hS22.out.q (b, vq2, L2) (by simp)).2.2).mono ?_
        rintro e w24 ⟨rfl, b24⟩
        rw [hn2.out]
        have hS24 : Hid (St w w24 [(b, vq2, L2)] [((.slice a23 n2 cc23), L2), ((.slice a21 n2 cc21), L2)]) := hS22.out.below b24
        clear hS22 b24 c24
        obtain ⟨p25, hp25⟩ := (hS24.out.l ((.slice a23 n2 cc23), L2) (by simp)).rdi
        obtain ⟨r25, hr25⟩ := (hS24.out.l ((.slice a21 n2 cc21), L2) (by simp)).rdi
        go_wp2_with fail
        refine (same_i _ _ p25 r25 (L2) _ hp25 hr25).mono ?_
        rintro e w25 ⟨rfl, b25⟩
        have hS25 : Hid (St w w25 [(b, vq2, L2)] [((.slice a23 n2 cc23), L2), ((.slice a21 n2 cc21), L2)]) := hS24.out.below b25
        clear hS24 b25 hp25 hr25
        go_wp2_with fail
        go_loopw [125] (fun jv wr => ∃ (j : Nat) (X : List Inp), j ≤ n2 ∧ jv = .int .i64 ((j : Nat) : Int) ∧ Hid (X.length = n2) ∧ Hid (St w wr [(b, vq2, L2)] [((.slice a23 n2 cc23), X), ((.slice a21 n2 cc21), L2)])) (fun jv _ => n2 - (intOf jv).toNat)
        case atStart => exact ⟨0, L2, Nat.zero_le _, rfl, hn2, hS25⟩
        case round =>
          obtain ⟨j, X, hj, rfl, hXl, hS70⟩ := hrel
          clear hS25
          by_cases hjn : j < n2
          · obtain ⟨g5, off5, hae⟩ := hS70.out.hl.addr (by rw [hXl.out]; omega)
            subst hae
            obtain ⟨hov, hgr, hfz, d0, d1, d2, d3, d4, q0, q1, q2, q3, q4⟩ := hS70.out.hl.over j (by rw [hXl.out]; exact hjn) ZM
            have f0 := hfz (off5 + j * 5)
            have f1 := hfz (off5 + j * 5 + 1)
            have f2 := hfz (off5 + j * 5 + 2)
            have f3 := hfz (off5 + j * 5 + 3)
            have f4 := hfz (off5 + j * 5 + 4)
            have hS71 := hS70.out.app hgr hov (fun k hk => .inl hk)
            have hS72 : Hid _ := hS71
            have hXl2 : Hid ((X.set j ZM).length = n2) := by rw [List.length_set]; exact hXl
            have hcc : n2 ≤ cc23 := by have h := hS70.out.hl.len; obtain ⟨_, _, e, h1, _⟩ := h; injection e with _ e2 e3; omega
            have hcc2 : cc23 ≤ 9223372036854775807 := by have h := hS70.out.hl.len; obtain ⟨_, _, e, _, h1, _⟩ := h; injection e with _ e2 e3; omega
            clear hov hgr hfz hS71 hS70
            go_wp2_with fail
            go_roundw
            case rel => exact ⟨j + 1, _, by omega, by go_num, hXl2, hS72⟩
            case measure => simp [intOf]; omega
          · obtain rfl : n2 = j := by omega
            have c71 := (hS70.out.q (b, vq2, L2) (by simp)).2.1.c
            go_wp2_with fail
            refine (all_is vq2 (L2) _ (hS70.out.q (b, vq2, L2) (by simp)).2.2 (by have := hn2.out; omega)).mono ?_
            rintro e w71 ⟨u71, rfl, hu71, b71, hf71⟩
            have hS71 : Hid (St w w71 [(b, vq2, L2)] [(u71, L2), ((.slice a23 n2 cc23), X), ((.slice a21 n2 cc21), L2)]) := hS70.out.newl b71 hu71 hf71
            clear hS70 b71 hu71 hf71 c71
            obtain ⟨p72, hp72⟩ := (hS71.out.l (u71, L2) (by simp)).rdi
            obtain ⟨r72, hr72⟩ := (hS71.out.l ((.slice a21 n2 cc21), L2) (by simp)).rdi
            go_wp2_with fail
            refine (same_i _ _ p72 r72 (L2) _ hp72 hr72).mono ?_
            rintro e w72 ⟨rfl, b72⟩
            have hS72 : Hid (St w w72 [(b, vq2, L2)] [(u71, L2), ((.slice a23 n2 cc23), X), ((.slice a21 n2 cc21), L2)]) := hS71.out.below b72
            clear hS71 b72 hp72 hr72
            go_wp2_with fail
            go_roundw
            case rel => exact ⟨i + 1, n2, nx2, _, _, L2, by omega, by omega, hn2, hn25, hx25, rfl, rfl, by go_num, hS72.out.dropl.dropl⟩
            case measure => simp [intOf]; omega
      · go_wp2_with fail
        refine (runs_is _).mono ?_
        rintro e w11 ⟨rfl, b11⟩
        have hB : Hid (Below w.heap.size w w11) := below_call hS10.out.b b11
        clear hS10 b11
        go_wp2_with fail
        go_ret
        exact ⟨rfl, hB.out⟩
    · go_wp2_with fail
      refine (runs_is _).mono ?_
      rintro e w11 ⟨rfl, b11⟩
      have hB : Hid (Below w.heap.size w w11) := below_call hS10.out.b b11
      clear hS10 b11
      go_wp2_with fail
      go_ret
      exact ⟨rfl, hB.out⟩
end Go.Proofs.Ytmkdhgjnfnfliaa
