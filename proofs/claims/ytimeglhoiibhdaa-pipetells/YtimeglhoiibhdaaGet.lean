/- What vint.Get answers, of any bytes: all ints, in new memory, or none. -/
import Derived.Test.YtimeglhoiibhdaaNext
namespace Go.Proofs.Ytimeglhoiibhdaa
open Go.RowKit M

namespace M
/-- What Get tells: the ints, if the bytes are all ints'. -/
def got (b : List Nat) : Option (List Int) := get b.length b
theorem get_fuel : ∀ (f g : Nat) (b : List Nat), b.length ≤ f → b.length ≤ g → get f b = get g b
  | f, g, [], _, _ => by cases f <;> cases g <;> rfl
  | 0, _, _ :: _, h, _ => by simp at h
  | _, 0, _ :: _, _, h => by simp at h
  | f + 1, g + 1, c :: r, hf, hg => by
    rw [get, get]
    cases hn : next (c :: r) with
    | none => rfl
    | some p =>
      obtain ⟨u, k⟩ := p
      simp only
      by_cases hk : k = 0
      · exfalso
        subst hk
        unfold next at hn
        cases hd : dec (c :: r) with
        | none => rw [hd] at hn; simp at hn
        | some q =>
          obtain ⟨v, j⟩ := q
          rw [hd] at hn
          simp only at hn
          split at hn
          · injection hn with hn
            injection hn with h1 h2
            subst h1 h2
            rw [dec] at hd
            split at hd
            · simp at hd
            · split at hd
              · simp at hd
              · split at hd
                · simp at hd
                · simp at hd
          · simp at hn
      · rw [get_fuel f g ((c :: r).drop k) (by simp at *; omega) (by simp at *; omega)]
theorem got_nil : got [] = some [] := rfl
theorem got_step (b : List Nat) (hb : ∀ c ∈ b, c < 256) (h : b ≠ []) (n : Int) (u : Nat) (hn : nx b = (n, u)) (hu : u ≠ 0) : u ≤ b.length ∧ Fits n ∧ got b = (got (b.drop u)).map fun l => n :: l := by
  unfold nx at hn
  cases hx : next b with
  | none => rw [hx] at hn; simp at hn; omega
  | some p =>
    obtain ⟨x, k⟩ := p
    rw [hx] at hn
    injection hn with h1 h2
    subst h1 h2
    obtain ⟨g1, g2, g3, g4⟩ := next_some b x k hb hx
    refine ⟨g3, unzz_fits x g1, ?_⟩
    cases b with
    | nil => exact absurd rfl h
    | cons c r =>
      unfold got
      rw [List.length_cons, get, hx]
      simp only
      rw [get_fuel r.length ((c :: r).drop k).length ((c :: r).drop k) (by simp; omega) (Nat.le_refl _)]
theorem got_stop (b : List Nat) (h : b ≠ []) (n : Int) (hn : nx b = (n, 0)) (hb : ∀ c ∈ b, c < 256) : got b = none := by
  unfold nx at hn
  cases hx : next b with
  | none =>
    cases b with
    | nil => exact absurd rfl h
    | cons c r =>
      unfold got
      rw [List.length_cons, get, hx]
  | some p =>
    obtain ⟨x, k⟩ := p
    rw [hx] at hn
    injection hn with h1 h2
    subst h1 h2
    obtain ⟨_, _, _, g4⟩ := next_some b x 0 hb hx
    have := leb_pos x
    omega
theorem got_put (l : List Int) (h : ∀ n ∈ l, Fits n) : got (put l) = some l := get_put l _ h (Nat.le_refl _)
theorem got_some (b : List Nat) (l : List Int) (hb : ∀ c ∈ b, c < 256) (h : got b = some l) : put l = b ∧ ∀ n ∈ l, Fits n := get_some _ b l hb h
theorem got_len (b : List Nat) (l : List Int) (hb : ∀ c ∈ b, c < 256) (h : got b = some l) : l.length ≤ b.length := by
  have h1 := (got_some b l hb h).1
  rw [← h1]
  clear h h1 hb
  induction l with
  | nil => simp
  | cons n l ih =>
    have h1 := leb_pos (zz n)
    have h2 : (put (n :: l)).length = (leb (zz n)).length + (put l).length := by rw [put_cons, List.length_append]
    rw [h2, List.length_cons]
    omega

end M
/-- A part of what is read. -/
theorem Rd.drop {k : IntKind} {w : World} {b off len cap : Nat} {zs : List Int} (h : Rd k w (.slice (some ⟨b, off, none⟩) len cap) zs) (u : Nat) (hu : u ≤ zs.length) : Rd k w (.slice (some ⟨b, off + u, none⟩) (zs.length - u) (cap - u)) (zs.drop u) := by
  obtain ⟨h1, ao, cap', he, h2, h3, hc⟩ := h
  injection he with e1 e2 e3
  subst e1 e3
  have hl : (zs.drop u).length = zs.length - u := by simp
  refine ⟨by omega, _, _, by rw [hl], by omega, by omega, fun hn => ⟨b, off + u, rfl, fun j hj => ?_⟩⟩
  obtain ⟨b', off', hao, hcell⟩ := hc (by omega)
  injection hao with hao
  injection hao with e1 e2 e3
  subst e1 e2
  rw [Nat.add_assoc, hcell (u + j) (by omega)]
  simp [List.getD_eq_getElem?_getD]
theorem Rd.empty {k : IntKind} {w : World} {a : Option Addr} {cap : Nat} (h : cap ≤ 9223372036854775807) : Rd k w (.slice a 0 cap) [] := ⟨by simp, a, cap, rfl, by simp, h, fun h => absurd rfl h⟩

def tup (u : Value) (ok : Bool) : Ending := .returned (.tuple #[u, .bool ok])
set_option maxHeartbeats 1000000 in
set_option maxRecDepth 100000 in
/-- vint.Get. -/
theorem get_any (v : Value) (bs : List Nat) (w : World) (hv : Rd .u8 w v (toI bs)) (hb : ∀ c ∈ bs, c < 256) (hl : bs.length ≤ 1000) :
    Calls Try.prog 25 #[v] w fun e w' => (∃ l u, got bs = some l ∧ e = .returned (.tuple #[u, .bool true]) ∧ w'.ownsRow w.heap.size 3 1 u l.length (iv l) ∧ Below w.heap.size w w') ∨ (got bs = none ∧ e = .returned (.tuple #[.slice none 0 0, .bool false]) ∧ Below w.heap.size w w') := by
  obtain ⟨i0, hi, hz0, hz1, hz2⟩ := info_parts Try.info3
  have hb' : Hid (∀ c ∈ bs, c < 256) := hb
  have hv' : Hid (Rd .u8 w v (toI bs)) := hv
  clear hb hv
  go_enter Try.func25, Try.ntmps25
  go_wp2_with fail
  go_loopw [4, 5] (fun lv rv wr => ∃ (dn : List Int) (rs : List Nat), dn.length + rs.length ≤ 1000 ∧ Hid (∀ c ∈ rs, c < 256) ∧ Hid (got bs = (got rs).map fun l => dn ++ l) ∧ Hid (Rd .u8 w rv (toI rs)) ∧ wr.ownsRow w.heap.size 3 1 lv dn.length (iv dn) ∧ Below w.heap.size w wr) (fun _ rv _ => (match rv with | .slice _ n _ => n | _ => 0))
  case atStart => exact ⟨[], bs, by simpa using hl, hb', by simp [Hid], hv', World.ownsRow_nil _ _ _ _, Below.refl _ _⟩
  case round =>
    obtain ⟨dn, rs, hdl, hrb, hgot, hrd, hown, hbw⟩ := hrel
    clear hv' hb'
    by_cases h0 : rs = []
    · subst h0
      obtain ⟨_, ao, cap, rfl, _, hcm, _⟩ := hrd.out
      have hgot' : Hid (got bs = some dn) := by
        have h := hgot.out
        rw [got_nil, Option.map_some, List.append_nil] at h
        exact h
      clear hgot hrd
      have e : (toI ([] : List Nat)).length = 0 := rfl
      rw [e]
      go_wp2_with fail
      go_ret2
      exact .inl ⟨dn, _, hgot'.out, rfl, hown, hbw⟩
    · have hlen : rs.length ≠ 0 := by
        intro h; exact h0 (List.eq_nil_of_length_eq_zero h)
      have hrd2 := hrd.out.below hbw (Nat.le_refl _)
      obtain ⟨n, u, hnx⟩ : ∃ n u, Hid (nx rs = (n, u)) := ⟨_, _, rfl⟩
      by_cases hu0 : u = 0
      · subst hu0
        have hgot' : Hid (got bs = none) := by
          have h := hgot.out
          rw [got_stop rs h0 n hnx.out hrb.out] at h
          exact h
        have hrd2' : Hid (Rd .u8 wr u5 (toI rs)) := hrd2
        obtain ⟨_, ao, cap, he, _, hcm, _⟩ := hrd2
        rw [toI_len] at he
        subst he
        clear hgot hrd
        go_wp2_with fail
        refine (next_any _ rs _ n 0 hrd2'.out hrb.out hnx.out).mono ?_
        rintro e w' ⟨rfl, he⟩; obtain rfl := he.symm; clear he
        go_wp2_with fail
        go_ret2
        exact .inr ⟨hgot'.out, rfl, hbw⟩
      · obtain ⟨hule, hnf, hgs⟩ := got_step rs hrb.out h0 n u hnx.out hu0
        have hgot' : Hid (got bs = (got (rs.drop u)).map fun l => (dn ++ [n]) ++ l) := by
          have h : got bs = (got (rs.drop u)).map fun l => (dn ++ [n]) ++ l := by
            rw [hgot.out, hgs, Option.map_map]
            congr 1
            funext l
            simp
          exact h
        clear hgot hgs
        have hrb' : Hid (∀ c ∈ rs.drop u, c < 256) := fun c hc => hrb.out c (List.mem_of_mem_drop hc)
        have hrd2' : Hid (Rd .u8 wr u5 (toI rs)) := hrd2
        obtain ⟨_, ao, cap, he, hlc, hcm, hce⟩ := hrd2
        rw [toI_len] at he hlc hce
        subst he
        obtain ⟨b, off, rfl, _⟩ := hce hlen
        clear hce
        have hdl2 : (dn ++ [n]).length + (rs.drop u).length ≤ 1000 := by
          rw [List.length_append, List.length_singleton, List.length_drop]; omega
        have hdr : Hid (Rd .u8 w (.slice (some ⟨b, off + u, none⟩) (rs.length - u) (cap - u)) (toI (rs.drop u))) := by
          have h := hrd.out.drop u (by rw [toI_len]; exact hule)
          rw [toI_len, ← toI_drop] at h
          exact h
        go_wp2_with fail
        refine (next_any _ rs _ n u hrd2'.out hrb.out hnx.out).mono ?_
        rintro e w' ⟨rfl, he⟩; obtain rfl := he.symm; clear he
        by_cases hcap : u = cap
        · have hd0 : Hid (Rd .u8 w (.slice (some ⟨b, off, none⟩) 0 0) (toI (rs.drop u))) := by
            have e : rs.drop u = [] := List.drop_of_length_le (by omega)
            rw [e]; exact Rd.empty (by decide)
          have hlu : rs.length = u := by omega
          subst hcap
          rw [hlu]
          go_wp2_with (at_builtin; refine wpList_append_own _ rfl _ _ 36 rfl w.heap.size 3 i0 (.int .i64 0) 1 8 Try.underlying36 hi hz0 hz1 hz2 rfl (by decide) _ _ _ rfl (hown.alloc _) ⟨wr.heap.size, 0, none⟩ 1 1 [.int .i64 n] rfl rfl ?c1 ?c2 ?c3 ?c4 ?c5 ?_)
          case c1 =>
            intro j u hj
            match j, hj with
            | 0, hj => simp at hj; subst hj; simp [Addr.add]
          case c2 => intro u hu; simp at hu; subst hu; rfl
          case c3 => unfold maxLen; omega
          case c4 => omega
          case c5 => have := hbw.size; simp; omega
          intro v' w1 hown' hgrow _
          have hb1 : Below w.heap.size w w1 := (hbw.alloc hbw.size _).grown hgrow (by have := hbw.size; simp; omega) (fun k hk => (hown.lt k hk).1)
          have hown3 : w1.ownsRow w.heap.size 3 1 v' (dn ++ [n]).length (iv (dn ++ [n])) := by
            rw [iv_append, List.length_append]; exact hown'
          clear hown' hgrow hown
          go_wp2_with fail
          go_roundw
          case rel => exact ⟨dn ++ [n], rs.drop u, hdl2, hrb', hgot', hd0, hown3, hb1⟩
          case measure => simp; omega
        · go_wp2_with (at_builtin; refine wpList_append_own _ rfl _ _ 36 rfl w.heap.size 3 i0 (.int .i64 0) 1 8 Try.underlying36 hi hz0 hz1 hz2 rfl (by decide) _ _ _ rfl (hown.alloc _) ⟨wr.heap.size, 0, none⟩ 1 1 [.int .i64 n] rfl rfl ?c1 ?c2 ?c3 ?c4 ?c5 ?_)
          case c1 =>
            intro j u hj
            match j, hj with
            | 0, hj => simp at hj; subst hj; simp [Addr.add]
          case c2 => intro u hu; simp at hu; subst hu; rfl
          case c3 => unfold maxLen; omega
          case c4 => omega
          case c5 => have := hbw.size; simp; omega
          intro v' w1 hown' hgrow _
          have hb1 : Below w.heap.size w w1 := (hbw.alloc hbw.size _).grown hgrow (by have := hbw.size; simp; omega) (fun k hk => (hown.lt k hk).1)
          have hown3 : w1.ownsRow w.heap.size 3 1 v' (dn ++ [n]).length (iv (dn ++ [n])) := by
            rw [iv_append, List.length_append]; exact hown'
          clear hown' hgrow hown
          go_wp2_with fail
          go_roundw
          case rel => exact ⟨dn ++ [n], rs.drop u, hdl2, hrb', hgot', hdr, hown3, hb1⟩
          case measure => simp; omega
end Go.Proofs.Ytimeglhoiibhdaa
