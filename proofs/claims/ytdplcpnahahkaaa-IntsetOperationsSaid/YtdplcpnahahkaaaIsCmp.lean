/- slices.Compare; the last closure of IntsetCovers; bits of a choice. -/
import Derived.Test.YtdplcpnahahkaaaIsCovF
namespace Go.Proofs.Ytdplcpnahahkaaa
set_option linter.unusedSimpArgs false
set_option linter.unusedVariables false
set_option maxRecDepth 100000
open Go.RowKit Go.Deep Go.Shelf

set_option maxHeartbeats 400000 in
theorem nan_any (x : Int) (w : World) : Calls Try.prog 71 #[intV x] w fun e w' => e = .returned (.bool false) ∧ w = w' := by
  go_enter Try.func71, Try.ntmps71
  go_wp2
  go_ret
  exact ⟨ret_bool (by simp), rfl⟩
def cmpZ (x y : Int) : Int := if x < y then -1 else if y < x then 1 else 0
theorem cmpZ_ne {x y : Int} (h : ¬ x = y) : ¬ cmpZ x y = 0 := by
  rcases (show x < y ∨ (¬ x < y ∧ y < x) by omega) with h1 | ⟨h1, h2⟩
  · rw [cmpZ, if_pos h1]; decide
  · rw [cmpZ, if_neg h1, if_pos h2]; decide
theorem cmpZ_neg {x y : Int} (h : ¬ x = y) : cmpZ x y < 0 ↔ x < y := by
  rcases (show x < y ∨ (¬ x < y ∧ y < x) by omega) with h1 | ⟨h1, h2⟩
  · rw [cmpZ, if_pos h1]; exact ⟨fun _ => h1, fun _ => by decide⟩
  · rw [cmpZ, if_neg h1, if_pos h2]; exact ⟨fun h => absurd h (by decide), fun h => absurd h h1⟩
set_option maxHeartbeats 1000000 in
theorem cmp_any (x y : Int) (z : Int) (hz : cmpZ x y = z) (w : World) : Calls Try.prog 65 #[intV x, intV y] w fun e w' => e = .returned (intV z) ∧ w = w' := by
  have C1 := Lib.hid (nan_any x w)
  have C2 := Lib.hid (nan_any y w)
  have HZ := Lib.hid hz
  clear hz
  rcases (show x < y ∨ (y ≤ x ∧ y < x) ∨ x = y by omega) with h | ⟨h0, h⟩ | h
  · go_enter Try.func65, Try.ntmps65
    go_wp2_with fail
    refine C1.out.mono ?_
    rintro e w1 ⟨rfl, rfl⟩
    go_wp2_with fail
    refine C2.out.mono ?_
    rintro e w1 ⟨rfl, rfl⟩
    go_wp2
    go_ret
    exact ⟨ret_int (by rw [← HZ.out, cmpZ, if_pos h]), rfl⟩
  · go_enter Try.func65, Try.ntmps65
    go_wp2_with fail
    refine C1.out.mono ?_
    rintro e w1 ⟨rfl, rfl⟩
    go_wp2_with fail
    refine C2.out.mono ?_
    rintro e w1 ⟨rfl, rfl⟩
    go_wp2
    go_ret
    exact ⟨ret_int (by rw [← HZ.out, cmpZ, if_neg (by omega), if_pos h]), rfl⟩
  · subst h
    go_enter Try.func65, Try.ntmps65
    go_wp2_with fail
    refine C1.out.mono ?_
    rintro e w1 ⟨rfl, rfl⟩
    go_wp2_with fail
    refine C1.out.mono ?_
    rintro e w1 ⟨rfl, rfl⟩
    go_wp2
    go_ret
    exact ⟨ret_int (by rw [← HZ.out, cmpZ, if_neg (by omega), if_neg (by omega)]), rfl⟩
/-- the first list stands before the second one of the same length -/
def lexB : List Int → List Int → Bool
  | x :: a, y :: b => if x = y then lexB a b else decide (x < y)
  | _, _ => false
theorem lexB_up : ∀ a b : List Nat, lexB (upL a) (upL b) = true → lexLt a b
  | [], [], h => by simp [upL, lexB] at h
  | [], _ :: _, h => by simp [upL, lexB] at h
  | _ :: _, [], h => by simp [upL, lexB] at h
  | i :: a, j :: b, h => by
    have h : (if (i : Int) = (j : Int) then lexB (upL a) (upL b) else decide ((i : Int) < (j : Int))) = true := h
    by_cases e : i = j
    · subst e
      rw [if_pos rfl] at h
      exact .inr ⟨rfl, lexB_up a b h⟩
    · rw [if_neg (by omega), decide_eq_true_eq] at h
      exact .inl (by omega)
set_option maxHeartbeats 1000000 in
theorem compare_any (xs ys : List Int) (hlen : xs.length = ys.length) (vx vy : Value) (w : World) (hx : IntsAt w vx xs) (hy : IntsAt w vy ys) (lx : xs.length ≤ 1000000) :
    Calls Try.prog 41 #[vx, vy] w fun e w' => (∃ z : Int, e = .returned (intV z) ∧ decide (z < 0) = lexB xs ys) ∧ w = w' := by
  obtain ⟨ax, cx, rfl, hcx⟩ := hx
  obtain ⟨ay, cy, rfl, hcy⟩ := hy
  have HX := Lib.hid hcx
  have HY := Lib.hid hcy
  obtain ⟨n, hn⟩ : ∃ n, xs.length = n := ⟨_, rfl⟩
  have hn2 : ys.length = n := by omega
  have HN := Lib.hid (And.intro hn hn2)
  obtain ⟨res, hres⟩ : ∃ r, lexB xs ys = r := ⟨_, rfl⟩
  have HR := Lib.hid hres
  rw [hres, hn, hn2]
  rw [hn] at lx
  clear hcx hcy hlen hn hn2 hres
  go_enter Try.func41, Try.ntmps41
  go_wp2
  go_loop [11] (fun i => ∃ k : Nat, k ≤ n ∧ i = .int .i64 k ∧ lexB (xs.drop k) (ys.drop k) = res) (fun i => n - (intOf i).toNat)
  case atStart => exact ⟨0, Nat.zero_le _, rfl, HR.out⟩
  case round =>
    obtain ⟨k, hk, rfl, he⟩ := hrel
    by_cases hlt : k < n
    · have hkx : k < xs.length := by rw [HN.out.1]; exact hlt
      have hky : k < ys.length := by rw [HN.out.2]; exact hlt
      obtain ⟨b, off, rfl, hbb, hcs⟩ := HX.out (by omega)
      obtain ⟨b', off', rfl, hbb', hcs'⟩ := HY.out (by omega)
      have hcell := hcs k hkx
      have hcell' := hcs' k hky
      rw [List.drop_eq_getElem_cons hkx, List.drop_eq_getElem_cons hky, lexB] at he
      obtain ⟨x, hx⟩ : ∃ x, xs[k] = x := ⟨_, rfl⟩
      obtain ⟨y, hy⟩ : ∃ y, ys[k] = y := ⟨_, rfl⟩
      rw [hx] at hcell he
      rw [hy] at hcell' he
      have HE := Lib.hid he
      clear hcs hcs' hkx hky hx hy he
      obtain ⟨z, hz⟩ : ∃ z, cmpZ x y = z := ⟨_, rfl⟩
      have C := Lib.hid (cmp_any x y z hz w)
      have HZ := Lib.hid hz
      clear hz
      by_cases e : x = y
      · have hz0 : z = 0 := by rw [← HZ.out, cmpZ, if_neg (by omega), if_neg (by omega)]
        subst hz0
        have HEQ := Lib.hid e
        clear e
        go_wp2_with fail
        refine C.out.mono ?_
        rintro e w1 ⟨rfl, rfl⟩
        go_wp2
        go_round
        case rel => exact ⟨k + 1, by omega, by go_num, by have := HE.out; rwa [if_pos HEQ.out] at this⟩
        case measure => simp [intOf]; omega
      · have hz0 : ¬ z = 0 := by rw [← HZ.out]; exact cmpZ_ne e
        go_wp2_with fail
        refine C.out.mono ?_
        rintro e w1 ⟨rfl, rfl⟩
        go_wp2
        go_ret
        refine ⟨⟨_, rfl, ?_⟩, rfl⟩
        have := HE.out
        rw [if_neg e] at this
        rw [← this, ← HZ.out]
        exact decide_eq_decide.2 (cmpZ_neg e)
    · obtain rfl : k = n := by omega
      have h1 : xs.drop k = [] := List.drop_of_length_le (by rw [HN.out.1]; exact Nat.le_refl _)
      rw [h1] at he
      have hr : res = false := by rw [← he]; rfl
      subst hr
      clear he h1
      go_wp2
      go_ret
      exact ⟨⟨_, rfl, by decide⟩, rfl⟩

set_option maxHeartbeats 1000000 in
theorem cov2_any (L : List (List Int)) (i : Int) (hi : 0 ≤ i ∧ i < L.length) (b : Nat) (vL : Value) (w : World) (hc : w.cell? ⟨b, 0, none⟩ = some vL) (hL : ListsN w vL L) :
    Calls Try.prog 40 #[intV i, .pointer (some ⟨b, 0, none⟩)] w fun e w' => e = .returned (.bool false) ∧ w = w' := by
  obtain ⟨aL, cL, rfl, _⟩ := hL
  obtain ⟨h0, h1⟩ := hi
  go_enter Try.func40, Try.ntmps40
  go_wp2
  go_ret
  exact ⟨ret_bool (by simp; omega), rfl⟩

/-! ### choices -/
theorem asc_snoc {n : Nat} : ∀ {f : Nat} {c : List Nat} {i : Nat}, AscFrom i f c → i < n → f ≤ i → AscFrom n f (c ++ [i])
  | f, [], i, _, h, hf => ⟨hf, h, trivial⟩
  | f, j :: r, i, ⟨a, b, d⟩, h, hf => ⟨a, Nat.lt_trans b h, asc_snoc d h (by omega)⟩
theorem asc_mono {n m : Nat} (h : n ≤ m) : ∀ {f : Nat} {c : List Nat}, AscFrom n f c → AscFrom m f c
  | _, [], _ => trivial
  | _, _ :: _, ⟨a, b, d⟩ => ⟨a, by omega, asc_mono h d⟩
theorem asc_selN (p : Nat → Bool) : ∀ n, AscFrom n 0 (selN n p)
  | 0 => by simp [selN, AscFrom]
  | n + 1 => by
    rw [selN_succ]
    split
    · exact asc_snoc (asc_selN p n) (by omega) (Nat.zero_le _)
    · exact asc_mono (by omega) (asc_selN p n)
theorem covB_cov {T : List Int} {L : List (List Int)} {c : List Nat} (hT : InR T) (hL : ∀ l ∈ L, InR l) (ha : AscFrom L.length 0 c) : covB T L c = true ↔ IsCov T L c := by
  have hg : ∀ i ∈ c, L.getD i [] ∈ L := fun i hi => by
    have := (asc_lt ha i hi).2
    rw [List.getD_eq_getElem?_getD, List.getElem?_eq_getElem this]; exact List.getElem_mem this
  rw [covB, decide_eq_true_eq, IsCov]
  constructor
  · rintro ⟨h1, h2⟩
    refine ⟨ha, fun x hx => ?_⟩
    rw [Bool.eq_iff_iff, List.any_eq_true, has, decide_eq_true_eq]
    constructor
    · intro h
      obtain ⟨i, hi, hx⟩ := h2 _ h
      exact ⟨i, hi, by rw [has, decide_eq_true_eq]; exact hx⟩
    · rintro ⟨i, hi, hx⟩
      rw [has, decide_eq_true_eq] at hx
      exact h1 i hi _ hx
  · rintro ⟨_, h⟩
    constructor
    · intro i hi x hx
      have hr := hL _ (hg i hi) x hx
      have e : ((x.toNat : Nat) : Int) = x := by omega
      have := h x.toNat (by omega)
      rw [show (c.any fun i => has (L.getD i []) x.toNat) = true from List.any_eq_true.2 ⟨i, hi, by rw [has, e]; simpa using hx⟩, has, e] at this
      simpa using this
    · intro x hx
      have hr := hT x hx
      have e : ((x.toNat : Nat) : Int) = x := by omega
      have := h x.toNat (by omega)
      rw [show has T x.toNat = true by rw [has, e]; simpa using hx] at this
      obtain ⟨i, hi, h2⟩ := List.any_eq_true.1 this.symm
      rw [has, e] at h2
      exact ⟨i, hi, by simpa using h2⟩
theorem bit_i64 (m : Nat) (hm : m < 1000000) (i : Nat) : (bits BinOp.and IntKind.i64 ((m : Int) / 2 ^ i) 1 == 1) = m.testBit i := by
  have h : m / 2 ^ i ≤ m := Nat.div_le_self _ _
  have e : bits BinOp.and IntKind.i64 ((m / 2 ^ i : Nat) : Int) ((1 : Nat) : Int) = ((m / 2 ^ i &&& 1 : Nat) : Int) := by
    show IntKind.i64.wrap ((BitVec.ofInt 64 ((m / 2 ^ i : Nat) : Int) &&& BitVec.ofInt 64 ((1 : Nat) : Int)).toNat : Int) = _
    rw [BitVec.toNat_and, ofInt_u64 _ (by omega), ofInt_u64 _ (by decide)]
    have : m / 2 ^ i &&& 1 ≤ 1 := Nat.and_le_right
    exact IntWalk.i64_in _ (by omega)
  rw [div_nat]
  rw [show ((1 : Nat) : Int) = 1 from rfl] at e
  rw [e, Nat.and_one_is_mod, Nat.testBit_eq_decide_div_mod_eq]
  rw [Bool.eq_iff_iff]; simp only [beq_iff_eq, decide_eq_true_eq]; omega
end Go.Proofs.Ytdplcpnahahkaaa
