/- Contracts of the references of layer 2 that compute with numbers. -/
import Derived.Test.YtkiaiiepfphllaaDoorRows
import Derived.Test.YtkiaiiepfphllaaDoorFpMath
import Derived.WalkKit
import Derived.WalkSpells
import Derived.WalkLawsBesides
import Derived.Lib.Hide
import Derived.IntWalk
import Derived.Deep.QuietTactic
import Derived.BigQuiet
namespace Go.Proofs.YtkiaiiepfphllaaDoor
set_option linter.unusedSimpArgs false
set_option linter.unusedVariables false
open Go.RowKit

theorem ret_int {k : IntKind} {a b : Int} (h : a = b) : Ending.returned (.int k a) = .returned (.int k b) := by rw [h]
theorem ret_bool {a b : Bool} (h : a = b) : Ending.returned (.bool a) = .returned (.bool b) := by rw [h]

set_option maxHeartbeats 400000 in
theorem refChk_any (n : Int) (w : World) :
    Calls Tryd.prog 16 #[.int .i64 n] w fun e w' => e = .returned (.int .i64 (chkN n)) ∧ w = w' := by
  go_enter Tryd.func16, Tryd.ntmps16
  by_cases h1 : n < -1073741824
  · go_wp2
    go_ret
    exact ⟨ret_int (by rw [chkN, isLen_low h1]; rfl), rfl⟩
  · by_cases h2 : 1073741824 < n
    · go_wp2
      go_ret
      exact ⟨ret_int (by rw [chkN, isLen_high h2]; rfl), rfl⟩
    · go_wp2
      go_ret
      exact ⟨ret_int (by rw [chkN, isLen_of (by omega) (by omega)]; rfl), rfl⟩
theorem refChk_at (n r : Int) (h : chkN n = r) (w : World) :
    Calls Tryd.prog 16 #[.int .i64 n] w fun e w' => e = .returned (.int .i64 r) ∧ w = w' := by subst h; exact refChk_any n w

def digI (c : Int) : Bool := decide (48 ≤ c) && decide (c ≤ 57)
set_option maxHeartbeats 400000 in
theorem refDigit_any (c : Int) (w : World) :
    Calls Tryd.prog 37 #[.int .u8 c] w fun e w' => e = .returned (.bool (digI c)) ∧ w = w' := by
  go_enter Tryd.func37, Tryd.ntmps37
  by_cases h1 : 48 ≤ c
  · go_wp2
    go_ret
    exact ⟨ret_bool (by rw [Bool.eq_iff_iff]; simp [digI]; omega), rfl⟩
  · go_wp2
    go_ret
    exact ⟨ret_bool (by rw [Bool.eq_iff_iff]; simp [digI]; omega), rfl⟩

theorem tdiv_bd (a b : Int) (h1 : -4611686018427387904 ≤ a) (h2 : a ≤ 4611686018427387904) : -4611686018427387904 ≤ a.tdiv b ∧ a.tdiv b ≤ 4611686018427387904 := by
  have := Int.natAbs_tdiv_le_natAbs a b
  omega

set_option maxHeartbeats 400000 in
theorem refFloor_any (a b : Int) (h1 : -4611686018427387904 ≤ a) (h2 : a ≤ 4611686018427387904) (hb : 0 < b) (hb2 : b ≤ 1073741824) (w : World) :
    Calls Tryd.prog 43 #[.int .i64 a, .int .i64 b] w fun e w' => e = .returned (.int .i64 (a / b)) ∧ w = w' := by
  have hf := floor_eq a b hb
  obtain ⟨f, hff⟩ : ∃ f, a / b = f := ⟨_, rfl⟩
  rw [hff] at hf ⊢
  have HF := Lib.hid hf
  obtain ⟨q1, q2⟩ := tdiv_bd a b h1 h2
  clear hf hff
  by_cases h : a.tmod b < 0
  · go_enter Tryd.func43, Tryd.ntmps43
    go_wp2
    go_ret
    exact ⟨ret_int (by rw [← HF.out, if_pos h]), rfl⟩
  · go_enter Tryd.func43, Tryd.ntmps43
    go_wp2
    go_ret
    exact ⟨ret_int (by rw [← HF.out, if_neg (by omega)]), rfl⟩
theorem refFloor_at (a b r : Int) (h : a / b = r) (h1 : -4611686018427387904 ≤ a) (h2 : a ≤ 4611686018427387904) (hb : 0 < b) (hb2 : b ≤ 1073741824) (w : World) :
    Calls Tryd.prog 43 #[.int .i64 a, .int .i64 b] w fun e w' => e = .returned (.int .i64 r) ∧ w = w' := by subst h; exact refFloor_any a b h1 h2 hb hb2 w

/-! ### lists of integers that came in, or that the call owns: they are only read -/
def IntsAt (W : World) (v : Value) (zs : List Int) : Prop :=
  ∃ a cap, v = .slice a zs.length cap ∧ (0 < zs.length → ∃ b off, a = some ⟨b, off, none⟩ ∧ b < W.heap.size ∧ ∀ j (h : j < zs.length), W.cell? ⟨b, off + j, none⟩ = some (.int .i64 zs[j]))
theorem IntsAt.below {W W' : World} {v : Value} {zs : List Int} (h : IntsAt W v zs) (hB : Below W.heap.size W W') : IntsAt W' v zs := by
  obtain ⟨a, cap, rfl, hc⟩ := h
  refine ⟨a, cap, rfl, fun h0 => ?_⟩
  obtain ⟨b, off, ha, hb, hcs⟩ := hc h0
  exact ⟨b, off, ha, Nat.lt_of_lt_of_le hb hB.size, fun j hj => (hB.cell (p := ⟨b, off + j, none⟩) hb).trans (hcs j hj)⟩

/-- Great's result -/
def greatL (n : Nat) : Bool := decide (20 < n) && decide (n ≤ 4096) || decide (4100 < n)
set_option maxHeartbeats 400000 in
theorem refGreat_any (zs : List Int) (v : Value) (w : World) (hv : IntsAt w v zs) :
    Calls Tryd.prog 17 #[v] w fun e w' => e = .returned (.bool (greatL zs.length)) ∧ w = w' := by
  obtain ⟨a, cap, rfl, _⟩ := hv
  go_enter Tryd.func17, Tryd.ntmps17
  by_cases h1 : (20 : Int) < zs.length
  · by_cases h2 : (zs.length : Int) ≤ 4096
    · go_wp2
      go_ret
      exact ⟨ret_bool (by rw [Bool.eq_iff_iff]; simp [greatL]; omega), rfl⟩
    · go_wp2
      go_ret
      exact ⟨ret_bool (by rw [Bool.eq_iff_iff]; simp [greatL]; omega), rfl⟩
  · go_wp2
    go_ret
    exact ⟨ret_bool (by rw [Bool.eq_iff_iff]; simp [greatL]; omega), rfl⟩

theorem ret_two {k : IntKind} {a b a' b' : Int} (h : a = a') (h' : b = b') : Ending.returned (.tuple #[.int k a, .int k b]) = .returned (.tuple #[.int k a', .int k b']) := by rw [h, h']
abbrev pairV (p : Int × Int) : Value := .tuple #[.int .i64 p.1, .int .i64 p.2]

theorem ret_pair {p : Int × Int} {x y : Int} (h : p = (x, y)) : Ending.returned (.tuple #[.int .i64 x, .int .i64 y]) = .returned (pairV p) := by rw [h]
theorem take_succ_int (zs : List Int) (k : Nat) (h : k < zs.length) : zs.take (k + 1) = zs.take k ++ [zs[k]] := List.take_succ_eq_append_getElem h

set_option maxHeartbeats 1000000 in
theorem refSum_any (zs : List Int) (v : Value) (w : World) (hv : IntsAt w v zs) (hl : zs.length ≤ 9223372036854775807) :
    Calls Tryd.prog 19 #[v] w fun e w' => e = .returned (pairV (sumR zs)) ∧ w = w' := by
  obtain ⟨a, cap, rfl, hc⟩ := hv
  have HC := Lib.hid hc
  clear hc
  by_cases hbig : 4096 < zs.length
  · rw [sumR, if_pos hbig]
    go_enter Tryd.func19, Tryd.ntmps19
    go_wp2
    go_ret2
    exact ⟨rfl, rfl⟩
  · rw [sumR, if_neg hbig]
    obtain ⟨res, hres⟩ : ∃ res, (if zs.all isLen then (if isLen (sumZ zs) then (sumZ zs, 0) else (0, 4)) else (0, 2) : Int × Int) = res := ⟨_, rfl⟩
    rw [hres]
    have HR := Lib.hid hres
    clear hres
    go_enter Tryd.func19, Tryd.ntmps19
    go_wp2
    go_loop [4, 5] (fun x i => ∃ k : Nat, k ≤ zs.length ∧ i = .int .i64 k ∧ x = .int .i64 (sumZ (zs.take k)) ∧ (zs.take k).all isLen = true) (fun _ i => zs.length - (intOf i).toNat)
    case atStart => exact ⟨0, Nat.zero_le _, rfl, rfl, rfl⟩
    case round =>
      obtain ⟨k, hk, rfl, rfl, hall⟩ := hrel
      have hb := sumZ_bd (zs.take k) 4096 (by rw [List.length_take]; omega) hall
      have HA := Lib.hid hall
      clear hall
      obtain ⟨sm, hsm⟩ : ∃ sm, sumZ (zs.take k) = sm := ⟨_, rfl⟩
      rw [hsm] at hb ⊢
      have HS := Lib.hid hsm
      clear hsm
      by_cases hlt : k < zs.length
      · obtain ⟨b, off, rfl, hbb, hcs⟩ := HC.out (by omega)
        have hcell := hcs k hlt
        clear hcs
        obtain ⟨x, hx⟩ : ∃ x, zs[k] = x := ⟨_, rfl⟩
        rw [hx] at hcell
        have HX := Lib.hid hx
        clear hx
        by_cases hok : isLen x = true
        · have hxb := isLen_bd hok
          have HK : chkN x = 0 := by rw [chkN, hok]; rfl
          have HKK := Lib.hid HK
          have HOK := Lib.hid hok
          clear HK hok
          go_wp2_with (go_at_call 16; refine (refChk_at x 0 HKK.out _).mono ?_; rintro e w' ⟨rfl, rfl⟩)
          go_round
          case rel =>
            refine ⟨k + 1, by omega, by go_num, ?_, ?_⟩
            · rw [take_succ_int zs k hlt, sumZ_snoc, HS.out, HX.out]
            · rw [take_succ_int zs k hlt, List.all_append, HA.out, HX.out]; simp [HOK.out]
          case measure => simp [intOf]; omega
        · have HK : chkN x = 2 := by rw [chkN, if_neg hok]
          have hres2 : res = (0, 2) := by
            rw [← HR.out, if_neg]
            intro hall
            rw [List.all_eq_true] at hall
            exact hok (by rw [← HX.out]; exact hall _ (List.getElem_mem hlt))
          have HKK := Lib.hid HK
          have HRR := Lib.hid hres2
          clear HK hok hres2
          go_wp2_with (go_at_call 16; refine (refChk_at x 2 HKK.out _).mono ?_; rintro e w' ⟨rfl, rfl⟩)
          go_ret2
          exact ⟨ret_pair HRR.out, rfl⟩
      · obtain rfl : k = zs.length := by omega
        have e1 := HS.out
        have e2 := HA.out
        rw [List.take_length] at e1 e2
        have HE : res = (if isLen sm then (sm, 0) else (0, 4)) := by rw [← HR.out, if_pos e2, e1]
        have HEE := Lib.hid HE
        clear e1 e2 HE
        by_cases hok : isLen sm = true
        · have HK : chkN sm = 0 := by rw [chkN, hok]; rfl
          have HKK := Lib.hid HK
          have HOK := Lib.hid hok
          clear HK hok
          go_wp2_with (go_at_call 16; refine (refChk_at sm 0 HKK.out _).mono ?_; rintro e w' ⟨rfl, rfl⟩)
          go_ret2
          exact ⟨ret_pair (by rw [HEE.out, if_pos HOK.out]), rfl⟩
        · have HK : chkN sm = 2 := by rw [chkN, if_neg hok]
          have HKK := Lib.hid HK
          have HOK := Lib.hid hok
          clear HK hok
          go_wp2_with (go_at_call 16; refine (refChk_at sm 2 HKK.out _).mono ?_; rintro e w' ⟨rfl, rfl⟩)
          go_ret2
          exact ⟨ret_pair (by rw [HEE.out, if_neg HOK.out]), rfl⟩
end Go.Proofs.YtkiaiiepfphllaaDoor
