/- The small functions of layer 4 that only read. -/
import Derived.Test.YtdplcpnahahkaaaIsVals
namespace Go.Proofs.Ytdplcpnahahkaaa
set_option linter.unusedSimpArgs false
set_option linter.unusedVariables false
set_option maxRecDepth 100000
open Go.RowKit Go.Deep

set_option maxHeartbeats 400000 in
theorem member_any (n : Int) (r : Bool) (hr : decide (0 ≤ n ∧ n < 64) = r) (w : World) :
    Calls Try.prog 42 #[intV n] w fun e w' => e = .returned (.bool r) ∧ w = w' := by
  have HR := Lib.hid hr
  clear hr
  by_cases h : 0 ≤ n
  · go_enter Try.func42, Try.ntmps42
    go_wp2
    go_ret
    exact ⟨ret_bool (by rw [← HR.out]; apply decide_eq_decide.2; omega), rfl⟩
  · go_enter Try.func42, Try.ntmps42
    go_wp2
    go_ret
    exact ⟨ret_bool (by rw [← HR.out, eq_comm, decide_eq_false_iff_not]; omega), rfl⟩
set_option maxHeartbeats 400000 in
theorem size_any (n : Int) (r : Bool) (hr : decide (0 ≤ n ∧ n ≤ 64) = r) (w : World) :
    Calls Try.prog 47 #[intV n] w fun e w' => e = .returned (.bool r) ∧ w = w' := by
  have HR := Lib.hid hr
  clear hr
  by_cases h : 0 ≤ n
  · go_enter Try.func47, Try.ntmps47
    go_wp2
    go_ret
    exact ⟨ret_bool (by rw [← HR.out]; apply decide_eq_decide.2; omega), rfl⟩
  · go_enter Try.func47, Try.ntmps47
    go_wp2
    go_ret
    exact ⟨ret_bool (by rw [← HR.out, eq_comm, decide_eq_false_iff_not]; omega), rfl⟩

set_option maxHeartbeats 1000000 in
theorem check_any (xs : List Int) (v : Value) (w : World) (hv : IntsAt w v xs) (hl : xs.length ≤ 1000000) :
    Calls Try.prog 20 #[v] w fun e w' => e = .returned (intV (errL xs)) ∧ w = w' := by
  obtain ⟨a, cap, rfl, hc⟩ := hv
  have HC := Lib.hid hc
  clear hc
  obtain ⟨res, hres⟩ : ∃ res, errL xs = res := ⟨_, rfl⟩
  rw [hres]
  have HR := Lib.hid hres
  clear hres
  go_enter Try.func20, Try.ntmps20
  go_wp2
  go_loop [7] (fun i => ∃ k : Nat, k ≤ xs.length ∧ i = .int .i64 k ∧ errFrom (prevA xs k) (xs.drop k) = res) (fun i => xs.length - (intOf i).toNat)
  case atStart => exact ⟨0, Nat.zero_le _, rfl, HR.out⟩
  case round =>
    obtain ⟨k, hk, rfl, he⟩ := hrel
    by_cases hlt : k < xs.length
    · obtain ⟨b, off, rfl, hbb, hcs⟩ := HC.out (by omega)
      have hcell := hcs k hlt
      have hprev : 0 < (k : Int) → w.cell? ⟨b, off + (k - 1), none⟩ = some (.int .i64 (prevA xs k)) := fun h0 => by
        rw [hcs (k - 1) (by omega), prevA, if_neg (by omega), List.getD_eq_getElem?_getD, List.getElem?_eq_getElem (by omega)]; rfl
      rw [err_step xs k hlt] at he
      clear hcs
      obtain ⟨x, hx⟩ : ∃ x, xs[k] = x := ⟨_, rfl⟩
      obtain ⟨p, hp⟩ : ∃ p, prevA xs k = p := ⟨_, rfl⟩
      have hp0 : k = 0 → p = -1 := fun h => by rw [← hp, h]; rfl
      rw [hx] at hcell he
      rw [hp] at hprev he
      clear hx hp
      by_cases h1 : x < 0 ∨ 63 < x
      · rw [if_pos h1] at he
        subst he
        have HM := Lib.hid (show decide (0 ≤ x ∧ x < 64) = false by rw [decide_eq_false_iff_not]; omega)
        clear hprev hp0
        go_wp2_with fail
        refine (member_any x false HM.out _).mono ?_
        rintro e w1 ⟨rfl, rfl⟩
        go_wp2
        go_ret
        exact ⟨rfl, rfl⟩
      · rw [if_neg h1] at he
        have HM := Lib.hid (show decide (0 ≤ x ∧ x < 64) = true by rw [decide_eq_true_eq]; omega)
        rcases Nat.eq_zero_or_pos k with h0 | h0
        · have hp1 := hp0 h0
          subst hp1
          rw [if_neg (by omega)] at he
          have HE := Lib.hid he
          have hk0 : (k : Int) ≤ 0 := by omega
          clear he hprev hp0 h0
          go_wp2_with fail
          refine (member_any x true HM.out _).mono ?_
          rintro e w1 ⟨rfl, rfl⟩
          go_wp2
          go_round
          case rel => exact ⟨k + 1, by omega, by go_num, HE.out⟩
          case measure => simp [intOf]; omega
        · have hp2 := hprev (by omega)
          have hk1 : (k : Int) - 1 = ((k - 1 : Nat) : Int) := by omega
          have hkp : (0 : Int) < k := by omega
          by_cases h2 : x ≤ p
          · rw [if_pos h2] at he
            subst he
            clear hprev hp0
            go_wp2_with fail
            refine (member_any x true HM.out _).mono ?_
            rintro e w1 ⟨rfl, rfl⟩
            go_wp2
            go_ret
            exact ⟨rfl, rfl⟩
          · rw [if_neg h2] at he
            have HE := Lib.hid he
            clear he hprev hp0
            go_wp2_with fail
            refine (member_any x true HM.out _).mono ?_
            rintro e w1 ⟨rfl, rfl⟩
            go_wp2
            go_round
            case rel => exact ⟨k + 1, by omega, by go_num, HE.out⟩
            case measure => simp [intOf]; omega
    · obtain rfl : k = xs.length := by omega
      rw [List.drop_length] at he
      have HE := Lib.hid he
      clear he
      go_wp2
      go_ret
      exact ⟨ret_int HE.out, rfl⟩
end Go.Proofs.Ytdplcpnahahkaaa
