/- Contracts of the small functions of charset. -/
import Derived.Test.YtelpgjlcagbcjaaKind
import Derived.Lib.Hide
namespace Go.Proofs.Ytelpgjlcagbcjaa
set_option linter.unusedSimpArgs false
set_option linter.unusedVariables false
open Go.RowKit

def ldI (c : Int) : Bool := decide (kindI c = 1) || decide (kindI c = 3)
theorem beqd (a b : Int) : (a == b) = decide (a = b) := by by_cases h : a = b <;> simp [h]
theorem ret_bool {a b : Bool} (h : a = b) : Ending.returned (.bool a) = .returned (.bool b) := by rw [h]

set_option maxHeartbeats 400000 in
theorem ld_any (c : Int) (w : World) :
    Calls Try.prog 40 #[.int .u8 c] w fun e w' => e = .returned (.bool (ldI c)) ∧ w = w' := by
  go_enter Try.func40, Try.ntmps40
  go_wp2_with (go_at_call 12; refine (kind_any _ _).mono ?_; rintro e w' ⟨rfl, rfl⟩)
  all_goals go_ret
  all_goals refine ⟨ret_bool ?_, rfl⟩
  all_goals simp only [ldI]
  all_goals simp_all [beqd]

set_option maxHeartbeats 400000 in
theorem stands_any (c : Int) (s : ByteArray) (w : World) :
    Calls Try.prog 38 #[.int .u8 c, .string s] w fun e w' => e = .returned (.bool (decide (kindI c = 2) && decide (1 < s.size))) ∧ w = w' := by
  go_enter Try.func38, Try.ntmps38
  go_wp2_with (go_at_call 12; refine (kind_any _ _).mono ?_; rintro e w' ⟨rfl, rfl⟩)
  all_goals go_ret
  all_goals refine ⟨ret_bool ?_, rfl⟩
  all_goals simp_all
  all_goals omega

theorem ba_ext {s : ByteArray} {a b c : Nat} (h : b = c) : Ending.returned (.string (s.extract a b)) = .returned (.string (s.extract a c)) := by rw [h]
theorem drop_at (s : ByteArray) (k : Nat) (h : k < s.size) : s.data.toList.drop k = s[k] :: s.data.toList.drop (k + 1) :=
  List.drop_eq_getElem_cons (by simpa using h)
theorem fcl_one {s : ByteArray} (h0 : 0 < s.size) (h : (kindI s[0].toNat == 1) = false) : 1 = fcl s.data.toList := by
  have e := drop_at s 0 h0
  have h' : ¬ kd s[0] = 1 := by simpa [kd] using h
  rw [List.drop_zero] at e
  rw [e, fcl, if_neg h']
theorem fcl_run {s : ByteArray} (h0 : 0 < s.size) (h : (kindI s[0].toNat == 1) = true) : 1 + run2 (s.data.toList.drop 1) = fcl s.data.toList := by
  have e := drop_at s 0 h0
  have h' : kd s[0] = 1 := by simpa [kd] using h
  rw [List.drop_zero] at e
  rw [e, fcl, if_pos h']
  simp [Nat.add_comm]
theorem run2_more {s : ByteArray} {k : Nat} (hk : k < s.size) (h : (kindI s[k].toNat == 2) = true) : k + run2 (s.data.toList.drop k) = k + 1 + run2 (s.data.toList.drop (k + 1)) := by
  have h' : kd s[k] = 2 := by simpa [kd] using h
  rw [drop_at s k hk, run2, if_pos h']; omega
theorem run2_stop {s : ByteArray} {k : Nat} (hk : k < s.size) (h : (kindI s[k].toNat == 2) = false) : run2 (s.data.toList.drop k) = 0 := by
  have h' : ¬ kd s[k] = 2 := by simpa [kd] using h
  rw [drop_at s k hk, run2, if_neg h']
theorem run2_end {s : ByteArray} {k : Nat} (hk : s.size ≤ k) : run2 (s.data.toList.drop k) = 0 := by
  rw [List.drop_eq_nil_of_le (by simpa using hk)]; rfl

set_option maxHeartbeats 400000 in
theorem first_any (s : ByteArray) (h0 : 0 < s.size) (hs : s.size ≤ maxLen) (w : World) :
    Calls Try.prog 54 #[.string s] w fun e w' => e = .returned (.string (s.extract 0 (fcl s.data.toList))) ∧ w = w' := by
  unfold maxLen at hs
  go_enter Try.func54, Try.ntmps54
  go_wp2_with (go_at_call 12; refine (kind_any _ _).mono ?_; rintro e w' ⟨rfl, rfl⟩)
  · rename_i ht
    have H := Lib.hid (fcl_run h0 ht)
    clear ht
    go_loop [3] (fun e => ∃ k : Nat, 1 ≤ k ∧ k ≤ s.size ∧ k + run2 (s.data.toList.drop k) = fcl s.data.toList ∧ e = .int .i64 k) (fun e => s.size - (intOf e).toNat)
    case atStart => exact ⟨1, Nat.le_refl _, h0, H.out, rfl⟩
    case round =>
      obtain ⟨k, hk1, hk2, he, rfl⟩ := hrel
      have HE := Lib.hid he
      clear he
      by_cases hlt : k < s.size
      · by_cases hm : (kindI s[k].toNat == 2) = true
        · go_wp2_with (go_at_call 12; refine (kind_any _ _).mono ?_; rintro e w' ⟨rfl, rfl⟩)
          go_round
          case rel => exact ⟨k + 1, by omega, by omega, by rw [← HE.out, run2_more hlt hm], by go_num⟩
          case measure => simp [intOf]; omega
        · have hm' : (kindI s[k].toNat == 2) = false := by simpa using hm
          clear hm
          go_wp2_with (go_at_call 12; refine (kind_any _ _).mono ?_; rintro e w' ⟨rfl, rfl⟩)
          go_ret
          exact ⟨ba_ext (by rw [← HE.out, run2_stop hlt hm']; rfl), rfl⟩
      · go_wp2_with (go_at_call 12; refine (kind_any _ _).mono ?_; rintro e w' ⟨rfl, rfl⟩)
        go_ret
        exact ⟨ba_ext (by rw [← HE.out, run2_end (by omega)]; rfl), rfl⟩
  · rename_i ht
    go_ret
    exact ⟨ba_ext (fcl_one h0 ht), rfl⟩
end Go.Proofs.Ytelpgjlcagbcjaa
