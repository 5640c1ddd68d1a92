/- charset.Letters and its reference, charset.IsName. -/
import Derived.Test.YtelpgjlcagbcjaaWord
namespace Go.Proofs.Ytelpgjlcagbcjaa
set_option linter.unusedSimpArgs false
set_option linter.unusedVariables false
open Go.RowKit

def ldB (c : UInt8) : Bool := ldI c.toNat
def lettersN (l : List UInt8) : Nat := (l.filter ldB).length
theorem lettersN_le (l : List UInt8) : lettersN l ≤ l.length := List.length_filter_le _ _
theorem take_snoc (s : ByteArray) (k : Nat) (h : k < s.size) : s.data.toList.take (k + 1) = s.data.toList.take k ++ [s[k]] := by
  rw [List.take_succ_eq_append_getElem (by simpa using h)]; rfl
theorem take_all (s : ByteArray) (k : Nat) (h : s.size ≤ k) : s.data.toList.take k = s.data.toList := List.take_of_length_le (by simpa using h)
theorem letters_snoc (s : ByteArray) (k : Nat) (h : k < s.size) : lettersN (s.data.toList.take (k + 1)) = lettersN (s.data.toList.take k) + if ldI s[k].toNat = true then 1 else 0 := by
  rw [take_snoc s k h, lettersN, lettersN, List.filter_append, List.length_append]
  by_cases hl : ldI s[k].toNat = true
  · rw [if_pos hl]; simp [List.filter_cons, ldB, hl]
  · rw [if_neg hl]; simp [List.filter_cons, ldB, hl]
theorem ldI_kind (c : Int) : ldI c = ((kindI c == 1) || (kindI c == 3)) := by simp [ldI, beqd]
theorem ldk1 {c : Int} (h : kindI c = 1) : ldI c = true := by simp [ldI, h]
theorem ldk3 {c : Int} (h : (kindI c == 1) = true ∨ (kindI c == 3) = true) : ldI c = true := by
  rw [ldI_kind]; simpa using h
theorem ldkn {c : Int} (h : (kindI c == 1) = false ∧ (kindI c == 3) = false) : ¬ ldI c = true := by
  rw [ldI_kind, h.1, h.2]; simp

set_option maxHeartbeats 400000 in
theorem letters_any (s : ByteArray) (hs : s.size ≤ maxLen) (w : World) :
    Calls Try.prog 24 #[.string s] w fun e w' => e = .returned (.int .i64 (lettersN s.data.toList)) ∧ w = w' := by
  unfold maxLen at hs
  go_enter Try.func24, Try.ntmps24
  go_wp2
  go_loop [3, 7] (fun n i => ∃ k : Nat, k ≤ s.size ∧ i = .int .i64 k ∧ n = .int .i64 (lettersN (s.data.toList.take k))) (fun _ i => s.size - (intOf i).toNat)
  case atStart => exact ⟨0, Nat.zero_le _, rfl, rfl⟩
  case round =>
    obtain ⟨k, hk, rfl, rfl⟩ := hrel
    have hd := lettersN_le (s.data.toList.take k)
    have hl : (s.data.toList.take k).length ≤ k := List.length_take_le _ _
    by_cases hlt : k < s.size
    · have HS := Lib.hid (letters_snoc s k hlt)
      by_cases ht : ldI s[k].toNat = true
      · have HT := Lib.hid ht
        clear ht
        go_wp2_with (go_at_call 40; refine (ld_any _ _).mono ?_; rw [HT.out]; rintro e w' ⟨rfl, rfl⟩)
        go_round
        case rel => exact ⟨k + 1, by omega, by go_num, by rw [HS.out, if_pos HT.out]; go_num⟩
        case measure => simp [intOf]; omega
      · have ht' : ldI s[k].toNat = false := by simpa using ht
        have HT := Lib.hid ht'
        clear ht ht'
        go_wp2_with (go_at_call 40; refine (ld_any _ _).mono ?_; rw [HT.out]; rintro e w' ⟨rfl, rfl⟩)
        go_round
        case rel => exact ⟨k + 1, by omega, by go_num, by rw [HS.out, HT.out]; rfl⟩
        case measure => simp [intOf]; omega
    · go_wp2
      go_ret
      exact ⟨ret_int (by rw [take_all s k (by omega)]), rfl⟩

set_option maxHeartbeats 400000 in
theorem refLetters_any (s : ByteArray) (hs : s.size ≤ maxLen) (w : World) :
    Calls Try.prog 25 #[.string s] w fun e w' => e = .returned (.int .i64 (lettersN s.data.toList)) ∧ w = w' := by
  unfold maxLen at hs
  go_enter Try.func25, Try.ntmps25
  go_wp2
  go_loop [3, 4] (fun n i => ∃ k : Nat, k ≤ s.size ∧ i = .int .i64 k ∧ n = .int .i64 (lettersN (s.data.toList.take k))) (fun _ i => s.size - (intOf i).toNat)
  case atStart => exact ⟨0, Nat.zero_le _, rfl, rfl⟩
  case round =>
    obtain ⟨k, hk, rfl, rfl⟩ := hrel
    have hd := lettersN_le (s.data.toList.take k)
    have hl : (s.data.toList.take k).length ≤ k := List.length_take_le _ _
    by_cases hlt : k < s.size
    · have HS := Lib.hid (letters_snoc s k hlt)
      go_wp2_with (go_at_call 13; refine (refKind_any _ _).mono ?_; rintro e w' ⟨rfl, rfl⟩)
      all_goals
        go_round
        case rel => first
          | exact ⟨k + 1, by omega, by go_num, by rw [HS.out, if_pos (ldk1 (by assumption))]; go_num⟩
          | exact ⟨k + 1, by omega, by go_num, by rw [HS.out, if_pos (ldk3 (by assumption))]; go_num⟩
          | exact ⟨k + 1, by omega, by go_num, by rw [HS.out, if_neg (ldkn (by assumption))]; rfl⟩
        case measure => simp [intOf]; omega
    · go_wp2
      go_ret
      exact ⟨ret_int (by rw [take_all s k (by omega)]), rfl⟩

/-- IsName's result -/
def nameB (l : List UInt8) : Bool := decide (0 < l.length) && decide (l.length ≤ 16) && decide (lettersN l = l.length)

set_option maxHeartbeats 400000 in
theorem name_any (s : ByteArray) (hs : s.size ≤ maxLen) (w : World) :
    Calls Try.prog 18 #[.string s] w fun e w' => e = .returned (.bool (nameB s.data.toList)) ∧ w = w' := by
  go_enter Try.func18, Try.ntmps18
  go_wp2_with (go_at_call 24; refine (letters_any s hs _).mono ?_; rintro e w' ⟨rfl, rfl⟩)
  · have h16 : (s.size : Int) ≤ 16 := by assumption
    have h0 : 0 < s.size := by assumption
    go_ret
    refine ⟨ret_bool ?_, rfl⟩
    have h' : s.size ≤ 16 := by omega
    rw [nameB, size_list]
    by_cases hE : lettersN s.data.toList = s.size
    · rw [hE]; simp [h0, h']
    · have hE' : ¬ ((lettersN s.data.toList : Nat) : Int) = (s.size : Int) := by omega
      simp [hE, hE']
  · have h16 : (16 : Int) < s.size := by assumption
    go_ret
    refine ⟨ret_bool ?_, rfl⟩
    have h' : ¬ s.size ≤ 16 := by omega
    rw [nameB, size_list]; simp [h']
  · have h0 : ¬ 0 < s.size := by assumption
    go_ret
    refine ⟨ret_bool ?_, rfl⟩
    rw [nameB, size_list]; simp [h0]
end Go.Proofs.Ytelpgjlcagbcjaa
