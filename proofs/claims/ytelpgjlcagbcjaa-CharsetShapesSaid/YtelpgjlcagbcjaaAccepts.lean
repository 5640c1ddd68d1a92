/- The walk of the statement CharsetAccepts. -/
import Derived.Test.YtelpgjlcagbcjaaAwake
namespace Go.Proofs.Ytelpgjlcagbcjaa
set_option linter.unusedSimpArgs false
set_option linter.unusedVariables false
open Go.RowKit


/-- P1.2's condition, from a place on; p: the character before is a letter or a mark -/
def wantF : Bool → List UInt8 → Bool
  | _, [] => true
  | p, c :: t => !(decide (kd c = 0) || (decide (kd c = 2) && !p)) && wantF (decide (kd c = 1) || decide (kd c = 2)) t
def accF : Bool → List UInt8 → Bool
  | _, [] => true
  | b, c :: t => !(badB c (decide (kd c = 2) && b)) && accF (decide (kd c = 1) || (decide (kd c = 2) && b)) t
theorem accF_flags : ∀ (b : Bool) (l : List UInt8), accF b l = !((l.zip (flagsB b l)).any fun x => badB x.1 x.2)
  | _, [] => rfl
  | b, c :: t => by
    simp only [accF, flagsB, List.zip_cons_cons, List.any_cons, Bool.not_or, accF_flags]
theorem wantF_accF : ∀ (b : Bool) (l : List UInt8), wantF b l = accF b l
  | _, [] => rfl
  | b, c :: t => by
    simp only [wantF, accF, badB]
    by_cases h2 : kd c = 2
    · cases b
      · simp [h2]
      · simp [h2, wantF_accF]
    · by_cases h0 : kd c = 0
      · simp [h0]
      · simp [h0, h2, wantF_accF]
theorem wantF_acc (l : List UInt8) : wantF false l = accB l := by rw [wantF_accF, accF_flags]; rfl

/-- is the character before place k a letter or a mark -/
def prevB (l : List UInt8) : Nat → Bool
  | 0 => false
  | k + 1 => decide (kd (l[k]?.getD 0) = 1) || decide (kd (l[k]?.getD 0) = 2)
theorem wantF_step (s : ByteArray) (k : Nat) (h : k < s.size) : wantF (prevB s.data.toList k) (s.data.toList.drop k) =
    (!(decide (kd s[k] = 0) || (decide (kd s[k] = 2) && !prevB s.data.toList k)) && wantF (prevB s.data.toList (k + 1)) (s.data.toList.drop (k + 1))) := by
  have e : s.data.toList[k]?.getD 0 = s[k] := by
    rw [List.getElem?_eq_getElem (by simpa using h)]; rfl
  rw [drop_at s k h, wantF, prevB, e]

theorem step_bad {A b X R Y : Bool} (h : A = (b && Y)) (hs : Y = (!X && R)) (hx : X = true) (R' : Bool) : A = (false && R') := by
  subst hx hs; simpa using h
theorem step_good {A b X R Y : Bool} (h : A = (b && Y)) (hs : Y = (!X && R)) (hx : X = false) : A = (b && R) := by
  subst hx hs; simpa using h
section
variable {c : UInt8} {p : Bool}
theorem x_zero (h : kindI c.toNat = 0) : (decide (kd c = 0) || (decide (kd c = 2) && !p)) = true := by simp [kd, h]
theorem x_mark (h : kindI c.toNat = 2) (hp : p = false) : (decide (kd c = 0) || (decide (kd c = 2) && !p)) = true := by simp [kd, h, hp]
theorem x_ok (h0 : ¬ kindI c.toNat = 0) (h2 : ¬ kindI c.toNat = 2) : (decide (kd c = 0) || (decide (kd c = 2) && !p)) = false := by simp [kd, h0, h2]
theorem x_right (h2 : kindI c.toNat = 2) (hp : p = true) : (decide (kd c = 0) || (decide (kd c = 2) && !p)) = false := by simp [kd, h2, hp]
end
theorem prev_at (s : ByteArray) (j : Nat) (h : j < s.size) : prevB s.data.toList (j + 1) = (decide (kindI s[j].toNat = 1) || decide (kindI s[j].toNat = 2)) := by
  have e : s.data.toList[j]?.getD 0 = s[j] := by
    rw [List.getElem?_eq_getElem (by simpa using h)]; rfl
  rw [prevB, e]; rfl
theorem prev_no {s : ByteArray} {j : Nat} (h : j < s.size) (hq : ((j : Int) + 1 == 0) = true ∨ (kindI s[j].toNat != 1) = true ∧ (kindI s[j].toNat != 2) = true) : prevB s.data.toList (j + 1) = false := by
  rw [prev_at s j h]
  rcases hq with hq | ⟨h1, h2⟩
  · have := of_beq hq; omega
  · have a : ¬ kindI s[j].toNat = 1 := by simpa using h1
    have b : ¬ kindI s[j].toNat = 2 := by simpa using h2
    simp [a, b]
theorem prev_letter {s : ByteArray} {j : Nat} (h : j < s.size) (hq : kindI s[j].toNat = 1) : prevB s.data.toList (j + 1) = true := by
  rw [prev_at s j h, hq]; rfl
theorem prev_yes {s : ByteArray} {j : Nat} (h : j < s.size) (hq : ((j : Int) + 1 == 0) = false ∧ ((kindI s[j].toNat != 1) = false ∨ (kindI s[j].toNat != 2) = false)) : prevB s.data.toList (j + 1) = true := by
  rw [prev_at s j h]
  rcases hq.2 with h1 | h1
  · have a : kindI s[j].toNat = 1 := by simpa using h1
    simp [a]
  · have a : kindI s[j].toNat = 2 := by simpa using h1
    simp [a]

set_option maxHeartbeats 2000000 in
theorem accepts_small (s : ByteArray) (h80 : s.size ≤ 80) (w : World) :
    Calls Try.prog 5 #[.string s] w fun e w' => e = .returned (.bool true) ∧ Below w.heap.size w w' := by
  go_enter Try.func5, Try.ntmps5
  go_wp2
  go_loop [3, 12] (fun v i => ∃ (k : Nat) (b : Bool), k ≤ s.size ∧ i = .int .i64 k ∧ v = .bool b ∧ accB s.data.toList = (b && wantF (prevB s.data.toList k) (s.data.toList.drop k))) (fun _ i => s.size - (intOf i).toNat)
  case atStart => exact ⟨0, true, Nat.zero_le _, rfl, rfl, by rw [← wantF_acc]; rfl⟩
  case round =>
    obtain ⟨k, b, hk, rfl, rfl, hacc⟩ := hrel
    have HA := Lib.hid hacc
    clear hacc
    by_cases hlt : k < s.size
    · have HS := Lib.hid (wantF_step s k hlt)
      have hbd := kindI_bd s[k].toNat
      have hb0 : ¬ kindI s[k].toNat < 0 := by omega
      have hb6 : ¬ 6 < kindI s[k].toNat := by omega
      clear hbd
      cases k with
      | zero =>
        go_wp2_with (go_at_call 12; refine (kind_any _ _).mono ?_; rintro e w' ⟨rfl, rfl⟩)
        · go_round
          case rel => exact ⟨1, false, by omega, rfl, rfl, step_bad HA.out HS.out (x_zero (by assumption)) _⟩
          case measure => simp [intOf]; omega
        · go_round
          case rel => exact ⟨1, false, by omega, rfl, rfl, step_bad HA.out HS.out (x_mark (by assumption) rfl) _⟩
          case measure => simp [intOf]; omega
        · go_round
          case rel => exact ⟨1, b, by omega, rfl, rfl, step_good HA.out HS.out (x_ok (by assumption) (by assumption))⟩
          case measure => simp [intOf]; omega
      | succ j =>
        have hj : j < s.size := by omega
        go_wp2_with (go_at_call 12; refine (kind_any _ _).mono ?_; rintro e w' ⟨rfl, rfl⟩)
        · go_round
          case rel => exact ⟨j + 1 + 1, false, by omega, by go_num, rfl, step_bad HA.out HS.out (x_zero (by assumption)) _⟩
          case measure => simp [intOf]; omega
        · go_round
          case rel => exact ⟨j + 1 + 1, b, by omega, by go_num, rfl, step_good HA.out HS.out (x_right (by assumption) (prev_letter hj (by assumption)))⟩
          case measure => simp [intOf]; omega
        · go_round
          case rel => exact ⟨j + 1 + 1, false, by omega, by go_num, rfl, step_bad HA.out HS.out (x_mark (by assumption) (prev_no hj (by assumption))) _⟩
          case measure => simp [intOf]; omega
        · go_round
          case rel => exact ⟨j + 1 + 1, b, by omega, by go_num, rfl, step_good HA.out HS.out (x_right (by assumption) (prev_yes hj (by assumption)))⟩
          case measure => simp [intOf]; omega
        · go_round
          case rel => exact ⟨j + 1 + 1, b, by omega, by go_num, rfl, step_good HA.out HS.out (x_ok (by assumption) (by assumption))⟩
          case measure => simp [intOf]; omega
    · obtain rfl : k = s.size := by omega
      have hb : accB s.data.toList = b := by
        have h := HA.out
        rw [List.drop_eq_nil_of_le (by simp)] at h
        simpa [wantF] using h
      have hc : chk s.data.toList = if b then 0 else 11 := by rw [chk_small (by omega), hb]
      have HC := Lib.hid hc
      clear hb hc
      cases b with
      | true =>
        go_wp2_with fail
        refine (check_at s 0 HC.out (by unfold maxLen; omega) _).mono ?_
        rintro e w1 ⟨rfl, h1⟩
        go_wp2_with fail
        refine (awake_any _).mono ?_
        rintro e w2 ⟨rfl, h2⟩
        go_wp2
        go_ret
        exact ⟨rfl, below_seq h1 h2 (Nat.le_refl _)⟩
      | false =>
        go_wp2_with fail
        refine (check_at s 11 HC.out (by unfold maxLen; omega) _).mono ?_
        rintro e w1 ⟨rfl, h1⟩
        go_wp2_with fail
        refine (awake_any _).mono ?_
        rintro e w2 ⟨rfl, h2⟩
        go_wp2
        go_ret
        exact ⟨rfl, below_seq h1 h2 (Nat.le_refl _)⟩

set_option maxHeartbeats 400000 in
theorem accepts_any (s : ByteArray) (_hs : s.size ≤ maxLen) (w : World) :
    Calls Try.prog 5 #[.string s] w fun e w' => e = .returned (.bool true) ∧ Below w.heap.size w w' := by
  by_cases h : s.size ≤ 80
  · exact accepts_small s h w
  · go_enter Try.func5, Try.ntmps5
    go_wp2_with fail
    refine (awake_any _).mono ?_
    rintro e w2 ⟨rfl, h2⟩
    go_wp2
    go_ret
    exact ⟨rfl, h2⟩
end Go.Proofs.Ytelpgjlcagbcjaa
