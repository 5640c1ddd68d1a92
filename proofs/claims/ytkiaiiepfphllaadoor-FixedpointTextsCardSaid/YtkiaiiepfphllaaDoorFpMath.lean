/- Plain mathematics of layer 2: lengths, sums, scaling. Nothing here speaks of the program. -/
namespace Go.Proofs.YtkiaiiepfphllaaDoor
set_option linter.unusedSimpArgs false
set_option linter.unusedVariables false

/-- is n a length -/
def isLen (n : Int) : Bool := decide (-1073741824 ≤ n) && decide (n ≤ 1073741824)
def chkN (n : Int) : Int := if isLen n then 0 else 2
theorem isLen_bd {n : Int} (h : isLen n = true) : -1073741824 ≤ n ∧ n ≤ 1073741824 := by simpa [isLen] using h
theorem isLen_of {n : Int} (h1 : -1073741824 ≤ n) (h2 : n ≤ 1073741824) : isLen n = true := by simp [isLen, h1, h2]
theorem isLen_low {n : Int} (h : n < -1073741824) : isLen n = false := by simp [isLen]; omega
theorem isLen_high {n : Int} (h : 1073741824 < n) : isLen n = false := by simp [isLen]; omega
def sumZ (l : List Int) : Int := l.foldl (· + ·) 0
theorem sumZ_snoc (l : List Int) (x : Int) : sumZ (l ++ [x]) = sumZ l + x := by simp [sumZ]
/-- Sum's result -/
def sumR (l : List Int) : Int × Int :=
  if 4096 < l.length then (0, 4) else if l.all isLen then (if isLen (sumZ l) then (sumZ l, 0) else (0, 4)) else (0, 2)
theorem sumZ_bd : ∀ (l : List Int) (k : Nat), l.length ≤ k → l.all isLen = true → -1073741824 * (k : Int) ≤ sumZ l ∧ sumZ l ≤ 1073741824 * (k : Int) := by
  intro l
  induction hl : l.length generalizing l with
  | zero =>
    intro k hk _
    have : l = [] := List.length_eq_zero_iff.1 hl
    subst this
    simp [sumZ]; omega
  | succ n ih =>
    intro k hk ha
    obtain ⟨a, x, rfl⟩ : ∃ a x, l = a ++ [x] := ⟨l.dropLast, l.getLast (by intro e; simp [e] at hl), (List.dropLast_concat_getLast _).symm⟩
    have hla : a.length = n := by simpa using hl
    rw [List.all_append, Bool.and_eq_true] at ha
    have hx : isLen x = true := by simpa using ha.2
    have hb := isLen_bd hx
    obtain ⟨k', rfl⟩ : ∃ k', k = k' + 1 := ⟨k - 1, by omega⟩
    have := ih a hla k' (by omega) ha.1
    rw [sumZ_snoc]
    omega

/-- Scale's result, for a length, a numerator and a denominator in their bounds -/
def scaleQ (n num den : Int) : Int := (2 * (n.natAbs * num) + den) / (2 * den)
def scaleR (n num den : Int) : Int × Int :=
  if isLen n && decide (0 ≤ num) && decide (num ≤ 1073741824) && decide (1 ≤ den) && decide (den ≤ 1073741824) then
    (if scaleQ n num den ≤ 1073741824 then (if n < 0 then - scaleQ n num den else scaleQ n num den, 0) else (0, 4))
  else (0, 2)

/-- rounded down -/
theorem floor_eq (a b : Int) (hb : 0 < b) : (if a.tmod b < 0 then a.tdiv b - 1 else a.tdiv b) = a / b := by
  have h1 := Int.mul_tdiv_add_tmod a b
  have h5 := Int.lt_tmod_of_pos a hb
  have h6 := Int.tmod_lt_of_pos a hb
  by_cases h : a.tmod b < 0
  · rw [if_pos h]
    refine (((Int.ediv_emod_unique (r := a.tmod b + b) hb).2 ⟨?_, by omega, by omega⟩).1).symm
    rw [Int.mul_sub]; omega
  · rw [if_neg h]
    exact (((Int.ediv_emod_unique (r := a.tmod b) hb).2 ⟨by omega, by omega, by omega⟩).1).symm
end Go.Proofs.YtkiaiiepfphllaaDoor
