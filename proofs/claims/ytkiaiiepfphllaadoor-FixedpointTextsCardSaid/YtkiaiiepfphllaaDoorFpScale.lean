/- The reference of Scale. -/
import Derived.Test.YtkiaiiepfphllaaDoorFpRefs
namespace Go.Proofs.YtkiaiiepfphllaaDoor
set_option linter.unusedSimpArgs false
set_option linter.unusedVariables false
open Go.RowKit

/-- an ending, behind draws alone -/
def Drew (e0 : Ending) (w : World) (e : Ending) (w' : World) : Prop := e = e0 ∧ ∃ q, w' = w.drewN q
theorem round_eq (m den : Int) (hd : 0 < den) : (2 * m + den) / (2 * den) = if den ≤ 2 * (m % den) then m / den + 1 else m / den := by
  have h1 := Int.mul_ediv_add_emod m den
  have h3 := Int.emod_nonneg m (by omega : den ≠ 0)
  have h4 := Int.emod_lt_of_pos m hd
  have e2 : ∀ t : Int, 2 * den * t = 2 * (den * t) := fun t => by rw [Int.mul_assoc]
  by_cases h : den ≤ 2 * (m % den)
  · rw [if_pos h]
    refine ((Int.ediv_emod_unique (r := 2 * (m % den) - den) (by omega : 0 < 2 * den)).2 ⟨?_, by omega, by omega⟩).1
    rw [e2, Int.mul_add]; omega
  · rw [if_neg h]
    refine ((Int.ediv_emod_unique (r := 2 * (m % den) + den) (by omega : 0 < 2 * den)).2 ⟨?_, by omega, by omega⟩).1
    rw [e2]; omega

set_option maxHeartbeats 1000000 in
theorem refScale_bad (n num den : Int) (h : (isLen n && decide (0 ≤ num) && decide (num ≤ 1073741824) && decide (1 ≤ den) && decide (den ≤ 1073741824)) = false) (w : World) :
    Calls Tryd.prog 21 #[.int .i64 n, .int .i64 num, .int .i64 den] w fun e w' => e = .returned (pairV (scaleR n num den)) ∧ w = w' := by
  have hr : scaleR n num den = (0, 2) := by rw [scaleR, h]; rfl
  rw [hr]
  have HH := Lib.hid h
  clear h hr
  by_cases h1 : isLen n = true
  · have HK := Lib.hid (show chkN n = 0 by rw [chkN, h1]; rfl)
    have H1 := Lib.hid h1
    clear h1
    have h2 : num < 0 ∨ (¬ num < 0 ∧ 1073741824 < num) ∨ (¬ num < 0 ∧ ¬ 1073741824 < num ∧ den < 1) ∨ (¬ num < 0 ∧ ¬ 1073741824 < num ∧ ¬ den < 1 ∧ 1073741824 < den) := by
      have := HH.out
      rw [H1.out] at this
      simp at this
      omega
    clear HH H1
    rcases h2 with h2 | ⟨h2, h3⟩ | ⟨h2, h3, h4⟩ | ⟨h2, h3, h4, h5⟩
    all_goals
      go_enter Tryd.func21, Tryd.ntmps21
      go_wp2_with (go_at_call 16; refine (refChk_at n 0 HK.out _).mono ?_; rintro e w' ⟨rfl, rfl⟩)
      go_ret2
      exact ⟨rfl, rfl⟩
  · have HK := Lib.hid (show chkN n = 2 by rw [chkN, if_neg h1])
    clear h1 HH
    go_enter Tryd.func21, Tryd.ntmps21
    go_wp2_with (go_at_call 16; refine (refChk_at n 2 HK.out _).mono ?_; rintro e w' ⟨rfl, rfl⟩)
    go_ret2
    exact ⟨rfl, rfl⟩

set_option maxHeartbeats 1000000 in
theorem refScale_pos (n num den : Int) (h0 : 0 ≤ n) (hn : n ≤ 1073741824) (h1 : 0 ≤ num) (h2 : num ≤ 1073741824) (h3 : 1 ≤ den) (h4 : den ≤ 1073741824) (w : World) :
    Calls Tryd.prog 21 #[.int .i64 n, .int .i64 num, .int .i64 den] w (Drew (.returned (pairV (scaleR n num den))) w) := by
  obtain ⟨m, hm⟩ : ∃ m, n * num = m := ⟨_, rfl⟩
  have m0 : 0 ≤ m := by rw [← hm]; exact Int.mul_nonneg h0 h1
  have m1 : m ≤ 1152921504606846976 := by
    have := Int.mul_le_mul hn h2 h1 (by omega)
    rw [← hm]; omega
  have HK := Lib.hid (show chkN n = 0 by rw [chkN, isLen_of (by omega) hn]; rfl)
  have hw1 : IntKind.i64.wrap (n * num) = m := by rw [hm]; exact IntWalk.i64_in _ (by omega)
  obtain ⟨q, hq⟩ : ∃ q, m / den = q := ⟨_, rfl⟩
  obtain ⟨r, hr⟩ : ∃ r, m % den = r := ⟨_, rfl⟩
  have q0 : 0 ≤ q := by rw [← hq]; exact Int.ediv_nonneg m0 (by omega)
  have q1 : q ≤ 1152921504606846976 := by rw [← hq]; exact Int.le_trans (Int.ediv_le_self _ m0) m1
  have r0 : 0 ≤ r := by rw [← hr]; exact Int.emod_nonneg m (by omega)
  have r1 : r < den := by rw [← hr]; exact Int.emod_lt_of_pos m (by omega)
  have ht : m.tdiv den = q := by rw [← hq]; exact Int.tdiv_eq_ediv_of_nonneg m0
  have hmd : m.tmod den = r := by rw [← hr]; exact Int.tmod_eq_emod_of_nonneg m0
  have hw2 : IntKind.i64.wrap (m.tdiv den) = q := by rw [ht]; exact IntWalk.i64_in _ (by omega)
  have hd0 : ¬ den = 0 := by omega
  have hres : scaleR n num den = if (if den ≤ 2 * r then q + 1 else q) ≤ 1073741824 then ((if den ≤ 2 * r then q + 1 else q), 0) else (0, 4) := by
    have e : scaleQ n num den = if den ≤ 2 * r then q + 1 else q := by
      rw [scaleQ, show (n.natAbs : Int) = n by omega, hm, round_eq _ _ (by omega), hq, hr]
    rw [scaleR, e, isLen_of (by omega) hn]
    have : ¬ n < 0 := by omega
    simp [h1, h2, h3, h4, this]
  have HR := Lib.hid hres
  obtain ⟨res, hrs⟩ : ∃ res, scaleR n num den = res := ⟨_, rfl⟩
  rw [hrs]
  have HRS := Lib.hid hrs
  clear hres hrs hq hr hm
  have hn0 : ¬ n < 0 := by omega
  by_cases c1 : den ≤ 2 * r
  · go_enter Tryd.func21, Tryd.ntmps21
    go_wp2_with (go_at_call 16; refine (refChk_at n 0 HK.out _).mono ?_; rintro e w' ⟨rfl, rfl⟩)
    go_quiet (fail)
    go_wp2
    · go_ret2
      exact ⟨ret_pair (by rw [← HRS.out, HR.out, if_pos c1, if_neg (by omega)]), nq, rfl⟩
    · go_ret2
      exact ⟨ret_pair (by rw [← HRS.out, HR.out, if_pos c1, if_pos (by omega)]), nq, rfl⟩
  · go_enter Tryd.func21, Tryd.ntmps21
    go_wp2_with (go_at_call 16; refine (refChk_at n 0 HK.out _).mono ?_; rintro e w' ⟨rfl, rfl⟩)
    go_quiet (fail)
    go_wp2
    · go_ret2
      exact ⟨ret_pair (by rw [← HRS.out, HR.out, if_neg (show ¬ den ≤ 2 * r by omega), if_neg (by omega)]), nq, rfl⟩
    · go_ret2
      exact ⟨ret_pair (by rw [← HRS.out, HR.out, if_neg (show ¬ den ≤ 2 * r by omega), if_pos (by omega)]), nq, rfl⟩

set_option maxHeartbeats 1000000 in
theorem refScale_neg (n num den : Int) (h0 : n < 0) (hn : -1073741824 ≤ n) (h1 : 0 ≤ num) (h2 : num ≤ 1073741824) (h3 : 1 ≤ den) (h4 : den ≤ 1073741824) (w : World) :
    Calls Tryd.prog 21 #[.int .i64 n, .int .i64 num, .int .i64 den] w (Drew (.returned (pairV (scaleR n num den))) w) := by
  obtain ⟨m, hm⟩ : ∃ m, (-n) * num = m := ⟨_, rfl⟩
  have m0 : 0 ≤ m := by rw [← hm]; exact Int.mul_nonneg (by omega) h1
  have m1 : m ≤ 1152921504606846976 := by
    have := Int.mul_le_mul (by omega : -n ≤ 1073741824) h2 h1 (by omega)
    rw [← hm]; omega
  have HK := Lib.hid (show chkN n = 0 by rw [chkN, isLen_of hn (by omega)]; rfl)
  have hw1 : IntKind.i64.wrap (-n * num) = m := by rw [hm]; exact IntWalk.i64_in _ (by omega)
  have hw1' : IntKind.i64.wrap (-(n * num)) = m := by rw [← Int.neg_mul, hm]; exact IntWalk.i64_in _ (by omega)
  obtain ⟨q, hq⟩ : ∃ q, m / den = q := ⟨_, rfl⟩
  obtain ⟨r, hr⟩ : ∃ r, m % den = r := ⟨_, rfl⟩
  have q0 : 0 ≤ q := by rw [← hq]; exact Int.ediv_nonneg m0 (by omega)
  have q1 : q ≤ 1152921504606846976 := by rw [← hq]; exact Int.le_trans (Int.ediv_le_self _ m0) m1
  have r0 : 0 ≤ r := by rw [← hr]; exact Int.emod_nonneg m (by omega)
  have r1 : r < den := by rw [← hr]; exact Int.emod_lt_of_pos m (by omega)
  have ht : m.tdiv den = q := by rw [← hq]; exact Int.tdiv_eq_ediv_of_nonneg m0
  have hmd : m.tmod den = r := by rw [← hr]; exact Int.tmod_eq_emod_of_nonneg m0
  have hw2 : IntKind.i64.wrap (m.tdiv den) = q := by rw [ht]; exact IntWalk.i64_in _ (by omega)
  have hd0 : ¬ den = 0 := by omega
  have hres : scaleR n num den = if (if den ≤ 2 * r then q + 1 else q) ≤ 1073741824 then (- (if den ≤ 2 * r then q + 1 else q), 0) else (0, 4) := by
    have e : scaleQ n num den = if den ≤ 2 * r then q + 1 else q := by
      rw [scaleQ, show (n.natAbs : Int) = -n by omega, hm, round_eq _ _ (by omega), hq, hr]
    rw [scaleR, e, isLen_of hn (by omega)]
    simp [h1, h2, h3, h4, h0]
  have HR := Lib.hid hres
  obtain ⟨res, hrs⟩ : ∃ res, scaleR n num den = res := ⟨_, rfl⟩
  rw [hrs]
  have HRS := Lib.hid hrs
  clear hres hrs hq hr hm
  by_cases c1 : den ≤ 2 * r
  · go_enter Tryd.func21, Tryd.ntmps21
    go_wp2_with (go_at_call 16; refine (refChk_at n 0 HK.out _).mono ?_; rintro e w' ⟨rfl, rfl⟩)
    go_quiet (fail)
    go_wp2
    · go_ret2
      exact ⟨ret_pair (by rw [← HRS.out, HR.out, if_pos c1, if_neg (by omega)]), nq, rfl⟩
    · go_ret2
      exact ⟨ret_pair (by rw [← HRS.out, HR.out, if_pos c1, if_pos (by omega)]), nq, rfl⟩
  · go_enter Tryd.func21, Tryd.ntmps21
    go_wp2_with (go_at_call 16; refine (refChk_at n 0 HK.out _).mono ?_; rintro e w' ⟨rfl, rfl⟩)
    go_quiet (fail)
    go_wp2
    · go_ret2
      exact ⟨ret_pair (by rw [← HRS.out, HR.out, if_neg (show ¬ den ≤ 2 * r by omega), if_neg (by omega)]), nq, rfl⟩
    · go_ret2
      exact ⟨ret_pair (by rw [← HRS.out, HR.out, if_neg (show ¬ den ≤ 2 * r by omega), if_pos (by omega)]), nq, rfl⟩

theorem refScale_any (n num den : Int) (w : World) :
    Calls Tryd.prog 21 #[.int .i64 n, .int .i64 num, .int .i64 den] w (Drew (.returned (pairV (scaleR n num den))) w) := by
  by_cases h : (isLen n && decide (0 ≤ num) && decide (num ≤ 1073741824) && decide (1 ≤ den) && decide (den ≤ 1073741824)) = true
  · have h' := h
    simp only [Bool.and_eq_true, decide_eq_true_eq] at h'
    obtain ⟨⟨⟨⟨a, b⟩, c⟩, d⟩, e⟩ := h'
    have hb := isLen_bd a
    by_cases h0 : 0 ≤ n
    · exact refScale_pos n num den h0 hb.2 b c d e w
    · exact refScale_neg n num den (by omega) hb.1 b c d e w
  · exact (refScale_bad n num den (by simpa using h) w).mono fun e w' ⟨h1, h2⟩ => ⟨h1, 0, by rw [← h2]; rfl⟩
end Go.Proofs.YtkiaiiepfphllaaDoor
