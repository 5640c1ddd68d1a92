/- Contracts of layer 2's own small functions: Check, absolute, isSize, divideDown, Scale, Sum. -/
import Derived.Test.YtkiaiiepfphllaaDoorFpDist
namespace Go.Proofs.YtkiaiiepfphllaaDoor
set_option linter.unusedSimpArgs false
set_option linter.unusedVariables false
set_option maxRecDepth 100000
open Go.RowKit

set_option maxHeartbeats 400000 in
theorem chk_any (n : Int) (w : World) :
    Calls Tryd.prog 15 #[.int .i64 n] w fun e w' => e = .returned (.int .i64 (chkN n)) ∧ w = w' := by
  go_enter Tryd.func15, Tryd.ntmps15
  by_cases h1 : n < -1073741824
  · go_wp2
    go_ret
    exact ⟨ret_int (by rw [chkN, isLen_low h1]; rfl), rfl⟩
  · by_cases h2 : 1073741824 < n
    · go_wp2
      go_ret
      exact ⟨ret_int (by rw [chkN, isLen_high h2]; rfl), rfl⟩
    · go_wp2
      go_ret
      exact ⟨ret_int (by rw [chkN, isLen_of (by omega) (by omega)]; rfl), rfl⟩
theorem chk_at (n r : Int) (h : chkN n = r) (w : World) :
    Calls Tryd.prog 15 #[.int .i64 n] w fun e w' => e = .returned (.int .i64 r) ∧ w = w' := by subst h; exact chk_any n w
theorem abs_pos (n : Int) (h0 : 0 ≤ n) (h1 : n ≤ 1073741824) (w : World) :
    Calls Tryd.prog 39 #[.int .i64 n] w fun e w' => e = .returned (.int .i64 n) ∧ w = w' := by
  go_enter Tryd.func39, Tryd.ntmps39
  go_wp2
  all_goals
    go_ret
    exact ⟨ret_int (by omega), rfl⟩
theorem abs_neg (n : Int) (h0 : n < 0) (h1 : -1073741824 ≤ n) (w : World) :
    Calls Tryd.prog 39 #[.int .i64 n] w fun e w' => e = .returned (.int .i64 (-n)) ∧ w = w' := by
  go_enter Tryd.func39, Tryd.ntmps39
  go_wp2
  all_goals
    go_ret
    exact ⟨ret_int (by omega), rfl⟩
theorem abs_any (n a : Int) (ha : a = max n (-n)) (h0 : -1073741824 ≤ n) (h1 : n ≤ 1073741824) (w : World) :
    Calls Tryd.prog 39 #[.int .i64 n] w fun e w' => e = .returned (.int .i64 a) ∧ w = w' := by
  by_cases h : 0 ≤ n
  · obtain rfl : a = n := by omega
    exact abs_pos a h h1 w
  · obtain rfl : a = -n := by omega
    exact abs_neg n (by omega) h0 w
theorem size_yes (n : Int) (h0 : 0 ≤ n) (h1 : n ≤ 1073741824) (w : World) :
    Calls Tryd.prog 41 #[.int .i64 n] w fun e w' => e = .returned (.bool true) ∧ w = w' := by
  go_enter Tryd.func41, Tryd.ntmps41
  go_wp2
  all_goals
    go_ret
    exact ⟨by simp [*], rfl⟩
theorem size_no (n : Int) (h : n < 0 ∨ (0 ≤ n ∧ 1073741824 < n)) (w : World) :
    Calls Tryd.prog 41 #[.int .i64 n] w fun e w' => e = .returned (.bool false) ∧ w = w' := by
  rcases h with h | ⟨h, h2⟩
  all_goals
    go_enter Tryd.func41, Tryd.ntmps41
    go_wp2
    all_goals
      go_ret
      exact ⟨by first | rfl | (simp; omega), rfl⟩
set_option maxHeartbeats 400000 in
theorem div_any (a b : Int) (h1 : -4611686018427387904 ≤ a) (h2 : a ≤ 4611686018427387904) (hb : 0 < b) (hb2 : b ≤ 1073741824) (w : World) :
    Calls Tryd.prog 42 #[.int .i64 a, .int .i64 b] w fun e w' => e = .returned (.int .i64 (a / b)) ∧ w = w' := by
  have hf := floor_eq a b hb
  obtain ⟨f, hff⟩ : ∃ f, a / b = f := ⟨_, rfl⟩
  rw [hff] at hf ⊢
  have HF := Lib.hid hf
  obtain ⟨q1, q2⟩ := tdiv_bd a b h1 h2
  clear hf hff
  by_cases h : a.tmod b < 0
  · go_enter Tryd.func42, Tryd.ntmps42
    go_wp2
    go_ret
    exact ⟨ret_int (by rw [← HF.out, if_pos h]), rfl⟩
  · go_enter Tryd.func42, Tryd.ntmps42
    go_wp2
    go_ret
    exact ⟨ret_int (by rw [← HF.out, if_neg (by omega)]), rfl⟩
theorem div_at (a b r : Int) (h : a / b = r) (h1 : -4611686018427387904 ≤ a) (h2 : a ≤ 4611686018427387904) (hb : 0 < b) (hb2 : b ≤ 1073741824) (w : World) :
    Calls Tryd.prog 42 #[.int .i64 a, .int .i64 b] w fun e w' => e = .returned (.int .i64 r) ∧ w = w' := by subst h; exact div_any a b h1 h2 hb hb2 w

/-! ### Scale -/
set_option maxHeartbeats 1000000 in
theorem scale_bad (n num den : Int) (h : (isLen n && decide (0 ≤ num) && decide (num ≤ 1073741824) && decide (1 ≤ den) && decide (den ≤ 1073741824)) = false) (w : World) :
    Calls Tryd.prog 20 #[.int .i64 n, .int .i64 num, .int .i64 den] w fun e w' => e = .returned (pairV (scaleR n num den)) ∧ w = w' := by
  have hr : scaleR n num den = (0, 2) := by rw [scaleR, h]; rfl
  rw [hr]
  have HH := Lib.hid h
  clear h hr
  by_cases h1 : isLen n = true
  · have HK := Lib.hid (show chkN n = 0 by rw [chkN, h1]; rfl)
    have H1 := Lib.hid h1
    clear h1
    have h2 : (num < 0 ∨ (0 ≤ num ∧ 1073741824 < num)) ∨ ((0 ≤ num ∧ num ≤ 1073741824) ∧ (den < 0 ∨ (0 ≤ den ∧ 1073741824 < den))) ∨ ((0 ≤ num ∧ num ≤ 1073741824) ∧ den = 0) := by
      have := HH.out
      rw [H1.out] at this
      simp at this
      omega
    clear HH H1
    rcases h2 with h2 | ⟨⟨h2, h3⟩, h4⟩ | ⟨⟨h2, h3⟩, rfl⟩
    · have H2 := Lib.hid h2
      clear h2
      go_enter Tryd.func20, Tryd.ntmps20
      go_wp2_with (first
        | (go_at_call 15; refine (chk_at n 0 HK.out _).mono ?_; rintro e w' ⟨rfl, rfl⟩)
        | (go_at_call 41; refine (size_no num H2.out _).mono ?_; rintro e w' ⟨rfl, rfl⟩))
      go_ret2
      exact ⟨rfl, rfl⟩
    · have H4 := Lib.hid h4
      clear h4
      go_enter Tryd.func20, Tryd.ntmps20
      go_wp2_with (first
        | (go_at_call 15; refine (chk_at n 0 HK.out _).mono ?_; rintro e w' ⟨rfl, rfl⟩)
        | (go_at_call 41; ((with_reducible refine (size_yes num h2 h3 _).mono ?_); rintro e w' ⟨rfl, rfl⟩))
        | (go_at_call 41; ((with_reducible refine (size_no den H4.out _).mono ?_); rintro e w' ⟨rfl, rfl⟩)))
      go_ret2
      exact ⟨rfl, rfl⟩
    · go_enter Tryd.func20, Tryd.ntmps20
      go_wp2_with (first
        | (go_at_call 15; refine (chk_at n 0 HK.out _).mono ?_; rintro e w' ⟨rfl, rfl⟩)
        | (go_at_call 41; refine (size_yes _ (by omega) (by omega) _).mono ?_; rintro e w' ⟨rfl, rfl⟩))
      go_ret2
      exact ⟨rfl, rfl⟩
  · have HK := Lib.hid (show chkN n = 2 by rw [chkN, if_neg h1])
    clear h1 HH
    go_enter Tryd.func20, Tryd.ntmps20
    go_wp2_with (go_at_call 15; refine (chk_at n 2 HK.out _).mono ?_; rintro e w' ⟨rfl, rfl⟩)
    go_ret2
    exact ⟨rfl, rfl⟩

set_option maxHeartbeats 1000000 in
theorem scale_good (n num den : Int) (hl : -1073741824 ≤ n) (hn : n ≤ 1073741824) (h1 : 0 ≤ num) (h2 : num ≤ 1073741824) (h3 : 1 ≤ den) (h4 : den ≤ 1073741824) (w : World) :
    Calls Tryd.prog 20 #[.int .i64 n, .int .i64 num, .int .i64 den] w fun e w' => e = .returned (pairV (scaleR n num den)) ∧ w = w' := by
  obtain ⟨a, ha⟩ : ∃ a : Int, a = max n (-n) := ⟨_, rfl⟩
  have a0 : 0 ≤ a := by omega
  have a1 : a ≤ 1073741824 := by omega
  have HA := Lib.hid ha
  obtain ⟨m, hm⟩ : ∃ m, 2 * a * num = m := ⟨_, rfl⟩
  have m0 : 0 ≤ m := by rw [← hm]; exact Int.mul_nonneg (by omega) h1
  have m1 : m ≤ 2305843009213693952 := by
    have := Int.mul_le_mul (show 2 * a ≤ 2147483648 by omega) h2 h1 (by omega)
    rw [← hm]; omega
  have HK := Lib.hid (show chkN n = 0 by rw [chkN, isLen_of hl hn]; rfl)
  have hw1 : IntKind.i64.wrap (2 * a * num) = m := by rw [hm]; exact IntWalk.i64_in _ (by omega)
  obtain ⟨q, hq⟩ : ∃ q, (m + den) / (2 * den) = q := ⟨_, rfl⟩
  have q0 : 0 ≤ q := by rw [← hq]; exact Int.ediv_nonneg (by omega) (by omega)
  have q1 : q ≤ 2305843010287435776 := by rw [← hq]; exact Int.le_trans (Int.ediv_le_self _ (by omega)) (by omega)
  have hres : scaleR n num den = if q ≤ 1073741824 then (if n < 0 then -q else q, 0) else (0, 4) := by
    have e : scaleQ n num den = q := by
      rw [scaleQ, show (n.natAbs : Int) = a by omega, ← Int.mul_assoc, hm, hq]
    rw [scaleR, e, isLen_of hl hn]
    simp [h1, h2, h3, h4]
  obtain ⟨res, hrs⟩ : ∃ res, scaleR n num den = res := ⟨_, rfl⟩
  rw [hrs]
  rw [hrs] at hres
  have HR := Lib.hid hres
  have HQ := Lib.hid hq
  have ht : (m + den).tdiv (2 * den) = q := by rw [← hq]; exact Int.tdiv_eq_ediv_of_nonneg (by omega)
  clear hres hrs hm ha
  have hd0 : ¬ 2 * den = 0 := by omega
  have hcs : 1073741824 < q ∨ (q ≤ 1073741824 ∧ n < 0) ∨ (q ≤ 1073741824 ∧ 0 ≤ n) := by omega
  rcases hcs with c1 | ⟨c1, c2⟩ | ⟨c1, c2⟩
  all_goals
    go_enter Tryd.func20, Tryd.ntmps20
    go_wp2_with (first
      | (go_at_call 15; refine (chk_at n 0 HK.out _).mono ?_; rintro e w' ⟨rfl, rfl⟩)
      | (go_at_call 41; refine (size_yes _ (by omega) (by omega) _).mono ?_; rintro e w' ⟨rfl, rfl⟩)
      | (go_at_call 39; refine (abs_any n a HA.out (by omega) (by omega) _).mono ?_; rintro e w' ⟨rfl, rfl⟩))
    go_ret2
    exact ⟨ret_pair (by rw [HR.out]; first | rw [if_neg (by omega)] | rw [if_pos (by omega), if_pos (by omega)] | rw [if_pos (by omega), if_neg (by omega)]), rfl⟩

theorem scale_any (n num den : Int) (w : World) :
    Calls Tryd.prog 20 #[.int .i64 n, .int .i64 num, .int .i64 den] w fun e w' => e = .returned (pairV (scaleR n num den)) ∧ w = w' := by
  by_cases h : (isLen n && decide (0 ≤ num) && decide (num ≤ 1073741824) && decide (1 ≤ den) && decide (den ≤ 1073741824)) = true
  · have h' := h
    simp only [Bool.and_eq_true, decide_eq_true_eq] at h'
    obtain ⟨⟨⟨⟨a, b⟩, c⟩, d⟩, e⟩ := h'
    have hb := isLen_bd a
    exact scale_good n num den hb.1 hb.2 b c d e w
  · exact scale_bad n num den (by simpa using h) w
theorem scale_at (n num den : Int) (r : Int × Int) (h : scaleR n num den = r) (w : World) :
    Calls Tryd.prog 20 #[.int .i64 n, .int .i64 num, .int .i64 den] w fun e w' => e = .returned (pairV r) ∧ w = w' := by subst h; exact scale_any n num den w
end Go.Proofs.YtkiaiiepfphllaaDoor
