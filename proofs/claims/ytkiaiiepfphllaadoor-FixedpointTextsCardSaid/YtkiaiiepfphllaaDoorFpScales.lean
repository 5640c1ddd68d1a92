/- The walk of FixedpointScales. -/
import Derived.Test.YtkiaiiepfphllaaDoorFpAwake
namespace Go.Proofs.YtkiaiiepfphllaaDoor
set_option linter.unusedSimpArgs false
set_option linter.unusedVariables false
set_option maxRecDepth 100000
open Go.RowKit

theorem wf_i32 {a : Int} (h : (Lit.int .i32 a).wf = true) : -2147483648 ≤ a ∧ a ≤ 2147483647 := by
  have e1 : IntKind.i32.min = -2147483648 := by decide
  have e2 : IntKind.i32.max = 2147483647 := by decide
  simp [Lit.wf] at h; omega
theorem wf_u32 {a : Int} (h : (Lit.int .u32 a).wf = true) : 0 ≤ a ∧ a ≤ 4294967295 := by
  have e1 : IntKind.u32.min = 0 := by decide
  have e2 : IntKind.u32.max = 4294967295 := by decide
  simp [Lit.wf] at h; omega
theorem wf_u8 {a : Int} (h : (Lit.int .u8 a).wf = true) : 0 ≤ a ∧ a ≤ 255 := by
  have e1 : IntKind.u8.min = 0 := by decide
  have e2 : IntKind.u8.max = 255 := by decide
  simp [Lit.wf] at h; omega
theorem wf_i64 {a : Int} (h : (Lit.int .i64 a).wf = true) : -9223372036854775808 ≤ a ∧ a ≤ 9223372036854775807 := by
  have e1 : IntKind.i64.min = -9223372036854775808 := by decide
  have e2 : IntKind.i64.max = 9223372036854775807 := by decide
  simp [Lit.wf] at h; omega

theorem scale_facts (A B C P q : Int) (a0 : -1073741824 < A) (a1 : A < 1073741824) (b0 : 0 ≤ B) (b1 : B < 1073741824) (c0 : 1 ≤ C) (c1 : C ≤ 1073741824) (hP : max A (-A) * B = P) (hq : scaleQ A B C = q) :
    0 ≤ P ∧ P ≤ 1152921504606846976 ∧ 0 ≤ q ∧ P / C ≤ q ∧ (1073741824 < q → 1073741824 ≤ P / C) ∧ 2 * (q * C) ≤ 2 * P + C ∧ 2 * P < 2 * (q * C) + C ∧ (A = 0 → q = 0) ∧ (0 ≤ A → A * B = P) ∧ (A < 0 → A * B = -P) ∧ q ≤ 2305843009213693952 := by
  have hm : 0 ≤ max A (-A) ∧ max A (-A) ≤ 1073741824 := by omega
  have p0 : 0 ≤ P := by rw [← hP]; exact Int.mul_nonneg hm.1 b0
  have p1 : P ≤ 1152921504606846976 := by
    have := Int.mul_le_mul hm.2 (show B ≤ 1073741824 by omega) b0 (by omega)
    rw [← hP]; omega
  have hq' : (2 * P + C) / (2 * C) = q := by rw [← hq, scaleQ, show (A.natAbs : Int) = max A (-A) by omega, hP]
  have q0 : 0 ≤ q := by rw [← hq']; exact Int.ediv_nonneg (by omega) (by omega)
  have d1 := Int.mul_ediv_add_emod (2 * P + C) (2 * C)
  have d2 := Int.emod_nonneg (2 * P + C) (show 2 * C ≠ 0 by omega)
  have d3 := Int.emod_lt_of_pos (2 * P + C) (show 0 < 2 * C by omega)
  rw [hq', show 2 * C * q = 2 * (q * C) by rw [Int.mul_assoc, Int.mul_comm C q]] at d1
  have e1 := Int.mul_ediv_add_emod P C
  have e2 := Int.emod_nonneg P (show C ≠ 0 by omega)
  have e3 := Int.emod_lt_of_pos P (show 0 < C by omega)
  refine ⟨p0, p1, q0, ?_, fun hbig => ?_, by omega, by omega, fun h => ?_, fun h => ?_, fun h => ?_, ?_⟩
  · rw [← hq']
    refine (Int.le_ediv_iff_mul_le (by omega)).2 ?_
    rw [show P / C * (2 * C) = 2 * (C * (P / C)) by rw [Int.mul_left_comm, Int.mul_comm (P / C) C]]
    omega
  · refine (Int.le_ediv_iff_mul_le (by omega)).2 ?_
    have := Int.mul_le_mul_of_nonneg_right (show 1073741825 ≤ q by omega) (show 0 ≤ C by omega)
    omega
  · subst h
    have : P = 0 := by rw [← hP]; simp
    rw [← hq', this]; exact Int.ediv_eq_zero_of_lt (by omega) (by omega)
  · rw [← hP, show max A (-A) = A by omega]
  · rw [← hP, show max A (-A) = -A by omega, Int.neg_mul]; omega
  · have h9 := Int.mul_le_mul_of_nonneg_left c0 q0
    omega

theorem scaleR_ok (A B C q : Int) (a0 : -1073741824 < A) (a1 : A < 1073741824) (b0 : 0 ≤ B) (b1 : B ≤ 1073741824) (c0 : 1 ≤ C) (c1 : C ≤ 1073741824) (hq : scaleQ A B C = q) :
    scaleR A B C = if q ≤ 1073741824 then (if A < 0 then -q else q, 0) else (0, 4) := by
  rw [scaleR, isLen_of (by omega) (by omega), hq]
  simp [b0, b1, c0, c1]
theorem scaleQ_neg (A B C : Int) : scaleQ (-A) B C = scaleQ A B C := by simp [scaleQ]
theorem scaleQ_same (A C : Int) (c0 : 1 ≤ C) : scaleQ A C C = A.natAbs := by
  rw [scaleQ, show 2 * ((A.natAbs : Int) * C) + C = C + 2 * C * (A.natAbs : Int) by rw [Int.mul_comm (A.natAbs : Int) C, Int.mul_assoc]; omega, Int.add_mul_ediv_left _ _ (by omega), Int.ediv_eq_zero_of_lt (by omega) (by omega)]
  omega

set_option maxHeartbeats 2000000 in
theorem scales_walk (a0 a1 a2 : Int) (h0 : -2147483648 ≤ a0 ∧ a0 ≤ 2147483647) (h1 : 0 ≤ a1 ∧ a1 ≤ 4294967295) (h2 : 0 ≤ a2 ∧ a2 ≤ 4294967295) (w : World) (hT : Tab w) :
    Calls Tryd.prog 7 #[.int .i32 a0, .int .u32 a1, .int .u32 a2] w fun e w' => e = .returned (.bool true) ∧ Below w.heap.size w w' := by
  obtain ⟨l0, u0⟩ := h0
  obtain ⟨l1, u1⟩ := h1
  obtain ⟨l2, u2⟩ := h2
  obtain ⟨A, hA⟩ : ∃ A, a0.tmod 1073741824 = A := ⟨_, rfl⟩
  obtain ⟨B, hB⟩ : ∃ B, a1 % 1073741824 = B := ⟨_, rfl⟩
  obtain ⟨C, hC⟩ : ∃ C, a2 % 1073741824 + 1 = C := ⟨_, rfl⟩
  have k0 : -1073741824 < A := by rw [← hA]; exact Int.lt_tmod_of_pos a0 (by omega)
  have k1 : A < 1073741824 := by rw [← hA]; exact Int.tmod_lt_of_pos a0 (by omega)
  have k2 : 0 ≤ B := by omega
  have k3 : B < 1073741824 := by omega
  have k4 : 1 ≤ C := by omega
  have k5 : C ≤ 1073741824 := by omega
  obtain ⟨P, hP⟩ : ∃ P, max A (-A) * B = P := ⟨_, rfl⟩
  obtain ⟨q, hq⟩ : ∃ q, scaleQ A B C = q := ⟨_, rfl⟩
  obtain ⟨p0, p1, q0, f1, f2, f3, f4, f5, f6, f7, q9⟩ := scale_facts A B C P q k0 k1 k2 k3 k4 k5 hP hq
  have R1 := scaleR_ok A B C q k0 k1 k2 (by omega) k4 k5 hq
  have R2 := scaleR_ok (-A) B C q (by omega) (by omega) k2 (by omega) k4 k5 (by rw [scaleQ_neg]; exact hq)
  have R3 : scaleR A C C = (A, 0) := by
    rw [scaleR_ok A C C _ k0 k1 (by omega) k5 k4 k5 (scaleQ_same A C k4), if_pos (by omega)]
    by_cases h : A < 0
    · rw [if_pos h]; congr 1; omega
    · rw [if_neg h]; congr 1; omega
  have hMP : IntKind.i64.wrap (max A (-A) * B) = P := by rw [hP]; exact IntWalk.i64_in _ (by omega)
  obtain ⟨S, hS⟩ : ∃ S, P / C = S := ⟨_, rfl⟩
  rw [hS] at f1 f2
  have hC0 : ¬ C = 0 := by omega
  have s0 : 0 ≤ S := by rw [← hS]; exact Int.ediv_nonneg p0 (by omega)
  have HT := Lib.hid hT
  have C3 := Lib.hid (scale_at A C C (A, 0) R3)
  have HMP := Lib.hid hMP
  have HS := Lib.hid hS
  clear hT R3 hMP hP hS hq
  by_cases hfit : q ≤ 1073741824
  · rw [if_pos hfit] at R1 R2
    obtain ⟨x, hx⟩ : ∃ x, (if A < 0 then -q else q) = x := ⟨_, rfl⟩
    obtain ⟨V, hV⟩ : ∃ V, A * B = V := ⟨_, rfl⟩
    obtain ⟨U, hU⟩ : ∃ U, x * C = U := ⟨_, rfl⟩
    have g1 : (if -A < 0 then -q else q) = -x := by
      rw [← hx]
      by_cases h : A < 0
      · rw [if_pos h, if_neg (by omega)]; omega
      · rw [if_neg h]
        by_cases h' : A = 0
        · rw [if_neg (by omega), f5 h']; rfl
        · rw [if_pos (by omega)]
    rw [hx] at R1
    rw [g1] at R2
    have C1 := Lib.hid (scale_at A B C (x, 0) R1)
    have C2 := Lib.hid (scale_at (-A) B C (-x, 0) R2)
    have hxb : -1073741824 ≤ x ∧ x ≤ 1073741824 := by rw [← hx]; split <;> omega
    have hUV : 2 * max (U - V) (V - U) ≤ C ∧ -2305843009213693952 ≤ U ∧ U ≤ 2305843009213693952 ∧ -2305843009213693952 ≤ V ∧ V ≤ 2305843009213693952 := by
      have hqC : 0 ≤ q * C := Int.mul_nonneg q0 (by omega)
      by_cases h : A < 0
      · have e1 := f7 h
        rw [hV] at e1
        rw [if_pos h] at hx
        have e2 : U = -(q * C) := by rw [← hU, ← hx, Int.neg_mul]
        omega
      · have e1 := f6 (by omega)
        rw [hV] at e1
        rw [if_neg h] at hx
        have e2 : U = q * C := by rw [← hU, ← hx]
        omega
    obtain ⟨v1, v2, v3, v4, v5⟩ := hUV
    have hwU : IntKind.i64.wrap (x * C) = U := by rw [hU]; exact IntWalk.i64_in _ (by omega)
    have hwV : IntKind.i64.wrap (A * B) = V := by rw [hV]; exact IntWalk.i64_in _ (by omega)
    have HWU := Lib.hid hwU
    have HWV := Lib.hid hwV
    have hways : x = 0 ∨ (x < 0 ∧ A < 0) ∨ (0 < x ∧ 0 < A) := by
      rw [← hx]
      by_cases h : A < 0
      · rw [if_pos h]; omega
      · rw [if_neg h]
        by_cases h' : A = 0
        · left; exact f5 h'
        · omega
    clear hwU hwV hU hV hx g1 R1 R2 f3 f4 f5 f6 f7 f2
    go_enter Tryd.func7, Tryd.ntmps7
    go_wp2_with fail
    refine (C1.out _).mono ?_
    rintro e w1 ⟨rfl, rfl⟩
    go_wp2_with fail
    refine (C2.out _).mono ?_
    rintro e w2 ⟨rfl, rfl⟩
    go_wp2_with fail
    refine (C3.out _).mono ?_
    rintro e w3 ⟨rfl, rfl⟩
    have hMP := HMP.out
    have hS := HS.out
    have hwU := HWU.out
    have hwV := HWV.out
    clear hA hB hC l0 u0 l1 u1 l2 u2
    go_wp2_with fail
    all_goals
      refine (awake_any _ HT.out).mono ?_
      rintro e w4 ⟨rfl, h4⟩
      have H4 := Lib.hid h4
      clear h4
      go_wp2
      go_ret
      exact ⟨rfl, H4.out⟩
  · rw [if_neg hfit] at R1 R2
    have hbig := f2 (by omega)
    have C1 := Lib.hid (scale_at A B C (0, 4) R1)
    have C2 := Lib.hid (scale_at (-A) B C (0, 4) R2)
    clear R1 R2 f3 f4 f5 f6 f7 f2
    go_enter Tryd.func7, Tryd.ntmps7
    go_wp2_with fail
    refine (C1.out _).mono ?_
    rintro e w1 ⟨rfl, rfl⟩
    go_wp2_with fail
    refine (C2.out _).mono ?_
    rintro e w2 ⟨rfl, rfl⟩
    go_wp2_with fail
    refine (C3.out _).mono ?_
    rintro e w3 ⟨rfl, rfl⟩
    have hMP := HMP.out
    have hS := HS.out
    clear hA hB hC l0 u0 l1 u1 l2 u2
    go_wp2_with fail
    refine (awake_any _ HT.out).mono ?_
    rintro e w4 ⟨rfl, h4⟩
    have H4 := Lib.hid h4
    clear h4
    go_wp2
    go_ret
    exact ⟨rfl, H4.out⟩
theorem scales_law (a0 a1 a2 : Int) (w0 : (Lit.int .i32 a0).wf = true) (w1 : (Lit.int .u32 a1).wf = true) (w2 : (Lit.int .u32 a2).wf = true) (w : World) (hT : Tab w) :
    Calls Tryd.prog 7 #[.int .i32 a0, .int .u32 a1, .int .u32 a2] w fun e w' => e = .returned (.bool true) ∧ Below w.heap.size w w' :=
  scales_walk a0 a1 a2 (wf_i32 w0) (wf_u32 w1) (wf_u32 w2) w hT
end Go.Proofs.YtkiaiiepfphllaaDoor
