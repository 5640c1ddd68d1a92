/- The walk of FixedpointBad. -/
import Derived.Test.YtkiaiiepfphllaaDoorFpScales
namespace Go.Proofs.YtkiaiiepfphllaaDoor
set_option linter.unusedSimpArgs false
set_option linter.unusedVariables false
set_option maxRecDepth 100000
open Go.RowKit

theorem badR_pos {c t : Int} (h0 : 0 ≤ c) (h1 : c ≤ 1073741824) (h2 : 1 ≤ t) (h3 : t ≤ 1073741824) : badR c t = badQ c t ∧ badR (-c) t = badQ c t := by
  have e1 : max (clampZ c) (-clampZ c) = c := by unfold clampZ; omega
  have e2 : max (clampZ (-c)) (-clampZ (-c)) = c := by unfold clampZ; omega
  have e3 : min t 1073741824 = t := by omega
  have e0 : badQ 0 t = 0 := by rw [badQ]; simp; omega
  constructor
  · rw [badR, if_neg (show ¬ t ≤ 0 by omega), e1, e3]
    by_cases h : c = 0
    · rw [if_pos h, h, e0]
    · rw [if_neg h]
  · rw [badR, if_neg (show ¬ t ≤ 0 by omega), e2, e3]
    by_cases h : -c = 0
    · rw [if_pos h, show c = 0 by omega, e0]
    · rw [if_neg h]
theorem cube_mono {a b : Int} (h0 : 0 ≤ a) (h : a ≤ b) : a * a * a ≤ b * b * b :=
  Int.mul_le_mul (Int.mul_le_mul h h h0 (by omega)) h h0 (Int.mul_nonneg (by omega) (by omega))
theorem cube_nonneg {a : Int} (h0 : 0 ≤ a) : 0 ≤ a * a * a := Int.mul_nonneg (Int.mul_nonneg h0 h0) h0
theorem badQ_more {c c' t : Int} (h0 : 0 ≤ c) (h : c ≤ c') (ht : 1 ≤ t) : badQ c t ≤ badQ c' t := by
  have h1 := cube_mono h0 h
  have h2 := Int.ediv_le_ediv (cube_pos (show 0 < t by omega)) (show 100 * (c * c * c) ≤ 100 * (c' * c' * c') by omega)
  unfold badQ; omega
theorem badQ_less {c t t' : Int} (h0 : 0 ≤ c) (ht : 1 ≤ t) (h : t ≤ t') : badQ c t' ≤ badQ c t := by
  have h1 := cube_mono (show 0 ≤ t by omega) h
  have h2 := cube_nonneg h0
  have h3 : 100 * (c * c * c) / (t' * t' * t') ≤ 100 * (c * c * c) / (t * t * t) := by
    refine (Int.le_ediv_iff_mul_le (cube_pos (by omega))).2 ?_
    have h4 := Int.ediv_mul_le (100 * (c * c * c)) (show t' * t' * t' ≠ 0 by have := cube_pos (show 0 < t' by omega); omega)
    have h5 := Int.mul_le_mul_of_nonneg_left h1 (Int.ediv_nonneg (show 0 ≤ 100 * (c * c * c) by omega) (cube_nonneg (show 0 ≤ t' by omega)))
    omega
  unfold badQ; omega
theorem badQ_unit {c t k : Int} (hk : 1 ≤ k) : badQ (c * k) (t * k) = badQ c t := by
  have e : ∀ x : Int, x * k * (x * k) * (x * k) = x * x * x * (k * k * k) := fun x => by ac_rfl
  rw [badQ, badQ, e, e, ← Int.mul_assoc 100, Int.mul_ediv_mul_of_pos_left _ _ (cube_pos (by omega))]
theorem badQ_same {t : Int} (ht : 1 ≤ t) : badQ t t = 100 := by
  rw [badQ, Int.mul_ediv_cancel _ (by have := cube_pos (show 0 < t by omega); omega)]; rfl
theorem badQ_high {c t : Int} (ht : 1 ≤ t) (h : t ≤ c) : 100 ≤ badQ c t := by
  have := badQ_more (show 0 ≤ t by omega) h ht
  rw [badQ_same ht] at this; exact this
theorem badQ_bd {c t : Int} (h0 : 0 ≤ c) (ht : 1 ≤ t) : 0 ≤ badQ c t ∧ badQ c t ≤ 10000 := by
  have := Int.ediv_nonneg (show 0 ≤ 100 * (c * c * c) by have := cube_nonneg h0; omega) (cube_nonneg (show 0 ≤ t by omega))
  unfold badQ; omega
theorem prod_unit {c k m n : Int} (h0 : 0 ≤ c) (h1 : c ≤ m) (k0 : 1 ≤ k) (k1 : k ≤ n) : 0 ≤ c * k ∧ c * k ≤ m * n ∧ c ≤ c * k := by
  refine ⟨Int.mul_nonneg h0 (by omega), Int.mul_le_mul h1 k1 (by omega) (by omega), ?_⟩
  have := Int.mul_le_mul_of_nonneg_left k0 h0
  omega

set_option maxHeartbeats 4000000 in
theorem bad_walk (a0 a1 a2 a3 : Int) (h0 : 0 ≤ a0 ∧ a0 ≤ 4294967295) (h1 : 0 ≤ a1 ∧ a1 ≤ 4294967295) (h2 : 0 ≤ a2 ∧ a2 ≤ 4294967295) (h3 : 0 ≤ a3 ∧ a3 ≤ 4294967295) (w : World) (hT : Tab w) :
    Calls Tryd.prog 8 #[.int .u32 a0, .int .u32 a1, .int .u32 a2, .int .u32 a3] w fun e w' => e = .returned (.bool true) ∧ Below w.heap.size w w' := by
  obtain ⟨l0, u0⟩ := h0
  obtain ⟨l1, u1⟩ := h1
  obtain ⟨l2, u2⟩ := h2
  obtain ⟨l3, u3⟩ := h3
  obtain ⟨c, hc⟩ : ∃ c, a0 % 1048576 = c := ⟨_, rfl⟩
  obtain ⟨t, ht⟩ : ∃ t, a1 % 1048576 + 1 = t := ⟨_, rfl⟩
  obtain ⟨d, hd⟩ : ∃ d, a2 % 1048576 = d := ⟨_, rfl⟩
  obtain ⟨k, hk⟩ : ∃ k, a3 % 1000 + 1 = k := ⟨_, rfl⟩
  have c0 : 0 ≤ c := by omega
  have c1 : c ≤ 1048575 := by omega
  have t0 : 1 ≤ t := by omega
  have t1 : t ≤ 1048576 := by omega
  have d0 : 0 ≤ d := by omega
  have d1 : d ≤ 1048575 := by omega
  have k0 : 1 ≤ k := by omega
  have k1 : k ≤ 1000 := by omega
  obtain ⟨p0, p1, p2⟩ := prod_unit c0 (show c ≤ 1048576 by omega) k0 k1
  obtain ⟨q0, q1, q2⟩ := prod_unit (show 0 ≤ t by omega) t1 k0 k1
  have m1 := badQ_more c0 (show c ≤ c + d by omega) t0
  have m2 := badQ_less c0 t0 (show t ≤ t + d by omega)
  have m3 := badQ_unit (c := c) (t := t) k0
  have m4 := badQ_same t0
  obtain ⟨m6, m7⟩ := badQ_bd c0 t0
  have m5 : c < t ∨ (t ≤ c ∧ 100 ≤ badQ c t) := by
    by_cases h : c < t
    · exact .inl h
    · exact .inr ⟨by omega, badQ_high t0 (by omega)⟩
  obtain ⟨ck, hck⟩ : ∃ x, c * k = x := ⟨_, rfl⟩
  obtain ⟨tk, htk⟩ : ∃ x, t * k = x := ⟨_, rfl⟩
  rw [hck] at p0 p1 p2 m3
  rw [htk] at q0 q1 q2 m3
  have r1 := (badR_pos c0 (by omega) t0 (by omega)).1
  have r2 := (badR_pos c0 (by omega) t0 (by omega)).2
  have r3 := (badR_pos (show 0 ≤ c + d by omega) (by omega) t0 (by omega)).1
  have r4 := (badR_pos c0 (by omega) (show 1 ≤ t + d by omega) (by omega)).1
  have r5 := (badR_pos p0 (by omega) (show 1 ≤ tk by omega) (by omega)).1
  have r6 := (badR_pos (show 0 ≤ t by omega) (by omega) t0 (by omega)).1
  rw [m3] at r5
  rw [m4] at r6
  have r7 : badR 0 (-t) = 0 := by rw [badR, if_pos rfl]
  have r8 : badR t (-d) = 10000 := by rw [badR, if_neg (by omega), if_pos (by omega)]
  obtain ⟨b, hb⟩ : ∃ x, badQ c t = x := ⟨_, rfl⟩
  obtain ⟨b1, hb1⟩ : ∃ x, badQ (c + d) t = x := ⟨_, rfl⟩
  obtain ⟨b2, hb2⟩ : ∃ x, badQ c (t + d) = x := ⟨_, rfl⟩
  rw [hb] at m1 m2 m5 m6 m7 r1 r2 r5
  rw [hb1] at m1 r3
  rw [hb2] at m2 r4
  have C1 := Lib.hid (bad_at c t b r1)
  have C2 := Lib.hid (bad_at (-c) t b r2)
  have C3 := Lib.hid (bad_at (c + d) t b1 r3)
  have C4 := Lib.hid (bad_at c (t + d) b2 r4)
  have C5 := Lib.hid (bad_at ck tk b r5)
  have C6 := Lib.hid (bad_at t t 100 r6)
  have C7 := Lib.hid (bad_at 0 (-t) 0 r7)
  have C8 := Lib.hid (bad_at t (-d) 10000 r8)
  have w1 : IntKind.i64.wrap (c * k) = ck := by rw [hck]; exact IntWalk.i64_in _ (by omega)
  have W2 := Lib.hid (show IntKind.i64.wrap (t * k) = tk by rw [htk]; exact IntWalk.i64_in _ (by clear w1; omega))
  have W1 := Lib.hid w1
  have HT := Lib.hid hT
  have M5 := Lib.hid m5
  clear w1 hck htk m3 m4 m5 r1 r2 r3 r4 r5 r6 r7 r8 hb hb1 hb2 hT
  go_enter Tryd.func8, Tryd.ntmps8
  go_wp2_with fail
  clear l0 u0 l1 u1 l2 u2 l3 u3
  refine (C1.out _).mono ?_
  rintro e w1 ⟨rfl, g⟩
  have B1 := Lib.hid g
  clear g
  go_wp2_with fail
  refine (C2.out _).mono ?_
  rintro e w2 ⟨rfl, g⟩
  have B2 := Lib.hid (below_seq B1.out g (Nat.le_refl _))
  clear g
  go_wp2_with fail
  refine (C3.out _).mono ?_
  rintro e w3 ⟨rfl, g⟩
  have B3 := Lib.hid (below_seq B2.out g (Nat.le_refl _))
  clear g
  go_wp2_with fail
  refine (C4.out _).mono ?_
  rintro e w4 ⟨rfl, g⟩
  have B4 := Lib.hid (below_seq B3.out g (Nat.le_refl _))
  clear g
  have e1 := W1.out
  have e2 := W2.out
  go_wp2_with fail
  clear e1 e2
  refine (C5.out _).mono ?_
  rintro e w5 ⟨rfl, g⟩
  have B5 := Lib.hid (below_seq B4.out g (Nat.le_refl _))
  clear g
  rcases M5.out with k5 | ⟨k5, k6⟩
  all_goals
    go_wp2_with fail
    refine (C6.out _).mono ?_
    rintro e w6 ⟨rfl, g⟩
    have B6 := Lib.hid (below_seq B5.out g (Nat.le_refl _))
    clear g
    go_wp2_with fail
    refine (C7.out _).mono ?_
    rintro e w7 ⟨rfl, g⟩
    have B7 := Lib.hid (below_seq B6.out g (Nat.le_refl _))
    clear g
    go_wp2_with fail
    refine (C8.out _).mono ?_
    rintro e w8 ⟨rfl, g⟩
    have B8 := Lib.hid (below_seq B7.out g (Nat.le_refl _))
    clear g
    go_wp2_with fail
    refine (awake_any _ (HT.out.below B8.out)).mono ?_
    rintro e w9 ⟨rfl, g⟩
    have B9 := Lib.hid (below_seq B8.out g (Nat.le_refl _))
    clear g
    go_wp2
    go_ret
    exact ⟨rfl, B9.out⟩
theorem bad_law (a0 a1 a2 a3 : Int) (w0 : (Lit.int .u32 a0).wf = true) (w1 : (Lit.int .u32 a1).wf = true) (w2 : (Lit.int .u32 a2).wf = true) (w3 : (Lit.int .u32 a3).wf = true) (w : World) (hT : Tab w) :
    Calls Tryd.prog 8 #[.int .u32 a0, .int .u32 a1, .int .u32 a2, .int .u32 a3] w fun e w' => e = .returned (.bool true) ∧ Below w.heap.size w w' :=
  bad_walk a0 a1 a2 a3 (wf_u32 w0) (wf_u32 w1) (wf_u32 w2) (wf_u32 w3) w hT
end Go.Proofs.YtkiaiiepfphllaaDoor
