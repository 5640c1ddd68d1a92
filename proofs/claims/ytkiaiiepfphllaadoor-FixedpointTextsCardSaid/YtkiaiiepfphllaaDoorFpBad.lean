/- The reference of Badness. -/
import Derived.Test.YtkiaiiepfphllaaDoorFpMost
namespace Go.Proofs.YtkiaiiepfphllaaDoor
set_option linter.unusedSimpArgs false
set_option linter.unusedVariables false
open Go.RowKit

def clampZ (x : Int) : Int := max (-1073741824) (min 1073741824 x)
/-- Badness's result -/
def badQ (c t : Int) : Int := min 10000 (100 * (c * c * c) / (t * t * t))
def badR (change total : Int) : Int :=
  if change = 0 then 0 else if total ≤ 0 then 10000 else badQ (max (clampZ change) (-clampZ change)) (min total 1073741824)
def cubeD (t : Int) : List Int := tms t (tms t [t])
theorem cubeD_len (t : Int) : (cubeD t).length = 3 := by rw [cubeD, tms_len, tms_len]; rfl
theorem cubeD_val (t : Int) : valZ (cubeD t) = t * t * t := by rw [cubeD, tms_val, tms_val]; simp [valZ]
theorem one_digs (t : Int) (h0 : 0 ≤ t) (h1 : t ≤ 1073741824) : Digs 0 [t] := by intro x hx; simp at hx; omega
theorem two_digs (t : Int) (h0 : 0 ≤ t) (h1 : t ≤ 1073741824) : Digs 1 (tms t [t]) := tms_digs t 0 h0 h1 (by omega) (by omega) _ (one_digs t h0 h1)
theorem cubeD_digs (t : Int) (h0 : 0 ≤ t) (h1 : t ≤ 1073741824) : Digs 2 (cubeD t) := tms_digs t 1 h0 h1 (by omega) (by omega) _ (two_digs t h0 h1)

theorem IntsAt.lit {w : World} {x : Int} {t : TypeId} : IntsAt (w.alloc (.cells #[.int .i64 x] t)) (.slice (some ⟨w.heap.size, 0, none⟩) 1 1) [x] := by
  refine ⟨_, _, rfl, fun _ => ⟨w.heap.size, 0, rfl, by simp, fun j hj => ?_⟩⟩
  have : j = 0 := by simp at hj; omega
  subst this
  simp

set_option maxHeartbeats 1000000 in
theorem refBad_zero (t : Int) (w : World) :
    Calls Tryd.prog 26 #[.int .i64 0, .int .i64 t] w fun e w' => e = .returned (.int .i64 0) ∧ Below w.heap.size w w' := by
  go_enter Tryd.func26, Tryd.ntmps26
  go_wp2
  go_ret
  exact ⟨rfl, Below.refl _ _⟩
set_option maxHeartbeats 1000000 in
theorem refBad_none (c t : Int) (hc : ¬ c = 0) (ht : t ≤ 0) (w : World) :
    Calls Tryd.prog 26 #[.int .i64 c, .int .i64 t] w fun e w' => e = .returned (.int .i64 10000) ∧ Below w.heap.size w w' := by
  go_enter Tryd.func26, Tryd.ntmps26
  go_wp2
  go_ret
  exact ⟨rfl, Below.refl _ _⟩

/-- what a call of times leaves -/
def TimesPost (r : List Int) (w : World) (e : Ending) (w' : World) : Prop := ∃ v', e = .returned v' ∧ IntsAt w' v' r ∧ Below w.heap.size w w'
theorem times_one (x : Int) (h0 : 0 ≤ x) (h1 : x ≤ 1073741824) (w : World) (t : TypeId) :
    Calls Tryd.prog 49 #[.slice (some ⟨w.heap.size, 0, none⟩) 1 1, .int .i64 x] (w.alloc (.cells #[.int .i64 x] t)) (TimesPost (tms x [x]) (w.alloc (.cells #[.int .i64 x] t))) :=
  refTimes_any [x] x 0 h0 h1 (by omega) (by omega) (one_digs x h0 h1) (by simp) _ _ IntsAt.lit
theorem times_two (x : Int) (h0 : 0 ≤ x) (h1 : x ≤ 1073741824) (v : Value) (w : World) (h : IntsAt w v (tms x [x])) :
    Calls Tryd.prog 49 #[v, .int .i64 x] w (TimesPost (cubeD x) w) :=
  refTimes_any _ x 1 h0 h1 (by omega) (by omega) (two_digs x h0 h1) (by rw [tms_len]; simp) _ _ h
theorem times_three (x n : Int) (h0 : 0 ≤ x) (h1 : x ≤ 1073741824) (n0 : 0 ≤ n) (n1 : n ≤ 10000) (v : Value) (w : World) (h : IntsAt w v (cubeD x)) :
    Calls Tryd.prog 49 #[v, .int .i64 n] w (TimesPost (tms n (cubeD x)) w) :=
  refTimes_any _ n 2 n0 (by omega) (by omega) (by omega) (cubeD_digs x h0 h1) (by rw [cubeD_len]; omega) _ _ h

theorem below_seq {n : Nat} {a b c : World} (h : Below n a b) (k : Below b.heap.size b c) (hn : n ≤ a.heap.size) : Below n a c :=
  h.trans (k.mono (Nat.le_trans hn h.size))
theorem badQ_iff (A T m : Int) (hT : 0 < T) (h1 : m ≤ 10000) : T * m ≤ A ↔ m ≤ min 10000 (A / T) := by
  have := Int.le_ediv_iff_mul_le (a := m) (b := A) hT
  rw [Int.mul_comm m T] at this
  omega
theorem cube_pos {t : Int} (h : 0 < t) : 0 < t * t * t := Int.mul_pos (Int.mul_pos h h) h
theorem bad_pack {c t x y : Int} {w w0 : World} {v3 v5 : Value} (hv3 : IntsAt w v3 (tms 100 (cubeD x))) (hv5 : IntsAt w v5 (cubeD y)) (hx : x = max (clampZ c) (-clampZ c)) (hy : y = min t 1073741824) (hc : ¬ c = 0) (ht : 0 < t) :
    ∃ la A z, IntsAt w v3 la ∧ la.length = 4 ∧ Low la ∧ valZ la = A ∧ IntsAt w v5 (cubeD z) ∧ 0 < z ∧ z ≤ 1073741824 ∧ ∀ m, m ≤ 10000 → (z * z * z * m ≤ A ↔ m ≤ badR c t) := by
  refine ⟨_, _, y, hv3, by rw [tms_len, cubeD_len], tms_low _ _, rfl, hv5, by omega, by omega, fun m hm => ?_⟩
  rw [tms_val, cubeD_val, badR, if_neg hc, if_neg (by omega), badQ, ← hx, ← hy, badQ_iff _ _ _ (cube_pos (by omega)) hm, Int.mul_comm 100]
theorem badR_bd (c t : Int) : 0 ≤ badR c t ∧ badR c t ≤ 10000 := by
  rw [badR]
  split
  · omega
  · split
    · omega
    · rw [badQ]
      have h1 : 0 ≤ max (clampZ c) (-clampZ c) := by omega
      have h2 : 0 < min t 1073741824 := by omega
      have := Int.ediv_nonneg (Int.mul_nonneg (show (0 : Int) ≤ 100 by omega) (Int.mul_nonneg (Int.mul_nonneg h1 h1) h1)) (Int.le_of_lt (cube_pos h2))
      omega

set_option maxHeartbeats 4000000 in
theorem refBad_some (c t : Int) (hc : ¬ c = 0) (ht : 0 < t) (w : World) :
    Calls Tryd.prog 26 #[.int .i64 c, .int .i64 t] w fun e w' => e = .returned (.int .i64 (badR c t)) ∧ Below w.heap.size w w' := by
  have hcs : 1073741824 ≤ c ∨ (0 < c ∧ c < 1073741824) ∨ (c < 0 ∧ -1073741824 < c) ∨ c ≤ -1073741824 := by omega
  have hts : 1073741824 < t ∨ t ≤ 1073741824 := by omega
  have hcb : (c == 0) = false := by simpa using hc
  obtain ⟨R, hR⟩ : ∃ R, badR c t = R := ⟨_, rfl⟩
  have HR := Lib.hid hR
  obtain ⟨r0, r1⟩ := badR_bd c t
  rw [hR] at r0 r1 ⊢
  clear hR
  rcases hcs with h1 | ⟨h1, h2⟩ | ⟨h1, h2⟩ | h1 <;> rcases hts with h3 | h3
  all_goals
    go_enter Tryd.func26, Tryd.ntmps26
    go_wp2_with (go_at_call 49; first
      | (refine (times_two _ (by omega) (by omega) _ _ hv4).mono ?_; rintro _ w5 ⟨v5, rfl, hv5, hb5⟩)
      | (have _hh := hv3; refine (times_one _ (by omega) (by omega) _ _).mono ?_; rintro _ w4 ⟨v4, rfl, hv4, hb4⟩)
      | (refine (times_three _ 100 (by omega) (by omega) (by omega) (by omega) _ _ hv2).mono ?_; rintro _ w3 ⟨v3, rfl, hv3, hb3⟩)
      | (refine (times_two _ (by omega) (by omega) _ _ hv1).mono ?_; rintro _ w2 ⟨v2, rfl, hv2, hb2⟩)
      | (refine (times_one _ (by omega) (by omega) _ _).mono ?_; rintro _ w1 ⟨v1, rfl, hv1, hb1⟩))
    have B1 := below_seq ((Below.refl w.heap.size w).alloc (Nat.le_refl _) _) hb1 (Nat.le_refl _)
    have B3 := below_seq (below_seq B1 hb2 (Nat.le_refl _)) hb3 (Nat.le_refl _)
    have B35 := below_seq (below_seq ((Below.refl w3.heap.size w3).alloc (Nat.le_refl _) _) hb4 (Nat.le_refl _)) hb5 (Nat.le_refl _)
    have B5 := below_seq B3 B35 (Nat.le_refl _)
    have hv3' := hv3.below B35
    obtain ⟨la, A, z, hA, hla, hlow, hval, hT, z0, z1, hiff⟩ := bad_pack (w0 := w) hv3' hv5 (by unfold clampZ; omega) (by omega) hc ht
    clear hv1 hv2 hv3 hv4 hv5 hv3' hb1 hb2 hb3 hb4 hb5 B1 B3 B35
    have HA := Lib.hid hA
    have HT := Lib.hid hT
    have HI := Lib.hid hiff
    rw [HR.out] at HI
    have HL := Lib.hid hlow
    have HV := Lib.hid hval
    have HB5 := Lib.hid B5
    clear hA hT hiff hlow hval B5
    go_loopw [9, 10] (fun lo hi wr => ∃ l h : Int, 0 ≤ l ∧ l ≤ R ∧ R ≤ h ∧ h ≤ 10000 ∧ lo = .int .i64 l ∧ hi = .int .i64 h ∧ Below w5.heap.size w5 wr)
      (fun lo hi _ => (intOf hi - intOf lo).toNat)
    case atStart => exact ⟨0, 10000, by omega, by omega, by omega, by omega, rfl, rfl, Below.refl _ _⟩
    case round =>
      obtain ⟨l, h, l0, l1, l2, l3, rfl, rfl, hB⟩ := hrel
      have HA' := Lib.hid (HA.out.below hB)
      have HT' := Lib.hid (HT.out.below hB)
      have HB := Lib.hid hB
      clear hB
      by_cases hlt : l < h
      · have hd : (l + h + 1).tdiv 2 = (l + h + 1) / 2 := Int.tdiv_eq_ediv_of_nonneg (by omega)
        obtain ⟨m, hm⟩ : ∃ m, (l + h + 1) / 2 = m := ⟨_, rfl⟩
        rw [hm] at hd
        have m0 : l < m := by omega
        have m1 : m ≤ h := by omega
        have hmv : decide (valZ (tms m (cubeD z)) ≤ valZ la) = decide (m ≤ R) := by
          have := HI.out m (by omega)
          rw [Bool.eq_iff_iff, decide_eq_true_eq, decide_eq_true_eq, tms_val, cubeD_val, HV.out]; exact this
        have HMV := Lib.hid hmv
        clear hmv hm
        by_cases hmr : m ≤ R
        all_goals
          go_wp2_with (first
            | (go_at_call 49; refine (times_three z m (by omega) (by omega) (by omega) (by omega) _ _ HT'.out).mono ?_; rintro _ w6 ⟨v6, rfl, hv6, hb6⟩)
            | (go_at_call 50; refine (refMost_at _ la _ HMV.out (by rw [tms_len, cubeD_len, hla]) (by omega) (tms_low _ _) HL.out _ _ _ hv6 (HA'.out.below hb6)).mono ?_; rintro _ w7 ⟨rfl, rfl⟩))
        · go_roundw
          case rel => exact ⟨m, h, by omega, by omega, by omega, by omega, rfl, rfl, below_seq HB.out hb6 (Nat.le_refl _)⟩
          case measure => simp [intOf]; omega
        · go_roundw
          case rel => exact ⟨l, m - 1, by omega, by omega, by omega, by omega, rfl, by go_num, below_seq HB.out hb6 (Nat.le_refl _)⟩
          case measure => simp [intOf]; omega
      · have hlR : l = R := by omega
        go_wp2
        go_ret
        exact ⟨by first | rfl | exact ret_int hlR, below_seq HB5.out HB.out (Nat.le_refl _)⟩
theorem refBad_any (c t : Int) (w : World) :
    Calls Tryd.prog 26 #[.int .i64 c, .int .i64 t] w fun e w' => e = .returned (.int .i64 (badR c t)) ∧ Below w.heap.size w w' := by
  by_cases hc : c = 0
  · subst hc; exact refBad_zero t w
  · by_cases ht : 0 < t
    · exact refBad_some c t hc ht w
    · have := refBad_none c t hc (by omega) w
      rwa [← show badR c t = 10000 by rw [badR, if_neg hc, if_pos (by omega)]] at this
end Go.Proofs.YtkiaiiepfphllaaDoor
