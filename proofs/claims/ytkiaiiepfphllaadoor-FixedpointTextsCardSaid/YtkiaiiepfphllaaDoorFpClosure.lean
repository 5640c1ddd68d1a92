/- The test that Badness hands to sort.Search, and Badness itself. -/
import Derived.Test.YtkiaiiepfphllaaDoorFpWide
import Derived.Deep.RegionHeld3
namespace Go.Proofs.YtkiaiiepfphllaaDoor
set_option linter.unusedSimpArgs false
set_option linter.unusedVariables false
set_option maxRecDepth 100000
open Go.RowKit

/-- the block b holds the number V in two words -/
def WideAt (w : World) (b V : Nat) : Prop := b < w.heap.size ∧ w.cell? ⟨b, 0, none⟩ = some (.int .u64 (V / B64 : Nat)) ∧ w.cell? ⟨b, 1, none⟩ = some (.int .u64 (V % B64 : Nat))
theorem WideAt.below {w w' : World} {b V : Nat} (h : WideAt w b V) (hb : Below w.heap.size w w') : WideAt w' b V :=
  ⟨Nat.lt_of_lt_of_le h.1 hb.size, (hb.cell (p := ⟨b, 0, none⟩) h.1).trans h.2.1, (hb.cell (p := ⟨b, 1, none⟩) h.1).trans h.2.2⟩

set_option maxHeartbeats 1000000 in
theorem less_any (bt ba T A k : Nat) (r : Bool) (hr : decide (T * (k + 1) ≤ A) = r) (hk : k ≤ 1000000) (hT : T * (k + 1) < B64 * B64) (hT2 : T < B64 * B64) (w : World) (h1 : WideAt w bt T) (h2 : WideAt w ba A) :
    Calls Tryd.prog 47 #[.int .i64 k, .pointer (some ⟨bt, 0, none⟩), .pointer (some ⟨ba, 0, none⟩)] w fun e w' => e = .returned (.bool (!r)) ∧ Below w.heap.size w w' := by
  have HT := Lib.hid (times_nat T (k + 1) (by omega) hT hT2)
  have HM := Lib.hid (most_nat (T * (k + 1)) A r hr)
  clear hr hT hT2
  obtain ⟨th, e1⟩ : ∃ x, T / B64 = x := ⟨_, rfl⟩
  obtain ⟨tl, e2⟩ : ∃ x, T % B64 = x := ⟨_, rfl⟩
  obtain ⟨ah, e3⟩ : ∃ x, A / B64 = x := ⟨_, rfl⟩
  obtain ⟨al, e4⟩ : ∃ x, A % B64 = x := ⟨_, rfl⟩
  obtain ⟨ph, e5⟩ : ∃ x, T * (k + 1) / B64 = x := ⟨_, rfl⟩
  obtain ⟨pl, e6⟩ : ∃ x, T * (k + 1) % B64 = x := ⟨_, rfl⟩
  have et : wv T = wideV th tl := by rw [wv, e1, e2]
  have ea : wv A = wideV ah al := by rw [wv, e3, e4]
  have ep : wv (T * (k + 1)) = wideV ph pl := by rw [wv, e5, e6]
  rw [et, ep] at HT
  rw [ea, ep] at HM
  obtain ⟨b1, c1, c2⟩ := h1
  obtain ⟨b2, c3, c4⟩ := h2
  rw [e1] at c1
  rw [e2] at c2
  rw [e3] at c3
  rw [e4] at c4
  clear e1 e2 e3 e4 e5 e6 et ea ep
  go_enter Tryd.func47, Tryd.ntmps47
  go_wp2_with fail
  have hkk : IntKind.i64.wrap ((k : Int) + 1) = ((k + 1 : Nat) : Int) := by rw [IntWalk.i64_in _ (by omega)]; rfl
  go_region_held3 (fun w' => w'.cell? ⟨bt, 0, none⟩ = some (.int .u64 th) ∧ w'.cell? ⟨bt, 1, none⟩ = some (.int .u64 tl) ∧ w'.cell? ⟨ba, 0, none⟩ = some (.int .u64 ah) ∧ w'.cell? ⟨ba, 1, none⟩ = some (.int .u64 al))
    (first | exact ⟨c1, c2, c3, c4⟩ | exact ⟨(HB2.out.cell (p := ⟨bt, 0, none⟩) b3).trans d1, (HB2.out.cell (p := ⟨bt, 1, none⟩) b3).trans d2, (HB2.out.cell (p := ⟨ba, 0, none⟩) b4).trans d3, (HB2.out.cell (p := ⟨ba, 1, none⟩) b4).trans d4⟩ | exact ⟨d1, d2, d3, d4⟩ | go_keep)
    (first
      | (go_at_call 45; refine (HT.out _).mono ?_; rintro e w1 ⟨rfl, hb1⟩; have d1 := (hb1.cell (p := ⟨bt, 0, none⟩) b1).trans c1; have d2 := (hb1.cell (p := ⟨bt, 1, none⟩) b1).trans c2; have d3 := (hb1.cell (p := ⟨ba, 0, none⟩) b2).trans c3; have d4 := (hb1.cell (p := ⟨ba, 1, none⟩) b2).trans c4; have b3 := Nat.lt_of_lt_of_le b1 hb1.size; have b4 := Nat.lt_of_lt_of_le b2 hb1.size; have HB1 := Lib.hid hb1; clear hb1)
      | (go_at_call 48; refine (HM.out _).mono ?_; rintro e w2 ⟨rfl, hb2⟩; have HB2 := Lib.hid hb2; clear hb2))
  go_wp2
  go_ret
  exact ⟨rfl, below_seq (below_seq ((Below.refl w.heap.size w).drew) HB1.out (by simp)) HB2.out (by have := HB1.out.size; simp at this; omega)⟩

set_option maxHeartbeats 1000000 in
theorem search_any (bt ba T A R : Nat) (hR : R ≤ 10000) (hiff : ∀ m, m ≤ 10000 → (T * m ≤ A ↔ m ≤ R)) (hT : T * 10000 < B64 * B64) (w : World) (h1 : WideAt w bt T) (h2 : WideAt w ba A) :
    Calls Tryd.prog 46 #[.int .i64 10000, .func (.func 47) #[] #[.pointer (some ⟨bt, 0, none⟩), .pointer (some ⟨ba, 0, none⟩)]] w fun e w' => e = .returned (.int .i64 R) ∧ Below w.heap.size w w' := by
  have HI := Lib.hid hiff
  have HT := Lib.hid hT
  have H1 := Lib.hid h1
  have H2 := Lib.hid h2
  clear hiff hT h1 h2
  go_enter Tryd.func46, Tryd.ntmps46
  go_wp2
  go_loopw [5, 6] (fun i j wr => ∃ a b : Nat, a ≤ R ∧ R ≤ b ∧ b ≤ 10000 ∧ i = .int .i64 a ∧ j = .int .i64 b ∧ Below w.heap.size w wr)
    (fun i j _ => (intOf j - intOf i).toNat)
  case atStart => exact ⟨0, 10000, by omega, by omega, by omega, rfl, rfl, Below.refl _ _⟩
  case round =>
    obtain ⟨a, b, ha, hb, hb2, rfl, rfl, hB⟩ := hrel
    have HB := Lib.hid hB
    have K1 := Lib.hid (H1.out.below hB)
    have K2 := Lib.hid (H2.out.below hB)
    clear hB
    by_cases hlt : a < b
    · obtain ⟨m, hm⟩ : ∃ m : Nat, (a + b) / 2 = m := ⟨_, rfl⟩
      have hmi : ((a : Int) + b) / 2 = (m : Int) := by omega
      have m0 : a ≤ m := by omega
      have m1 : m < b := by omega
      have hle : T * (m + 1) < B64 * B64 := Nat.lt_of_le_of_lt (Nat.mul_le_mul_left T (by omega : m + 1 ≤ 10000)) HT.out
      have hT2 : T < B64 * B64 := Nat.lt_of_le_of_lt (by omega : T ≤ T * 10000) HT.out
      have hI := HI.out (m + 1) (by omega)
      clear hm
      by_cases hr : m + 1 ≤ R
      · have HC := Lib.hid (less_any bt ba T A m true (by rw [decide_eq_true_eq]; exact hI.2 hr) (by omega) hle hT2 _ K1.out K2.out)
        clear hI hle hT2
        go_wp2_with (go_at_call 47; refine HC.out.mono ?_; rintro e w1 ⟨rfl, hb1⟩; have HB1 := Lib.hid hb1; clear hb1)
        go_roundw
        case rel => exact ⟨m + 1, b, by omega, by omega, by omega, by go_num, rfl, below_seq HB.out HB1.out (Nat.le_refl _)⟩
        case measure => simp [intOf]; omega
      · have HC := Lib.hid (less_any bt ba T A m false (by rw [decide_eq_false_iff_not]; exact fun h => hr (hI.1 h)) (by omega) hle hT2 _ K1.out K2.out)
        clear hI hle hT2
        go_wp2_with (go_at_call 47; refine HC.out.mono ?_; rintro e w1 ⟨rfl, hb1⟩; have HB1 := Lib.hid hb1; clear hb1)
        go_roundw
        case rel => exact ⟨a, m, by omega, by omega, by omega, rfl, by go_num, below_seq HB.out HB1.out (Nat.le_refl _)⟩
        case measure => simp [intOf]; omega
    · have hab : a = R := by omega
      go_wp2
      go_ret
      exact ⟨ret_int (by omega), HB.out⟩

/-! ### Badness -/
theorem bad_iff (c t : Nat) (R : Int) (hc : 0 < c) (ht : 0 < t) (hR : R = badQ c t) (m : Nat) (hm : m ≤ 10000) : t * t * t * m ≤ c * c * c * 100 ↔ (m : Int) ≤ R := by
  have hT : (0 : Int) < (t : Int) * t * t := cube_pos (by omega)
  have := badQ_iff (100 * ((c : Int) * c * c)) ((t : Int) * t * t) m hT (by omega)
  rw [hR, badQ, ← this, Int.mul_comm 100]
  have e1 : ((t * t * t * m : Nat) : Int) = (t : Int) * t * t * m := by simp
  have e2 : ((c * c * c * 100 : Nat) : Int) = (c : Int) * c * c * 100 := by simp
  rw [← e1, ← e2]
  omega
set_option maxHeartbeats 1000000 in
theorem bad_zero (t : Int) (w : World) :
    Calls Tryd.prog 25 #[.int .i64 0, .int .i64 t] w fun e w' => e = .returned (.int .i64 0) ∧ Below w.heap.size w w' := by
  have hts : 1073741824 < t ∨ t ≤ 1073741824 := by omega
  rcases hts with h | h
  all_goals
    go_enter Tryd.func25, Tryd.ntmps25
    go_wp2_with (go_at_call 39; refine (abs_any _ 0 (by omega) (by omega) (by omega) _).mono ?_; rintro e w' ⟨rfl, rfl⟩)
    go_ret
    exact ⟨rfl, Below.refl _ _⟩
set_option maxHeartbeats 1000000 in
theorem bad_none (c t : Int) (hc : ¬ c = 0) (ht : t ≤ 0) (w : World) :
    Calls Tryd.prog 25 #[.int .i64 c, .int .i64 t] w fun e w' => e = .returned (.int .i64 10000) ∧ Below w.heap.size w w' := by
  have hcs : 1073741824 < c ∨ (c ≤ 1073741824 ∧ -1073741824 ≤ c) ∨ c < -1073741824 := by omega
  obtain ⟨a, ha⟩ : ∃ a : Int, a = max (clampZ c) (-clampZ c) := ⟨_, rfl⟩
  unfold clampZ at ha
  have hcb : (a == 0) = false := by simp; omega
  rcases hcs with h1 | ⟨h1, h2⟩ | h1
  all_goals
    have HA := Lib.hid ha
    clear ha
    go_enter Tryd.func25, Tryd.ntmps25
    go_wp2_with (go_at_call 39; refine (abs_any _ a (by have := HA.out; omega) (by omega) (by omega) _).mono ?_; rintro e w' ⟨rfl, rfl⟩)
    go_ret
    exact ⟨rfl, Below.refl _ _⟩

theorem wide_two (w : World) (V U h l h' l' : Nat) (T : TypeId) (e1 : V / B64 = h) (e2 : V % B64 = l) (e3 : U / B64 = h') (e4 : U % B64 = l') :
    WideAt ((w.alloc (.cells #[.int .u64 h, .int .u64 l] T)).alloc (.cells #[.int .u64 h', .int .u64 l'] T)) w.heap.size V ∧
    WideAt ((w.alloc (.cells #[.int .u64 h, .int .u64 l] T)).alloc (.cells #[.int .u64 h', .int .u64 l'] T)) (w.heap.size + 1) U := by
  subst e1 e2 e3 e4
  refine ⟨⟨by simp; omega, by simp, by simp⟩, ⟨by simp, by simp, by simp⟩⟩
set_option maxHeartbeats 4000000 in
theorem bad_some (c t : Int) (hc : ¬ c = 0) (ht : 0 < t) (w : World) :
    Calls Tryd.prog 25 #[.int .i64 c, .int .i64 t] w fun e w' => e = .returned (.int .i64 (badR c t)) ∧ Below w.heap.size w w' := by
  obtain ⟨a, ha⟩ : ∃ a : Nat, (a : Int) = max (clampZ c) (-clampZ c) := ⟨(max (clampZ c) (-clampZ c)).toNat, by omega⟩
  obtain ⟨b, hb⟩ : ∃ b : Nat, (b : Int) = min t 1073741824 := ⟨(min t 1073741824).toNat, by omega⟩
  have hb0 := badR_bd c t
  have hbr : badR c t = badQ a b := by rw [badR, if_neg hc, if_neg (by omega), ha, hb]
  obtain ⟨R, hR⟩ : ∃ R : Nat, (R : Int) = badR c t := ⟨(badR c t).toNat, by omega⟩
  rw [← hR] at hb0 hbr ⊢
  unfold clampZ at ha
  have a0 : 0 < a := by omega
  have a1 : a ≤ 1073741824 := by omega
  have b0 : 0 < b := by omega
  have b1 : b ≤ 1073741824 := by omega
  have hiff : ∀ m, m ≤ 10000 → (b * b * b * m ≤ a * a * a * 100 ↔ m ≤ R) := fun m hm => by rw [bad_iff a b R a0 b0 hbr m hm]; omega
  have ca := (cube_lt a1).2
  have cb := (cube_lt b1).2
  have eB : B64 * B64 = 340282366920938463463374607431768211456 := by decide
  have HS := Lib.hid (fun w bt ba => search_any bt ba (b * b * b) (a * a * a * 100) R (by omega) hiff (by rw [eB]; omega) w)
  obtain ⟨A, hA⟩ : ∃ A, a * a * a = A := ⟨_, rfl⟩
  obtain ⟨T, hT⟩ : ∃ T, b * b * b = T := ⟨_, rfl⟩
  have C1 := Lib.hid (cube_any a a1)
  have C3 := Lib.hid (cube_any b b1)
  have C2 := Lib.hid (times_nat A 100 (by omega) (by rw [eB, ← hA]; omega) (by rw [eB, ← hA]; omega))
  rw [hA] at C1 HS
  rw [hT] at C3 HS
  obtain ⟨h1, e1⟩ : ∃ x, A / B64 = x := ⟨_, rfl⟩
  obtain ⟨l1, e2⟩ : ∃ x, A % B64 = x := ⟨_, rfl⟩
  obtain ⟨h2, e3⟩ : ∃ x, A * 100 / B64 = x := ⟨_, rfl⟩
  obtain ⟨l2, e4⟩ : ∃ x, A * 100 % B64 = x := ⟨_, rfl⟩
  obtain ⟨h3, e5⟩ : ∃ x, T / B64 = x := ⟨_, rfl⟩
  obtain ⟨l3, e6⟩ : ∃ x, T % B64 = x := ⟨_, rfl⟩
  rw [show wv A = wideV h1 l1 by rw [wv, e1, e2]] at C1 C2
  rw [show wv (A * 100) = wideV h2 l2 by rw [wv, e3, e4]] at C2
  rw [show wv T = wideV h3 l3 by rw [wv, e5, e6]] at C3
  have HW := Lib.hid (fun w => wide_two w (A * 100) T h2 l2 h3 l3 64 e3 e4 e5 e6)
  clear e1 e2 e3 e4 e5 e6 hA hT ca cb eB hiff hbr hR hb0
  have hab : ((a : Int) == 0) = false := by simp; omega
  have HA := Lib.hid (show (a : Int) = max (max (-1073741824) (min 1073741824 c)) (-max (-1073741824) (min 1073741824 c)) from ha)
  have hmin : min t 1073741824 = (b : Int) := hb.symm
  have hb0 : ¬ (b : Int) ≤ 0 := by omega
  clear ha hb
  have hone : True := trivial
  cases hone
  all_goals
    go_enter Tryd.func25, Tryd.ntmps25
    go_wp2_with (go_at_call 39; refine (abs_any _ a (by have := HA.out; omega) (by omega) (by omega) _).mono ?_; rintro e w' ⟨rfl, rfl⟩)
    refine (C1.out _).mono ?_
    rintro e w1 ⟨rfl, hb1⟩
    have HB1 := Lib.hid hb1
    clear hb1
    go_wp2_with fail
    refine (C2.out _).mono ?_
    rintro e w2 ⟨rfl, hb2⟩
    have HB2 := Lib.hid hb2
    clear hb2
    go_wp2_with fail
    refine (C3.out _).mono ?_
    rintro e w3 ⟨rfl, hb3⟩
    have HB3 := Lib.hid hb3
    clear hb3
    go_wp2_with fail
    refine (HS.out _ _ _ (HW.out w3).2 (HW.out w3).1).mono ?_
    rintro e w4 ⟨rfl, hb4⟩
    have HB4 := Lib.hid hb4
    clear hb4
    go_wp2
    go_ret
    exact ⟨rfl, below_seq (((below_seq (below_seq HB1.out HB2.out (Nat.le_refl _)) HB3.out (Nat.le_refl _)).alloc (by have := HB1.out.size; have := HB2.out.size; have := HB3.out.size; omega) _).alloc (by have := HB1.out.size; have := HB2.out.size; have := HB3.out.size; simp; omega) _) HB4.out (Nat.le_refl _)⟩
theorem bad_any (c t : Int) (w : World) :
    Calls Tryd.prog 25 #[.int .i64 c, .int .i64 t] w fun e w' => e = .returned (.int .i64 (badR c t)) ∧ Below w.heap.size w w' := by
  by_cases hc : c = 0
  · subst hc; exact bad_zero t w
  · by_cases ht : 0 < t
    · exact bad_some c t hc ht w
    · have := bad_none c t hc (by omega) w
      rwa [← show badR c t = 10000 by rw [badR, if_neg hc, if_pos (by omega)]] at this
theorem bad_at (c t r : Int) (h : badR c t = r) (w : World) :
    Calls Tryd.prog 25 #[.int .i64 c, .int .i64 t] w fun e w' => e = .returned (.int .i64 r) ∧ Below w.heap.size w w' := by subst h; exact bad_any c t w
end Go.Proofs.YtkiaiiepfphllaaDoor
