/- The walk of EditdistanceCommon. -/
import Derived.Test.YtbdeakodmhcgdaaEdAwake
import Derived.Test.YtbdeakodmhcgdaaEdCompare
import Derived.Test.YtbdeakodmhcgdaaEdWithin
namespace Go.Proofs.Ytbdeakodmhcgdaa
set_option linter.unusedSimpArgs false
set_option linter.unusedVariables false
set_option maxRecDepth 100000
open Go.RowKit Go.Deep

theorem great_at (xs : List ByteArray) (n : Int) (r : Bool) (h : greatW xs n = r) (vx : Value) (w : World) (hx : StrsAt w vx xs) (lx : xs.length ≤ maxLen) :
    Calls Try.prog 23 #[vx, .int .i64 n] w fun e w' => e = .returned (.bool r) ∧ w = w' := by subst h; exact refGreatWords_any xs n vx w hx lx

set_option maxHeartbeats 4000000 in
theorem comlaw_skip (w : World) (va : Value) (a : List ByteArray) (vb : Value) (b : List ByteArray) (vo : Value) (o : List ByteArray) (ha : StrsAt w va a) (la : a.length ≤ maxLen) (hb : StrsAt w vb b) (lb : b.length ≤ maxLen) (ho : StrsAt w vo o) (lo : o.length ≤ maxLen)
    (h : greatW a 8 = true ∨ greatW b 8 = true ∨ 8 < a.length ∨ 8 < b.length ∨ 8 < o.length) :
    Calls Try.prog 9 #[va, vb, vo] w fun e w' => e = .returned (.bool true) ∧ Below w.heap.size w w' := by
  have HA := Lib.hid ha
  have HB := Lib.hid hb
  have HLA := Lib.hid la
  have HLB := Lib.hid lb
  unfold maxLen at la lb lo
  obtain ⟨aa, ca, rfl, _⟩ := ha
  obtain ⟨ab, cb, rfl, _⟩ := hb
  obtain ⟨ao, co, rfl, _⟩ := ho
  by_cases g1 : greatW a 8 = true
  · have G1 := Lib.hid (great_at a 8 true g1 _ w HA.out HLA.out)
    clear h g1
    go_enter Try.func9, Try.ntmps9
    go_wp2_with fail
    refine G1.out.mono ?_
    rintro e w1 ⟨rfl, rfl⟩
    go_wp2_with fail
    refine (awake_any _).mono ?_
    rintro e w2 ⟨rfl, b2⟩
    have B2 := Lib.hid b2
    clear b2
    go_wp2
    go_ret
    exact ⟨rfl, B2.out⟩
  · have g1 : greatW a 8 = false := by simpa using g1
    have G1 := Lib.hid (great_at a 8 false g1 _ w HA.out HLA.out)
    by_cases g2 : greatW b 8 = true
    · have G2 := Lib.hid (great_at b 8 true g2 _ w HB.out HLB.out)
      clear h g1 g2
      go_enter Try.func9, Try.ntmps9
      go_wp2_with fail
      refine G1.out.mono ?_
      rintro e w1 ⟨rfl, rfl⟩
      go_wp2_with fail
      refine G2.out.mono ?_
      rintro e w1 ⟨rfl, rfl⟩
      go_wp2_with fail
      refine (awake_any _).mono ?_
      rintro e w2 ⟨rfl, b2⟩
      have B2 := Lib.hid b2
      clear b2
      go_wp2
      go_ret
      exact ⟨rfl, B2.out⟩
    · have g2 : greatW b 8 = false := by simpa using g2
      have G2 := Lib.hid (great_at b 8 false g2 _ w HB.out HLB.out)
      rcases (show (8 : Int) < a.length ∨ ((a.length : Int) ≤ 8 ∧ (8 : Int) < b.length) ∨ ((a.length : Int) ≤ 8 ∧ (b.length : Int) ≤ 8 ∧ (8 : Int) < o.length) by
        rcases h with h | h | h | h | h
        · rw [g1] at h; cases h
        · rw [g2] at h; cases h
        all_goals omega) with k1 | ⟨k1, k2⟩ | ⟨k1, k2, k3⟩
      all_goals
        clear h g1 g2
        go_enter Try.func9, Try.ntmps9
        go_wp2_with fail
        refine G1.out.mono ?_
        rintro e w1 ⟨rfl, rfl⟩
        go_wp2_with fail
        refine G2.out.mono ?_
        rintro e w1 ⟨rfl, rfl⟩
        go_wp2_with fail
        refine (awake_any _).mono ?_
        rintro e w2 ⟨rfl, b2⟩
        have B2 := Lib.hid b2
        clear b2
        go_wp2
        go_ret
        exact ⟨rfl, B2.out⟩

set_option maxHeartbeats 8000000 in
theorem comlaw_walk (w : World) (va : Value) (a : List ByteArray) (vb : Value) (b : List ByteArray) (vo : Value) (o : List ByteArray) (ha : StrsAt w va a) (la : a.length ≤ maxLen) (hb : StrsAt w vb b) (lb : b.length ≤ maxLen) (ho : StrsAt w vo o) (lo : o.length ≤ maxLen) :
    Calls Try.prog 9 #[va, vb, vo] w fun e w' => e = .returned (.bool true) ∧ Below w.heap.size w w' := by
  by_cases hbig : greatW a 8 = true ∨ greatW b 8 = true ∨ 8 < a.length ∨ 8 < b.length ∨ 8 < o.length
  · exact comlaw_skip w va a vb b vo o ha la hb lb ho lo hbig
  · have g1 : greatW a 8 = false := by rw [Bool.eq_false_iff]; exact fun h => hbig (.inl h)
    have g2 : greatW b 8 = false := by rw [Bool.eq_false_iff]; exact fun h => hbig (.inr (.inl h))
    have k1 : (a.length : Int) ≤ 8 := by omega
    have k2 : (b.length : Int) ≤ 8 := by omega
    have k3 : (o.length : Int) ≤ 8 := by omega
    have G1 := Lib.hid (great_at a 8 false g1 _ w ha la)
    have G2 := Lib.hid (great_at b 8 false g2 _ w hb lb)
    have C1 := Lib.hid (common_any a b va vb w ha hb (by omega))
    have e2 : listsR a b = (((lev a b : Nat) : Int), 0) := by rw [listsR, if_neg (by omega)]
    obtain ⟨q1, q2, q3⟩ := lcs_lev a b
    obtain ⟨x, hx⟩ : ∃ x, lev a b = x := ⟨_, rfl⟩
    rw [hx] at e2 q1 q2 q3
    have HA := Lib.hid ha
    have HB := Lib.hid hb
    have HO := Lib.hid ho
    have E2 := Lib.hid e2
    have Q := Lib.hid (And.intro q1 (And.intro q2 q3))
    have hxb : x ≤ 16 := by omega
    obtain ⟨aa, ca, rfl, _⟩ := ha
    obtain ⟨ab, cb, rfl, _⟩ := hb
    obtain ⟨ao, co, rfl, _⟩ := ho
    clear hbig g1 g2 la lb lo e2 q1 q2 q3 hx
    go_enter Try.func9, Try.ntmps9
    go_wp2_with fail
    refine G1.out.mono ?_
    rintro e w1 ⟨rfl, rfl⟩
    go_wp2_with fail
    refine G2.out.mono ?_
    rintro e w1 ⟨rfl, rfl⟩
    go_wp2_with fail
    refine C1.out.mono ?_
    rintro e w1 ⟨vc, l, rfl, hc, hbest, b1⟩
    have B1 := Lib.hid b1
    have HC := Lib.hid hc
    have HA1 := Lib.hid (HA.out.below b1)
    have HB1 := Lib.hid (HB.out.below b1)
    have HO1 := Lib.hid (HO.out.below b1)
    have BE := Lib.hid hbest
    obtain ⟨ac, cc, rfl, _⟩ := hc
    obtain ⟨n, hn⟩ : ∃ n, l.length = n := ⟨_, rfl⟩
    have hll := hbest.2.2.1
    rw [hn] at hll
    have h1 : (x : Int) ≤ (a.length : Int) + (b.length : Int) - 2 * (n : Int) := by have := Q.out.1; omega
    have h2 : max (a.length : Int) (b.length : Int) - (n : Int) ≤ (x : Int) := by have := Q.out.2.1; have := Q.out.2.2; omega
    have h3 : (n : Int) ≤ 8 := by have := hbest.1.length_le; omega
    have HN := Lib.hid hn
    have hmul : IntKind.i64.wrap (2 * (n : Int)) = 2 * (n : Int) := IntWalk.i64_in _ (by omega)
    have hw1 : IntKind.i64.wrap ((a.length : Int) + (b.length : Int)) = (a.length : Int) + (b.length : Int) := IntWalk.i64_in _ (by omega)
    have hw2 : IntKind.i64.wrap ((a.length : Int) + (b.length : Int) - 2 * (n : Int)) = (a.length : Int) + (b.length : Int) - 2 * (n : Int) := IntWalk.i64_in _ (by omega)
    have hw3 : IntKind.i64.wrap (max (a.length : Int) (b.length : Int) - (n : Int)) = max (a.length : Int) (b.length : Int) - (n : Int) := IntWalk.i64_in _ (by omega)
    rw [hn] at HC
    clear b1 hbest hll
    go_wp2_with fail
    refine (lists_at a b _ E2.out _ _ _ HA1.out HB1.out (by omega) (by omega)).mono ?_
    rintro e w2 ⟨rfl, b2⟩
    have B2 := Lib.hid (below_seq B1.out b2 B1.out.size)
    have HC2 := Lib.hid (HC.out.below b2)
    have HA2 := Lib.hid (HA1.out.below b2)
    have HB2 := Lib.hid (HB1.out.below b2)
    have HO2 := Lib.hid (HO1.out.below b2)
    clear b2
    go_wp2_with fail
    refine (within_any l a _ _ _ HC2.out HA2.out (by rw [HN.out]; omega) (by omega)).mono ?_
    rintro e w3 ⟨r, rfl, hr, b3⟩
    obtain rfl : true = r := (hr.2 BE.out.1).symm
    have B3 := Lib.hid (below_seq B2.out b3 B2.out.size)
    have HC3 := Lib.hid (HC2.out.below b3)
    have HA3 := Lib.hid (HA2.out.below b3)
    have HB3 := Lib.hid (HB2.out.below b3)
    have HO3 := Lib.hid (HO2.out.below b3)
    clear b3 hr
    go_wp2_with fail
    refine (within_any l b _ _ _ HC3.out HB3.out (by rw [HN.out]; omega) (by omega)).mono ?_
    rintro e w4 ⟨r, rfl, hr, b4⟩
    obtain rfl : true = r := (hr.2 BE.out.2.1).symm
    have B4 := Lib.hid (below_seq B3.out b4 B3.out.size)
    have HC4 := Lib.hid (HC3.out.below b4)
    have HA4 := Lib.hid (HA3.out.below b4)
    have HB4 := Lib.hid (HB3.out.below b4)
    have HO4 := Lib.hid (HO3.out.below b4)
    clear b4 hr
    go_wp2_with fail
    refine (within_any o a _ _ _ HO4.out HA4.out (by omega) (by omega)).mono ?_
    rintro e w5 ⟨r1, rfl, hr1, b5⟩
    have B5 := Lib.hid (below_seq B4.out b5 B4.out.size)
    have HC5 := Lib.hid (HC4.out.below b5)
    have HB5 := Lib.hid (HB4.out.below b5)
    have HO5 := Lib.hid (HO4.out.below b5)
    have HR1 := Lib.hid hr1
    clear b5 hr1
    cases r1 with
    | false =>
      go_wp2_with fail
      refine (awake_any _).mono ?_
      rintro e w9 ⟨rfl, b9⟩
      have B9 := Lib.hid (below_seq B5.out b9 B5.out.size)
      clear b9
      go_wp2
      go_ret
      exact ⟨rfl, B9.out⟩
    | true =>
      go_wp2_with fail
      refine (within_any o b _ _ _ HO5.out HB5.out (by omega) (by omega)).mono ?_
      rintro e w6 ⟨r2, rfl, hr2, b6⟩
      have B6 := Lib.hid (below_seq B5.out b6 B5.out.size)
      have HC6 := Lib.hid (HC5.out.below b6)
      have HO6 := Lib.hid (HO5.out.below b6)
      have HR2 := Lib.hid hr2
      clear b6 hr2
      cases r2 with
      | false =>
        go_wp2_with fail
        refine (awake_any _).mono ?_
        rintro e w9 ⟨rfl, b9⟩
        have B9 := Lib.hid (below_seq B6.out b9 B6.out.size)
        clear b9
        go_wp2
        go_ret
        exact ⟨rfl, B9.out⟩
      | true =>
        have s1 := HR1.out.1 (by first | rfl | trivial)
        have s2 := HR2.out.1 (by first | rfl | trivial)
        have hle := lcs_le s1 s2
        rw [← BE.out.2.2.1, HN.out] at hle
        by_cases heq : o.length = n
        · have hlt := BE.out.2.2.2 o s1 s2 (by rw [HN.out]; exact heq)
          have HLT := Lib.hid hlt
          have hng : ¬ (n : Int) < (o.length : Int) := by omega
          have heqI : ((o.length : Int) == (n : Int)) = true := by simp; omega
          clear s1 s2 hle hlt heq
          go_wp2_with fail
          refine (compareL_any o l _ _ _ HO6.out HC6.out (by omega) (by rw [HN.out]; omega)).mono ?_
          rintro e w7 ⟨z, rfl, hz, b7⟩
          rw [HLT.out, decide_eq_false_iff_not] at hz
          have B7 := Lib.hid (below_seq B6.out b7 B6.out.size)
          clear b7
          go_wp2_with fail
          refine (awake_any _).mono ?_
          rintro e w9 ⟨rfl, b9⟩
          have B9 := Lib.hid (below_seq B7.out b9 B7.out.size)
          clear b9
          go_wp2
          go_ret
          exact ⟨rfl, B9.out⟩
        · have hng : ¬ (n : Int) < (o.length : Int) := by omega
          have heqI : ((o.length : Int) == (n : Int)) = false := by simp; omega
          clear s1 s2 hle
          go_wp2_with fail
          refine (awake_any _).mono ?_
          rintro e w9 ⟨rfl, b9⟩
          have B9 := Lib.hid (below_seq B6.out b9 B6.out.size)
          clear b9
          go_wp2
          go_ret
          exact ⟨rfl, B9.out⟩
end Go.Proofs.Ytbdeakodmhcgdaa
