/- The walk of EditdistanceLists. -/
import Derived.Test.YtbdeakodmhcgdaaEdRefCom
import Derived.Test.YtbdeakodmhcgdaaEdComLaw
import Derived.Test.YtbdeakodmhcgdaaEdLongs
import Derived.Test.YtbdeakodmhcgdaaEdApp
namespace Go.Proofs.Ytbdeakodmhcgdaa
set_option linter.unusedSimpArgs false
set_option linter.unusedVariables false
set_option maxRecDepth 100000
open Go.RowKit Go.Deep

theorem apply_at (s : ByteArray) (es : List EdV) (R : List UInt8 × Int) (hR : applyR s.data.toList es = R) (v : Value) (w : World) (hv : EditsAt w v es) (hl : es.length ≤ 6) (ht : ∀ e ∈ es, e.text.size ≤ 8) (hs : s.size ≤ maxLen) :
    Calls Try.prog 30 #[.string s, v] w fun e w' => e = .returned (strV R) ∧ Below w.heap.size w w' := by
  subst hR
  by_cases h : 65536 < s.size
  · exact apply_big s v es h hs w
  · exact apply_any s es v w hv (by omega) ht h
theorem refApply_at (s : ByteArray) (es : List EdV) (R : List UInt8 × Int) (hR : applyR s.data.toList es = R) (v : Value) (w : World) (hv : EditsAt w v es) (hl : es.length ≤ 6) (ht : ∀ e ∈ es, e.text.size ≤ 8) (hs : s.size ≤ maxLen) :
    Calls Try.prog 31 #[.string s, v] w fun e w' => e = .returned (strV R) ∧ Below w.heap.size w w' := by
  subst hR
  by_cases h : 65536 < s.size
  · exact refApply_big s v es h hs w
  · exact refApply_any s es v w hv hl ht h
theorem short_texts {es : List EdV} (h : longE es = false) : ∀ e ∈ es, e.text.size ≤ 8 := by
  intro e he
  by_cases h8 : 8 < e.text.size
  · have : longE es = true := List.any_eq_true.2 ⟨e, he, decide_eq_true h8⟩
    rw [h] at this; cases this
  · omega
theorem greatW_len {xs : List ByteArray} (h : greatW xs 8 = false) : xs.length ≤ 258 := by
  have : greatB xs.length 8 = false := by
    unfold greatW at h
    rw [Bool.or_eq_false_iff] at h; exact h.1
  simp only [greatB, Bool.or_eq_false_iff, decide_eq_false_iff_not] at this
  omega
theorem s_ways {n : Nat} (h : ¬ (20 < n ∧ n ≤ 65536)) (h2 : ¬ 65538 < n) : ((n : Int) ≤ 20 ∧ (n : Int) ≤ 65536 ∧ (n : Int) ≤ 65538) ∨ ((20 : Int) < n ∧ (65536 : Int) < n ∧ (n : Int) ≤ 65538) := by omega

set_option maxHeartbeats 8000000 in
theorem listslaw_skip (w : World) (va : Value) (a : List ByteArray) (vb : Value) (b : List ByteArray) (s : ByteArray) (v : Value) (es : List EdV) (ha : StrsAt w va a) (la : a.length ≤ maxLen) (hb : StrsAt w vb b) (lb : b.length ≤ maxLen) (hs : s.size ≤ maxLen) (hv : EditsAt w v es) (hl : es.length ≤ maxLen)
    (h : greatW a 8 = true ∨ greatW b 8 = true ∨ (20 < s.size ∧ s.size ≤ 65536) ∨ 65538 < s.size ∨ 6 < es.length ∨ longE es = true) :
    Calls Try.prog 4 #[va, vb, .string s, v] w fun e w' => e = .returned (.bool true) ∧ Below w.heap.size w w' := by
  have HL := Lib.hid hl
  have HV := Lib.hid hv
  unfold maxLen at hs hl
  have hcs : greatW a 8 = true ∨ (greatW a 8 = false ∧ greatW b 8 = true) ∨ (greatW a 8 = false ∧ greatW b 8 = false ∧ (((20 : Int) < s.size ∧ (s.size : Int) ≤ 65536) ∨ ((20 : Int) < s.size ∧ (65536 : Int) < s.size ∧ (65538 : Int) < s.size) ∨
      (((s.size : Int) ≤ 20 ∧ (s.size : Int) ≤ 65536 ∧ (s.size : Int) ≤ 65538) ∨ ((20 : Int) < s.size ∧ (65536 : Int) < s.size ∧ (s.size : Int) ≤ 65538)) ∧ ((6 : Int) < es.length ∨ ((es.length : Int) ≤ 6 ∧ longE es = true)))) := by
    by_cases g1 : greatW a 8 = true
    · exact .inl g1
    · have g1 : greatW a 8 = false := by simpa using g1
      by_cases g2 : greatW b 8 = true
      · exact .inr (.inl ⟨g1, g2⟩)
      · have g2 : greatW b 8 = false := by simpa using g2
        refine .inr (.inr ⟨g1, g2, ?_⟩)
        by_cases s1 : 20 < s.size ∧ s.size ≤ 65536
        · exact .inl (by omega)
        · by_cases s2 : 65538 < s.size
          · exact .inr (.inl (by omega))
          · refine .inr (.inr ⟨s_ways s1 s2, ?_⟩)
            by_cases l1 : 6 < es.length
            · exact .inl (by omega)
            · refine .inr ⟨by omega, ?_⟩
              rcases h with h | h | h | h | h | h
              · rw [g1] at h; cases h
              · rw [g2] at h; cases h
              · exact absurd h s1
              · exact absurd h s2
              · exact absurd h l1
              · exact h
  clear h
  obtain ⟨av, cv, rfl, hvc⟩ := hv
  clear hvc
  rcases hcs with g1 | ⟨g1, g2⟩ | ⟨g1, g2, hcs⟩
  · have G1 := Lib.hid (great_at a 8 true g1 _ w ha la)
    clear g1 ha hb la lb
    go_enter Try.func4, Try.ntmps4
    go_wp2_with fail
    refine G1.out.mono ?_
    rintro e w1 ⟨rfl, rfl⟩
    go_wp2_with fail
    refine (awake_any _).mono ?_
    rintro e w2 ⟨rfl, b2⟩
    have B2 := Lib.hid b2
    clear b2
    go_wp2
    go_ret
    exact ⟨rfl, B2.out⟩
  · have G1 := Lib.hid (great_at a 8 false g1 _ w ha la)
    have G2 := Lib.hid (great_at b 8 true g2 _ w hb lb)
    clear g1 g2 ha hb la lb
    go_enter Try.func4, Try.ntmps4
    go_wp2_with fail
    refine G1.out.mono ?_
    rintro e w1 ⟨rfl, rfl⟩
    go_wp2_with fail
    refine G2.out.mono ?_
    rintro e w1 ⟨rfl, rfl⟩
    go_wp2_with fail
    refine (awake_any _).mono ?_
    rintro e w2 ⟨rfl, b2⟩
    have B2 := Lib.hid b2
    clear b2
    go_wp2
    go_ret
    exact ⟨rfl, B2.out⟩
  · have G1 := Lib.hid (great_at a 8 false g1 _ w ha la)
    have G2 := Lib.hid (great_at b 8 false g2 _ w hb lb)
    clear g1 g2 ha hb la lb
    rcases hcs with ⟨s1, s2⟩ | ⟨s1, s2, s3⟩ | ⟨hsw, hlw⟩
    · go_enter Try.func4, Try.ntmps4
      go_wp2_with fail
      refine G1.out.mono ?_
      rintro e w1 ⟨rfl, rfl⟩
      go_wp2_with fail
      refine G2.out.mono ?_
      rintro e w1 ⟨rfl, rfl⟩
      go_wp2_with fail
      refine (awake_any _).mono ?_
      rintro e w2 ⟨rfl, b2⟩
      have B2 := Lib.hid b2
      clear b2
      go_wp2
      go_ret
      exact ⟨rfl, B2.out⟩
    · go_enter Try.func4, Try.ntmps4
      go_wp2_with fail
      refine G1.out.mono ?_
      rintro e w1 ⟨rfl, rfl⟩
      go_wp2_with fail
      refine G2.out.mono ?_
      rintro e w1 ⟨rfl, rfl⟩
      go_wp2_with fail
      refine (awake_any _).mono ?_
      rintro e w2 ⟨rfl, b2⟩
      have B2 := Lib.hid b2
      clear b2
      go_wp2
      go_ret
      exact ⟨rfl, B2.out⟩
    · rcases hlw with l1 | ⟨l1, hlo⟩
      · rcases hsw with ⟨s1, s2, s3⟩ | ⟨s1, s2, s3⟩
        · go_enter Try.func4, Try.ntmps4
          go_wp2_with fail
          refine G1.out.mono ?_
          rintro e w1 ⟨rfl, rfl⟩
          go_wp2_with fail
          refine G2.out.mono ?_
          rintro e w1 ⟨rfl, rfl⟩
          go_wp2_with fail
          refine (awake_any _).mono ?_
          rintro e w2 ⟨rfl, b2⟩
          have B2 := Lib.hid b2
          clear b2
          go_wp2
          go_ret
          exact ⟨rfl, B2.out⟩
        · go_enter Try.func4, Try.ntmps4
          go_wp2_with fail
          refine G1.out.mono ?_
          rintro e w1 ⟨rfl, rfl⟩
          go_wp2_with fail
          refine G2.out.mono ?_
          rintro e w1 ⟨rfl, rfl⟩
          go_wp2_with fail
          refine (awake_any _).mono ?_
          rintro e w2 ⟨rfl, b2⟩
          have B2 := Lib.hid b2
          clear b2
          go_wp2
          go_ret
          exact ⟨rfl, B2.out⟩
      · have CL := Lib.hid (containsL_any es true hlo _ w HV.out HL.out)
        clear hlo
        rcases hsw with ⟨s1, s2, s3⟩ | ⟨s1, s2, s3⟩
        · go_enter Try.func4, Try.ntmps4
          go_wp2_with fail
          refine G1.out.mono ?_
          rintro e w1 ⟨rfl, rfl⟩
          go_wp2_with fail
          refine G2.out.mono ?_
          rintro e w1 ⟨rfl, rfl⟩
          go_wp2_with fail
          refine CL.out.mono ?_
          rintro e w1 ⟨rfl, b1⟩
          have B1 := Lib.hid b1
          clear b1
          go_wp2_with fail
          refine (awake_any _).mono ?_
          rintro e w2 ⟨rfl, b2⟩
          have B2 := Lib.hid (below_seq B1.out b2 B1.out.size)
          clear b2
          go_wp2
          go_ret
          exact ⟨rfl, B2.out⟩
        · go_enter Try.func4, Try.ntmps4
          go_wp2_with fail
          refine G1.out.mono ?_
          rintro e w1 ⟨rfl, rfl⟩
          go_wp2_with fail
          refine G2.out.mono ?_
          rintro e w1 ⟨rfl, rfl⟩
          go_wp2_with fail
          refine CL.out.mono ?_
          rintro e w1 ⟨rfl, b1⟩
          have B1 := Lib.hid b1
          clear b1
          go_wp2_with fail
          refine (awake_any _).mono ?_
          rintro e w2 ⟨rfl, b2⟩
          have B2 := Lib.hid (below_seq B1.out b2 B1.out.size)
          clear b2
          go_wp2
          go_ret
          exact ⟨rfl, B2.out⟩

theorem nil_strs (w : World) : StrsAt w (.slice none 0 0) [] := ⟨Option.none, 0, rfl, fun h => absurd h (by simp)⟩

set_option maxHeartbeats 8000000 in
theorem listslaw_walk (w : World) (va : Value) (a : List ByteArray) (vb : Value) (b : List ByteArray) (s : ByteArray) (v : Value) (es : List EdV) (ha : StrsAt w va a) (la : a.length ≤ maxLen) (hb : StrsAt w vb b) (lb : b.length ≤ maxLen) (hs : s.size ≤ maxLen) (hv : EditsAt w v es) (hl : es.length ≤ maxLen) :
    Calls Try.prog 4 #[va, vb, .string s, v] w fun e w' => e = .returned (.bool true) ∧ Below w.heap.size w w' := by
  by_cases hbig : greatW a 8 = true ∨ greatW b 8 = true ∨ (20 < s.size ∧ s.size ≤ 65536) ∨ 65538 < s.size ∨ 6 < es.length ∨ longE es = true
  · exact listslaw_skip w va a vb b s v es ha la hb lb hs hv hl hbig
  · have g1 : greatW a 8 = false := by rw [Bool.eq_false_iff]; exact fun h => hbig (.inl h)
    have g2 : greatW b 8 = false := by rw [Bool.eq_false_iff]; exact fun h => hbig (.inr (.inl h))
    have hsw := s_ways (n := s.size) (fun h => hbig (.inr (.inr (.inl h)))) (fun h => hbig (.inr (.inr (.inr (.inl h)))))
    have hl6 : es.length ≤ 6 := by
      by_cases h : 6 < es.length
      · exact absurd (.inr (.inr (.inr (.inr (.inl h))))) hbig
      · omega
    have hlo : longE es = false := by rw [Bool.eq_false_iff]; exact fun h => hbig (.inr (.inr (.inr (.inr (.inr h)))))
    have ht := short_texts hlo
    have hl6I : (es.length : Int) ≤ 6 := by omega
    have la8 := greatW_len g1
    have lb8 := greatW_len g2
    have G1 := Lib.hid (great_at a 8 false g1 _ w ha la)
    have G2 := Lib.hid (great_at b 8 false g2 _ w hb lb)
    have CL := Lib.hid (containsL_any es false hlo _ w hv hl)
    have HA := Lib.hid ha
    have HB := Lib.hid hb
    have HV := Lib.hid hv
    obtain ⟨⟨d, e0⟩, hp⟩ : ∃ p, listsR a b = p := ⟨_, rfl⟩
    obtain ⟨⟨ru, ri⟩, hR⟩ : ∃ p, applyR s.data.toList es = p := ⟨_, rfl⟩
    have EL := Lib.hid hp
    have ER := Lib.hid hR
    obtain ⟨av, cv, rfl, hvc⟩ := hv
    clear hvc hbig g1 g2 ha hb la lb hlo hp hR hl
    by_cases hlong : 256 < a.length ∨ 256 < b.length
    · rcases hsw with ⟨s1, s2, s3⟩ | ⟨s1, s2, s3⟩
      all_goals
        go_enter Try.func4, Try.ntmps4
        go_wp2_with fail
        refine G1.out.mono ?_
        rintro e w1 ⟨rfl, rfl⟩
        go_wp2_with fail
        refine G2.out.mono ?_
        rintro e w1 ⟨rfl, rfl⟩
        go_wp2_with fail
        refine CL.out.mono ?_
        rintro e w1 ⟨rfl, b1⟩
        have B1 := Lib.hid b1
        have HA1 := Lib.hid (HA.out.below b1)
        have HB1 := Lib.hid (HB.out.below b1)
        have HV1 := Lib.hid (HV.out.below b1)
        clear b1
        go_wp2_with fail
        refine (lists_at a b _ EL.out _ _ _ HA1.out HB1.out (by omega) (by omega)).mono ?_
        rintro e w2 ⟨rfl, b2⟩
        have B2 := Lib.hid (below_seq B1.out b2 B1.out.size)
        have HA2 := Lib.hid (HA1.out.below b2)
        have HB2 := Lib.hid (HB1.out.below b2)
        have HV2 := Lib.hid (HV1.out.below b2)
        clear b2
        go_wp2_with fail
        refine (refLists_at a b _ EL.out _ _ _ HA2.out HB2.out (by omega) (by omega)).mono ?_
        rintro e w3 ⟨rfl, b3⟩
        have B3 := Lib.hid (below_seq B2.out b3 B2.out.size)
        have HA3 := Lib.hid (HA2.out.below b3)
        have HB3 := Lib.hid (HB2.out.below b3)
        have HV3 := Lib.hid (HV2.out.below b3)
        clear b3
        go_wp2_with fail
        refine (common_long a b _ _ _ HA3.out HB3.out hlong (by omega) (by omega)).mono ?_
        rintro e w4 ⟨rfl, b4⟩
        have B4 := Lib.hid (below_seq B3.out b4 B3.out.size)
        have HA4 := Lib.hid (HA3.out.below b4)
        have HB4 := Lib.hid (HB3.out.below b4)
        have HV4 := Lib.hid (HV3.out.below b4)
        clear b4
        go_wp2_with fail
        refine (refCommon_long a b _ _ _ HA4.out HB4.out (by omega) (by omega) hlong).mono ?_
        rintro e w5 ⟨rfl, b5⟩
        have B5 := Lib.hid (below_seq B4.out b5 B4.out.size)
        have HA5 := Lib.hid (HA4.out.below b5)
        have HB5 := Lib.hid (HB4.out.below b5)
        have HV5 := Lib.hid (HV4.out.below b5)
        clear b5
        go_wp2_with fail
        refine (apply_at s es _ ER.out _ _ HV5.out hl6 ht hs).mono ?_
        rintro e w6 ⟨rfl, b6⟩
        have B6 := Lib.hid (below_seq B5.out b6 B5.out.size)
        have HV6 := Lib.hid (HV5.out.below b6)
        clear b6
        go_wp2_with fail
        refine (refApply_at s es _ ER.out _ _ HV6.out hl6 ht hs).mono ?_
        rintro e w7 ⟨rfl, b7⟩
        have B7 := Lib.hid (below_seq B6.out b7 B6.out.size)
        clear b7
        go_wp2_with fail
        refine (refSame_any [] [] _ _ _ (nil_strs _) (nil_strs _) (by simp) (by simp)).mono ?_
        rw [decide_eq_true (rfl : ([] : List ByteArray) = [])]
        rintro e w8 ⟨rfl, b8⟩
        have B8 := Lib.hid (below_seq B7.out b8 B7.out.size)
        clear b8
        go_wp2_with fail
        refine (awake_any _).mono ?_
        rintro e w9 ⟨rfl, b9⟩
        have B9 := Lib.hid (below_seq B8.out b9 B8.out.size)
        clear b9
        go_wp2
        go_ret
        exact ⟨rfl, B9.out⟩
    · rcases hsw with ⟨s1, s2, s3⟩ | ⟨s1, s2, s3⟩
      all_goals
        go_enter Try.func4, Try.ntmps4
        go_wp2_with fail
        refine G1.out.mono ?_
        rintro e w1 ⟨rfl, rfl⟩
        go_wp2_with fail
        refine G2.out.mono ?_
        rintro e w1 ⟨rfl, rfl⟩
        go_wp2_with fail
        refine CL.out.mono ?_
        rintro e w1 ⟨rfl, b1⟩
        have B1 := Lib.hid b1
        have HA1 := Lib.hid (HA.out.below b1)
        have HB1 := Lib.hid (HB.out.below b1)
        have HV1 := Lib.hid (HV.out.below b1)
        clear b1
        go_wp2_with fail
        refine (lists_at a b _ EL.out _ _ _ HA1.out HB1.out (by omega) (by omega)).mono ?_
        rintro e w2 ⟨rfl, b2⟩
        have B2 := Lib.hid (below_seq B1.out b2 B1.out.size)
        have HA2 := Lib.hid (HA1.out.below b2)
        have HB2 := Lib.hid (HB1.out.below b2)
        have HV2 := Lib.hid (HV1.out.below b2)
        clear b2
        go_wp2_with fail
        refine (refLists_at a b _ EL.out _ _ _ HA2.out HB2.out (by omega) (by omega)).mono ?_
        rintro e w3 ⟨rfl, b3⟩
        have B3 := Lib.hid (below_seq B2.out b3 B2.out.size)
        have HA3 := Lib.hid (HA2.out.below b3)
        have HB3 := Lib.hid (HB2.out.below b3)
        have HV3 := Lib.hid (HV2.out.below b3)
        clear b3
        go_wp2_with fail
        refine (common_any a b _ _ _ HA3.out HB3.out hlong).mono ?_
        rintro e w4 ⟨vx, l1, rfl, hc4, hbest1, b4⟩
        have B4 := Lib.hid (below_seq B3.out b4 B3.out.size)
        have HA4 := Lib.hid (HA3.out.below b4)
        have HB4 := Lib.hid (HB3.out.below b4)
        have HV4 := Lib.hid (HV3.out.below b4)
        have X4 := Lib.hid hc4
        have BE1 := Lib.hid hbest1
        have hl1 := hbest1.1.length_le
        clear hc4 hbest1
        clear b4
        go_wp2_with fail
        refine (refCommon_any a b _ _ _ HA4.out HB4.out (by omega) (by omega)).mono ?_
        rintro e w5 ⟨vy, l2, rfl, hc5, hbest2, b5⟩
        have B5 := Lib.hid (below_seq B4.out b5 B4.out.size)
        have HA5 := Lib.hid (HA4.out.below b5)
        have HB5 := Lib.hid (HB4.out.below b5)
        have HV5 := Lib.hid (HV4.out.below b5)
        obtain rfl : l2 = l1 := best_unique ltB ltB_total hbest2 BE1.out
        have X5 := Lib.hid (X4.out.below b5)
        have Y5 := Lib.hid hc5
        clear hc5 hbest2
        clear b5
        go_wp2_with fail
        refine (apply_at s es _ ER.out _ _ HV5.out hl6 ht hs).mono ?_
        rintro e w6 ⟨rfl, b6⟩
        have B6 := Lib.hid (below_seq B5.out b6 B5.out.size)
        have HV6 := Lib.hid (HV5.out.below b6)
        have X6 := Lib.hid (X5.out.below b6)
        have Y6 := Lib.hid (Y5.out.below b6)
        clear b6
        go_wp2_with fail
        refine (refApply_at s es _ ER.out _ _ HV6.out hl6 ht hs).mono ?_
        rintro e w7 ⟨rfl, b7⟩
        have B7 := Lib.hid (below_seq B6.out b7 B6.out.size)
        have X7 := Lib.hid (X6.out.below b7)
        have Y7 := Lib.hid (Y6.out.below b7)
        clear b7
        go_wp2_with fail
        refine (refSame_any l2 l2 _ _ _ X7.out Y7.out (by omega) (by omega)).mono ?_
        rw [decide_eq_true (rfl : l2 = l2)]
        rintro e w8 ⟨rfl, b8⟩
        have B8 := Lib.hid (below_seq B7.out b8 B7.out.size)
        clear b8
        go_wp2_with fail
        refine (awake_any _).mono ?_
        rintro e w9 ⟨rfl, b9⟩
        have B9 := Lib.hid (below_seq B8.out b9 B8.out.size)
        clear b9
        go_wp2
        go_ret
        exact ⟨rfl, B9.out⟩
end Go.Proofs.Ytbdeakodmhcgdaa
