/- The walk of FixedpointTexts. -/
import Derived.Test.YtkiaiiepfphllaaDoorFpScales
import Derived.Test.YtkiaiiepfphllaaDoorFpRefParseP
import Derived.Test.YtkiaiiepfphllaaDoorFpRefParseN
namespace Go.Proofs.YtkiaiiepfphllaaDoor
set_option linter.unusedSimpArgs false
set_option linter.unusedVariables false
set_option maxRecDepth 100000
open Go.RowKit

theorem refParse_any (s : ByteArray) (hs : s.size ≤ maxLen) (h : s.size ≤ 40 ∨ 65536 < s.size) (w : World) :
    Calls Tryd.prog 12 #[.string s] w fun e w' => e = .returned (pairV (parseR s.data.toList)) ∧ w = w' := by
  rcases h with h | h
  · by_cases h3 : s.size < 3
    · exact refParse_short s h3 w
    · obtain ⟨k, hk⟩ : ∃ k, s.size = k + 2 := ⟨s.size - 2, by omega⟩
      by_cases hu : (s.extract k s.size).data.toList = [112, 116]
      · by_cases hn : isNeg (s.extract 0 k).data.toList = true
        · exact refParse_neg s k hk (by omega) h hu hn w
        · exact refParse_pos s k hk (by omega) h hu (by simpa using hn) w
      · exact refParse_unit s k hk (by omega) h hu w
  · exact refParse_big s h hs w

set_option maxHeartbeats 2000000 in
theorem texts_walk (n : Int) (hn : -9223372036854775808 ≤ n ∧ n ≤ 9223372036854775807) (s : ByteArray) (hs : s.size ≤ maxLen) (w : World) (hT : Tab w) :
    Calls Tryd.prog 3 #[.int .i64 n, .string s] w fun e w' => e = .returned (.bool true) ∧ Below w.heap.size w w' := by
  obtain ⟨l0, u0⟩ := hn
  have HT := Lib.hid hT
  clear hT
  rcases (show (40 < s.size ∧ s.size ≤ 65536) ∨ 65540 < s.size ∨ s.size ≤ 40 ∨ (65536 < s.size ∧ s.size ≤ 65540) by omega) with ⟨k1, k2⟩ | k1 | k1 | ⟨k1, k2⟩
  · unfold maxLen at hs
    go_enter Tryd.func3, Tryd.ntmps3
    go_wp2_with fail
    refine (awake_any _ HT.out).mono ?_
    rintro e w9 ⟨rfl, q9⟩
    have B9 := Lib.hid q9
    clear q9
    go_wp2
    go_ret
    exact ⟨rfl, B9.out⟩
  · unfold maxLen at hs
    go_enter Tryd.func3, Tryd.ntmps3
    go_wp2_with fail
    refine (awake_any _ HT.out).mono ?_
    rintro e w9 ⟨rfl, q9⟩
    have B9 := Lib.hid q9
    clear q9
    go_wp2
    go_ret
    exact ⟨rfl, B9.out⟩
  all_goals
    obtain ⟨p, hp⟩ : ∃ p, parseR s.data.toList = p := ⟨_, rfl⟩
    have C1 := Lib.hid (parse_at s p hp hs)
    have C2 := Lib.hid (refParse_any s hs (by omega))
    rw [hp] at C2
    clear hp
    obtain ⟨p1, p2⟩ := p
    obtain ⟨st, hst⟩ : ∃ st, baL (printR n).1 = st := ⟨_, rfl⟩
    obtain ⟨pe, hpe⟩ : ∃ pe, (printR n).2 = pe := ⟨_, rfl⟩
    have C3 := Lib.hid (print_any n)
    have C4 := Lib.hid (refPrint_any n)
    rw [strV, hst, hpe] at C3 C4
    clear hst hpe
    obtain ⟨c, hc⟩ : ∃ c, chkN n = c := ⟨_, rfl⟩
    have C5 := Lib.hid (chk_at n c hc)
    have C6 := Lib.hid (refChk_at n c hc)
    clear hc
    unfold maxLen at hs
    go_enter Tryd.func3, Tryd.ntmps3
    go_wp2_with fail
    refine (C1.out _).mono ?_
    rintro e w1 ⟨rfl, q1⟩
    have B1 := Lib.hid q1
    clear q1
    go_wp2_with fail
    refine (C2.out _).mono ?_
    rintro e w2 ⟨rfl, rfl⟩
    go_wp2_with fail
    refine (C3.out _ (HT.out.below B1.out)).mono ?_
    rintro e w3 ⟨rfl, q3⟩
    have B3 := Lib.hid (below_seq B1.out q3 (Nat.le_refl _))
    clear q3
    go_wp2_with fail
    refine (C4.out _ (HT.out.below B3.out)).mono ?_
    rintro e w4 ⟨rfl, q4⟩
    have B4 := Lib.hid (below_seq B3.out q4 (Nat.le_refl _))
    clear q4
    go_wp2_with fail
    refine (C5.out _).mono ?_
    rintro e w5 ⟨rfl, rfl⟩
    go_wp2_with fail
    refine (C6.out _).mono ?_
    rintro e w6 ⟨rfl, rfl⟩
    go_wp2_with fail
    refine (awake_any _ (HT.out.below B4.out)).mono ?_
    rintro e w9 ⟨rfl, q9⟩
    have B9 := Lib.hid (below_seq B4.out q9 (Nat.le_refl _))
    clear q9
    go_wp2
    go_ret
    exact ⟨rfl, B9.out⟩
theorem texts_law (a0 : Int) (s1 : ByteArray) (w0 : (Lit.int .i64 a0).wf = true) (w1 : s1.size ≤ maxLen) (w : World) (hT : Tab w) :
    Calls Tryd.prog 3 #[.int .i64 a0, .string s1] w fun e w' => e = .returned (.bool true) ∧ Below w.heap.size w w' :=
  texts_walk a0 (wf_i64 w0) s1 w1 w hT
end Go.Proofs.YtkiaiiepfphllaaDoor
