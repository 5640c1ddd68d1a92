/- The walk of EditdistanceStrings. -/
import Derived.Test.YtbdeakodmhcgdaaEdRefScr
import Derived.Test.YtbdeakodmhcgdaaEdAwake
import Derived.Test.YtbdeakodmhcgdaaEdSame
namespace Go.Proofs.Ytbdeakodmhcgdaa
set_option linter.unusedSimpArgs false
set_option linter.unusedVariables false
set_option maxRecDepth 100000
open Go.RowKit Go.Deep

theorem refScript_at (a b : ByteArray) (L : List EdV) (k : Int) (h : scrR a b = (L, k)) (ha : a.size ≤ 1000000) (hb : b.size ≤ 1000000) (w : World) :
    Calls Try.prog 17 #[.string a, .string b] w (ScrPost L k w) := by
  by_cases hlong : 256 < a.size ∨ 256 < b.size
  · rw [scrR, if_pos hlong, Prod.mk.injEq] at h
    obtain ⟨rfl, rfl⟩ := h
    exact refScript_long a b ha hb hlong w
  · rw [scrR, if_neg hlong, Prod.mk.injEq, ← SR_full] at h
    obtain ⟨rfl, rfl⟩ := h
    exact refScript_any a b (by omega) (by omega) w
theorem greatB_small {n : Nat} (h : greatB n 12 = false) : n ≤ 258 := by
  simp only [greatB, Bool.or_eq_false_iff, decide_eq_false_iff_not] at h
  omega
theorem scrR_short (a b : ByteArray) : (scrR a b).1.length ≤ 1000000 := by
  by_cases hlong : 256 < a.size ∨ 256 < b.size
  · rw [scrR, if_pos hlong]; decide
  · rw [scrR, if_neg hlong, ← SR_full]
    rw [List.length_reverse]
    exact SR_short a b _ _ (by omega) (by omega) (Nat.le_refl _) (Nat.le_refl _)

set_option maxHeartbeats 4000000 in
theorem strings_skip (w : World) (a b : ByteArray) (n : Int) (ha : a.size ≤ maxLen) (hb : b.size ≤ maxLen) (h : greatB a.size 12 = true ∨ greatB b.size 12 = true) :
    Calls Try.prog 3 #[.string a, .string b, .int .i64 n] w fun e w' => e = .returned (.bool true) ∧ Below w.heap.size w w' := by
  have G1 := Lib.hid (refGreat_any a 12 ha w)
  have G2 := Lib.hid (refGreat_any b 12 hb w)
  clear ha hb
  by_cases h1 : greatB a.size 12 = true
  · rw [h1] at G1
    clear h h1 G2
    go_enter Try.func3, Try.ntmps3
    go_wp2_with fail
    refine G1.out.mono ?_
    rintro e w1 ⟨rfl, rfl⟩
    go_wp2_with fail
    refine (awake_any _).mono ?_
    rintro e w2 ⟨rfl, b2⟩
    have B2 := Lib.hid b2
    clear b2
    go_wp2
    go_ret
    exact ⟨rfl, B2.out⟩
  · have h2 : greatB b.size 12 = true := by
      rcases h with h | h
      · exact absurd h h1
      · exact h
    have h1 : greatB a.size 12 = false := by simpa using h1
    rw [h1] at G1
    rw [h2] at G2
    clear h h1 h2
    go_enter Try.func3, Try.ntmps3
    go_wp2_with fail
    refine G1.out.mono ?_
    rintro e w1 ⟨rfl, rfl⟩
    go_wp2_with fail
    refine G2.out.mono ?_
    rintro e w1 ⟨rfl, rfl⟩
    go_wp2_with fail
    refine (awake_any _).mono ?_
    rintro e w2 ⟨rfl, b2⟩
    have B2 := Lib.hid b2
    clear b2
    go_wp2
    go_ret
    exact ⟨rfl, B2.out⟩

set_option maxHeartbeats 8000000 in
theorem strings_walk (w : World) (a b : ByteArray) (n : Int) (ha : a.size ≤ maxLen) (hb : b.size ≤ maxLen) (hn : (Lit.int .i64 n).wf = true) :
    Calls Try.prog 3 #[.string a, .string b, .int .i64 n] w fun e w' => e = .returned (.bool true) ∧ Below w.heap.size w w' := by
  by_cases hg : greatB a.size 12 = true ∨ greatB b.size 12 = true
  · exact strings_skip w a b n ha hb hg
  · have h1 : greatB a.size 12 = false := by rw [Bool.eq_false_iff]; exact fun h => hg (.inl h)
    have h2 : greatB b.size 12 = false := by rw [Bool.eq_false_iff]; exact fun h => hg (.inr h)
    have G1 := Lib.hid (refGreat_any a 12 ha w)
    have G2 := Lib.hid (refGreat_any b 12 hb w)
    rw [h1] at G1
    rw [h2] at G2
    have ha2 : a.size ≤ 1000000 := by have := greatB_small h1; omega
    have hb2 : b.size ≤ 1000000 := by have := greatB_small h2; omega
    have hsl := scrR_short a b
    obtain ⟨⟨d, e0⟩, hp⟩ : ∃ p, distR a b = p := ⟨_, rfl⟩
    obtain ⟨⟨L, g0⟩, hq⟩ : ∃ p, scrR a b = p := ⟨_, rfl⟩
    obtain ⟨⟨x, is, i0⟩, hr⟩ : ∃ p, boundR a b n = p := ⟨_, rfl⟩
    obtain ⟨⟨s, k0⟩, ht⟩ : ∃ p, simR a b = p := ⟨_, rfl⟩
    have C1 := Lib.hid (dist_at a b _ hp ha2 hb2)
    have C2 := Lib.hid (refDistance_at a b _ hp ha2 hb2)
    have C3 := Lib.hid (script_at a b _ _ hq ha2 hb2)
    have C4 := Lib.hid (refScript_at a b _ _ hq ha2 hb2)
    have C5 := Lib.hid (bounded_at a b n _ hr ha2 hb2)
    have C6 := Lib.hid (refBounded_at a b n _ hr ha2 hb2)
    have C7 := Lib.hid (similarity_at a b _ ht ha2 hb2)
    have C8 := Lib.hid (refSimilarity_at a b _ ht ha2 hb2)
    rw [hq] at hsl
    have hsl : L.length ≤ 1000000 := hsl
    clear hg h1 h2 ha hb ha2 hb2 hp hq hr ht hn
    go_enter Try.func3, Try.ntmps3
    go_wp2_with fail
    refine G1.out.mono ?_
    rintro e w1 ⟨rfl, rfl⟩
    go_wp2_with fail
    refine G2.out.mono ?_
    rintro e w1 ⟨rfl, rfl⟩
    go_wp2_with fail
    refine (C1.out _).mono ?_
    rintro e w1 ⟨rfl, b1⟩
    have B1 := Lib.hid b1
    clear b1
    go_wp2_with fail
    refine (C2.out _).mono ?_
    rintro e w2 ⟨rfl, b2⟩
    have B2 := Lib.hid (below_seq B1.out b2 B1.out.size)
    clear b2
    go_wp2_with fail
    refine (C3.out _).mono ?_
    rintro e w3 ⟨v3, rfl, o3, b3⟩
    have B3 := Lib.hid (below_seq B2.out b3 B2.out.size)
    have O3 := Lib.hid o3
    clear b3 o3
    go_wp2_with fail
    refine (C4.out _).mono ?_
    rintro e w4 ⟨v4, rfl, o4, b4⟩
    have B4 := Lib.hid (below_seq B3.out b4 B3.out.size)
    have O4 := Lib.hid o4
    have O34 := Lib.hid (O3.out.below b4)
    clear b4 o4
    go_wp2_with fail
    refine (C5.out _).mono ?_
    rintro e w5 ⟨rfl, b5⟩
    have B5 := Lib.hid (below_seq B4.out b5 B4.out.size)
    have O5 := Lib.hid (And.intro (O34.out.below b5) (O4.out.below b5))
    clear b5
    go_wp2_with fail
    refine (C6.out _).mono ?_
    rintro e w6 ⟨rfl, b6⟩
    have B6 := Lib.hid (below_seq B5.out b6 B5.out.size)
    have O6 := Lib.hid (And.intro (O5.out.1.below b6) (O5.out.2.below b6))
    clear b6
    go_wp2_with fail
    refine (C7.out _).mono ?_
    rintro e w7 ⟨rfl, b7⟩
    have B7 := Lib.hid (below_seq B6.out b7 B6.out.size)
    have O7 := Lib.hid (And.intro (O6.out.1.below b7) (O6.out.2.below b7))
    clear b7
    go_wp2_with fail
    refine (C8.out _).mono ?_
    rintro e w8 ⟨rfl, b8⟩
    have B8 := Lib.hid (below_seq B7.out b8 B7.out.size)
    have O8 := Lib.hid (And.intro (O7.out.1.below b8) (O7.out.2.below b8))
    clear b8
    go_wp2_with fail
    refine (refSameEdits_any L L _ _ _ O8.out.1 O8.out.2 hsl hsl).mono ?_
    rw [decide_eq_true (rfl : L = L)]
    rintro e w9 ⟨rfl, b9⟩
    have B9 := Lib.hid (below_seq B8.out b9 B8.out.size)
    clear b9
    go_wp2_with fail
    refine (awake_any _).mono ?_
    rintro e w10 ⟨rfl, b10⟩
    have B10 := Lib.hid (below_seq B9.out b10 B9.out.size)
    clear b10
    go_wp2
    go_ret
    exact ⟨rfl, B10.out⟩
end Go.Proofs.Ytbdeakodmhcgdaa
