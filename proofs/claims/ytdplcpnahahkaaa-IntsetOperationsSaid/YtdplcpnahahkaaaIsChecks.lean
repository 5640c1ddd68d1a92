/- IntsetChecks. -/
import Derived.Test.YtdplcpnahahkaaaIsSubsets
import Derived.Test.YtdplcpnahahkaaaIsRefPart
import Derived.Test.YtdplcpnahahkaaaIsComp
namespace Go.Proofs.Ytdplcpnahahkaaa
set_option linter.unusedSimpArgs false
set_option linter.unusedVariables false
set_option maxRecDepth 100000
open Go.RowKit Go.Deep

theorem ofR_le (l : List Int) : (ofR l).1.length ≤ 1000000 := by
  rw [ofR]; split
  · simp
  · exact sel_le _
theorem compR_le (n : Int) (l : List Int) : (compR n l).1.length ≤ 1000000 := by
  rw [compR]
  split
  · simp
  · split
    · simp
    · split
      · simp
      · exact Nat.le_trans (sel_len _ _) (by omega)
theorem opR_le (f : Bool → Bool → Bool) (a b : List Int) : (opR f a b).1.length ≤ 1000000 := by
  rw [opR]; split
  · simp
  · exact sel_le _
theorem check_at (xs : List Int) (q : Int) (hq : errL xs = q) (v : Value) (w : World) (hv : IntsAt w v xs) (hl : xs.length ≤ 1000000) :
    Calls Try.prog 20 #[v] w fun e w' => e = .returned (intV q) ∧ Below w.heap.size w w' :=
  (check_any xs v w hv hl).mono fun e w' ⟨h, h'⟩ => ⟨by rw [h, hq], by rw [← h']; exact Below.refl _ _⟩
theorem refCheck_at (xs : List Int) (q : Int) (hq : errL xs = q) (v : Value) (w : World) (hv : IntsAt w v xs) (hl : xs.length ≤ 1000000) :
    Calls Try.prog 21 #[v] w fun e w' => e = .returned (intV q) ∧ Below w.heap.size w w' :=
  (refCheck_any xs v w hv hl).mono fun e w' ⟨h, m, h'⟩ => ⟨by rw [h, hq], by rw [h']; exact below_drewN _ _⟩
theorem part_at (n : Int) (L : List (List Int)) (q : Bool) (k : Int) (hr : partR n L = (q, k)) (v : Value) (w : World) (hv : ListsAt w v L) (hl : L.length ≤ 1000000) (hs : ∀ l ∈ L, l.length ≤ 1000000) :
    Calls Try.prog 18 #[intV n, v] w fun e w' => e = .returned (.tuple #[.bool q, intV k]) ∧ Below w.heap.size w w' :=
  (part_any n L _ hr v w hv hl hs).mono fun e w' ⟨h, h'⟩ => ⟨h, by rw [← h']; exact Below.refl _ _⟩
theorem great_off {L : List (List Int)} (h : greatL L = false) : L.length ≤ 20 ∧ ∀ l ∈ L, l.length ≤ 12 := by
  simp only [greatL, decide_eq_false_iff_not, not_or, not_exists, not_and] at h
  exact ⟨by omega, fun l hl => by have := (h.2 l hl).1; omega⟩

set_option maxHeartbeats 8000000 in
theorem checks_law (w : World) (a0 : Int) (u1 : Value) (x1 : List Int) (u2 : Value) (x2 : List (List Int)) (w0 : (Lit.int .i64 a0).wf = true) (w1 : IntsAt w u1 x1) (b1 : x1.length ≤ maxLen) (w2 : ListsAt w u2 x2) (b2 : x2.length ≤ maxLen) :
    Calls Try.prog 3 #[.int .i64 a0, u1, u2] w fun e w' => e = .returned (.bool true) ∧ Below w.heap.size w w' := by
  obtain ⟨gr, hgr⟩ : ∃ g, greatL x2 = g := ⟨_, rfl⟩
  have HG2 := Lib.hid (greatLists_any x2 gr hgr u2 w w2)
  by_cases h12 : 12 < x1.length
  · have HG1 := Lib.hid (great_any x1 true (by simpa using h12) u1 w w1)
    obtain ⟨a1, c1, rfl, _⟩ := w1
    obtain ⟨a2, c2, rfl, _⟩ := w2
    clear h12
    go_enter Try.func3, Try.ntmps3
    go_wp2_with fail
    refine HG1.out.mono ?_
    rintro e v1 ⟨rfl, rfl⟩
    go_wp2_with fail
    refine (awake_any _).mono ?_
    rintro e v2 ⟨rfl, g2⟩
    have G2 := Lib.hid g2
    clear g2
    go_wp2
    go_ret
    exact ⟨rfl, G2.out⟩
  · have HG1 := Lib.hid (great_any x1 false (by simpa using h12) u1 w w1)
    have HA := Lib.hid w1
    have HL := Lib.hid w2
    obtain ⟨a1, c1, rfl, _⟩ := w1
    obtain ⟨a2, c2, rfl, _⟩ := w2
    have l1 : x1.length ≤ 1000000 := by omega
    clear h12
    go_enter Try.func3, Try.ntmps3
    go_wp2_with fail
    refine HG1.out.mono ?_
    rintro e v1 ⟨rfl, rfl⟩
    go_wp2_with fail
    refine HG2.out.mono ?_
    rintro e v1 ⟨rfl, rfl⟩
    clear HG1 HG2
    cases gr
    rotate_left
    · go_wp2_with fail
      refine (awake_any _).mono ?_
      rintro e v2 ⟨rfl, g2⟩
      have G2 := Lib.hid g2
      clear g2
      go_wp2
      go_ret
      exact ⟨rfl, G2.out⟩
    · obtain ⟨n20, n12⟩ := great_off hgr
      have N12 := Lib.hid (And.intro n20 (fun l (h : l ∈ x2) => Nat.le_trans (n12 l h) (by decide : 12 ≤ 1000000)))
      have lB := ofR_le x1
      have lX := compR_le a0 x1
      obtain ⟨B, hB⟩ : ∃ r, ofR x1 = r := ⟨_, rfl⟩
      obtain ⟨X, hX⟩ : ∃ r, compR a0 x1 = r := ⟨_, rfl⟩
      obtain ⟨P, hP⟩ : ∃ r, partR a0 x2 = r := ⟨_, rfl⟩
      obtain ⟨Q, hQ⟩ : ∃ q, errL x1 = q := ⟨_, rfl⟩
      rw [hB] at lB
      rw [hX] at lX
      obtain ⟨B, eB⟩ := B
      obtain ⟨X, eX⟩ := X
      obtain ⟨P, eP⟩ := P
      have M := Lib.hid (And.intro hB (And.intro hX (And.intro hP (And.intro hQ (And.intro l1 (And.intro lB lX))))))
      clear hB hX hP hQ lB lX n20 n12 hgr l1
      go_wp2_with fail
      refine (of_any x1 _ M.out.1 _ _ HA.out M.out.2.2.2.2.1).mono ?_
      rintro e v1 ⟨z1, rfl, p1, g1⟩
      have G1 := Lib.hid (g1)
      have L1A := Lib.hid (HA.out.below g1)
      have L1L := Lib.hid (HL.out.below g1)
      have L1B := Lib.hid p1
      obtain ⟨q1, t1, rfl, _⟩ := p1
      clear g1 HA HL
      go_wp2_with fail
      refine (refOf_any x1 _ M.out.1 _ _ L1A.out M.out.2.2.2.2.1).mono ?_
      rintro e v2 ⟨z2, rfl, p2, g2⟩
      have G2 := Lib.hid (below_then G1.out g2)
      have L2A := Lib.hid (L1A.out.below g2)
      have L2L := Lib.hid (L1L.out.below g2)
      have L2B := Lib.hid (L1B.out.below g2)
      have L2C := Lib.hid p2
      obtain ⟨q2, t2, rfl, _⟩ := p2
      clear g2 L1A L1L L1B
      go_wp2_with fail
      refine (comp_any a0 x1 _ M.out.2.1 _ _ L2A.out M.out.2.2.2.2.1).mono ?_
      rintro e v3 ⟨z3, rfl, p3, g3⟩
      have G3 := Lib.hid (below_then G2.out g3)
      have L3A := Lib.hid (L2A.out.below g3)
      have L3L := Lib.hid (L2L.out.below g3)
      have L3B := Lib.hid (L2B.out.below g3)
      have L3C := Lib.hid (L2C.out.below g3)
      have L3X := Lib.hid p3
      obtain ⟨q3, t3, rfl, _⟩ := p3
      clear g3 L2A L2L L2B L2C
      go_wp2_with fail
      refine (refComp_any a0 x1 _ M.out.2.1 _ _ L3A.out M.out.2.2.2.2.1).mono ?_
      rintro e v4 ⟨z4, rfl, p4, g4⟩
      have G4 := Lib.hid (below_then G3.out g4)
      have L4A := Lib.hid (L3A.out.below g4)
      have L4L := Lib.hid (L3L.out.below g4)
      have L4B := Lib.hid (L3B.out.below g4)
      have L4C := Lib.hid (L3C.out.below g4)
      have L4X := Lib.hid (L3X.out.below g4)
      have L4Y := Lib.hid p4
      obtain ⟨q4, t4, rfl, _⟩ := p4
      clear g4 L3A L3L L3B L3C L3X
      go_wp2_with fail
      refine (part_at a0 x2 _ _ M.out.2.2.1 _ _ L4L.out (by have := N12.out.1; omega) N12.out.2).mono ?_
      rintro e v5 ⟨rfl, g5⟩
      have G5 := Lib.hid (below_then G4.out g5)
      have L5A := Lib.hid (L4A.out.below g5)
      have L5L := Lib.hid (L4L.out.below g5)
      have L5B := Lib.hid (L4B.out.below g5)
      have L5C := Lib.hid (L4C.out.below g5)
      have L5X := Lib.hid (L4X.out.below g5)
      have L5Y := Lib.hid (L4Y.out.below g5)
      clear g5 L4A L4L L4B L4C L4X L4Y
      go_wp2_with fail
      refine (refPart_any a0 x2 _ M.out.2.2.1 _ _ L5L.out (by have := N12.out.1; omega) N12.out.2).mono ?_
      rintro e v6 ⟨rfl, g6⟩
      have G6 := Lib.hid (below_then G5.out g6)
      have L6A := Lib.hid (L5A.out.below g6)
      have L6L := Lib.hid (L5L.out.below g6)
      have L6B := Lib.hid (L5B.out.below g6)
      have L6C := Lib.hid (L5C.out.below g6)
      have L6X := Lib.hid (L5X.out.below g6)
      have L6Y := Lib.hid (L5Y.out.below g6)
      clear g6 L5A L5L L5B L5C L5X L5Y
      clear L6L
      go_wp2_with fail
      refine (check_at x1 _ M.out.2.2.2.1 _ _ L6A.out M.out.2.2.2.2.1).mono ?_
      rintro e v7 ⟨rfl, g7⟩
      have G7 := Lib.hid (below_then G6.out g7)
      have L7A := Lib.hid (L6A.out.below g7)
      have L7B := Lib.hid (L6B.out.below g7)
      have L7C := Lib.hid (L6C.out.below g7)
      have L7X := Lib.hid (L6X.out.below g7)
      have L7Y := Lib.hid (L6Y.out.below g7)
      clear g7 L6A L6B L6C L6X L6Y
      go_wp2_with fail
      refine (refCheck_at x1 _ M.out.2.2.2.1 _ _ L7A.out M.out.2.2.2.2.1).mono ?_
      rintro e v8 ⟨rfl, g8⟩
      have G8 := Lib.hid (below_then G7.out g8)
      have L8A := Lib.hid (L7A.out.below g8)
      have L8B := Lib.hid (L7B.out.below g8)
      have L8C := Lib.hid (L7C.out.below g8)
      have L8X := Lib.hid (L7X.out.below g8)
      have L8Y := Lib.hid (L7Y.out.below g8)
      clear g8 L7A L7B L7C L7X L7Y
      go_wp2_with fail
      refine (equal_at B B true (by simp) _ _ _ L8B.out L8C.out M.out.2.2.2.2.2.1 M.out.2.2.2.2.2.1).mono ?_
      rintro e v9 ⟨rfl, g9⟩
      have G9 := Lib.hid (below_then G8.out g9)
      have L9A := Lib.hid (L8A.out.below g9)
      have L9B := Lib.hid (L8B.out.below g9)
      have L9C := Lib.hid (L8C.out.below g9)
      have L9X := Lib.hid (L8X.out.below g9)
      have L9Y := Lib.hid (L8Y.out.below g9)
      clear g9 L8A L8B L8C L8X L8Y
      go_wp2_with fail
      refine (equal_at X X true (by simp) _ _ _ L9X.out L9Y.out M.out.2.2.2.2.2.2 M.out.2.2.2.2.2.2).mono ?_
      rintro e v10 ⟨rfl, g10⟩
      have G10 := Lib.hid (below_then G9.out g10)
      have L10A := Lib.hid (L9A.out.below g10)
      have L10B := Lib.hid (L9B.out.below g10)
      have L10C := Lib.hid (L9C.out.below g10)
      have L10X := Lib.hid (L9X.out.below g10)
      have L10Y := Lib.hid (L9Y.out.below g10)
      clear g10 L9A L9B L9C L9X L9Y
      clear L10A L10B L10C L10X L10Y M N12
      go_wp2_with fail
      refine (awake_any _).mono ?_
      rintro e v11 ⟨rfl, g11⟩
      have G11 := Lib.hid (below_then G10.out g11)
      clear g11
      go_wp2
      go_ret
      exact ⟨rfl, G11.out⟩
end Go.Proofs.Ytdplcpnahahkaaa
