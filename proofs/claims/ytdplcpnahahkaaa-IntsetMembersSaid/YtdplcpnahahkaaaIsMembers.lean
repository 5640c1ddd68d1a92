/- IntsetMembers. -/
import Derived.Test.YtdplcpnahahkaaaIsSubsets
namespace Go.Proofs.Ytdplcpnahahkaaa
set_option linter.unusedSimpArgs false
set_option linter.unusedVariables false
set_option maxRecDepth 100000
open Go.RowKit Go.Deep

theorem check_good (xs : List Int) (he : errL xs = 0) (v : Value) (w : World) (hv : IntsAt w v xs) (hl : xs.length ≤ 1000000) :
    Calls Try.prog 20 #[v] w fun e w' => e = .returned (intV 0) ∧ Below w.heap.size w w' :=
  (check_any xs v w hv hl).mono fun e w' ⟨h, h'⟩ => ⟨by rw [h, he], by rw [← h']; exact Below.refl _ _⟩
set_option maxHeartbeats 4000000 in
theorem members_law (w : World) (u0 : Value) (x0 : List Int) (u1 : Value) (x1 : List Int) (w0 : IntsAt w u0 x0) (b0 : x0.length ≤ maxLen) (w1 : IntsAt w u1 x1) (b1 : x1.length ≤ maxLen) :
    Calls Try.prog 5 #[u0, u1] w fun e w' => e = .returned (.bool true) ∧ Below w.heap.size w w' := by
  by_cases hok : okL x0 ∧ okL x1
  · have HF := Lib.hid (fine_two w w0 w1 true (by simpa using hok))
    have HA := Lib.hid w0
    have HB := Lib.hid w1
    obtain ⟨o0, o1⟩ := hok
    have l0 : x0.length ≤ 1000000 := Nat.le_trans o0.1 (by decide)
    have l1 : x1.length ≤ 1000000 := Nat.le_trans o1.1 (by decide)
    have lU := sel_le fun i => orB (has x0 i) (has x1 i)
    have hU := op_ok (f := orB) o0 o1
    have eU : errL (sel 64 fun i => orB (has x0 i) (has x1 i)) = 0 := err_sel (Nat.le_refl _) _
    have mU : ∀ i, i < 64 → has (sel 64 fun i => orB (has x0 i) (has x1 i)) i = orB (has x0 i) (has x1 i) := fun i hi => by rw [has_sel, decide_eq_true hi, Bool.true_and]
    obtain ⟨U, hU'⟩ : ∃ U, (sel 64 fun i => orB (has x0 i) (has x1 i)) = U := ⟨_, rfl⟩
    rw [hU'] at hU lU eU
    rw [show (sel 64 fun i => orB (has x0 i) (has x1 i)) = U from hU'] at mU
    have HU := Lib.hid (And.intro hU (And.intro lU eU))
    have MU := Lib.hid mU
    clear hU lU eU mU hU'
    have lI := sel_le fun i => andB (has x0 i) (has x1 i)
    have hI := op_ok (f := andB) o0 o1
    have eI : errL (sel 64 fun i => andB (has x0 i) (has x1 i)) = 0 := err_sel (Nat.le_refl _) _
    have mI : ∀ i, i < 64 → has (sel 64 fun i => andB (has x0 i) (has x1 i)) i = andB (has x0 i) (has x1 i) := fun i hi => by rw [has_sel, decide_eq_true hi, Bool.true_and]
    obtain ⟨I, hI'⟩ : ∃ I, (sel 64 fun i => andB (has x0 i) (has x1 i)) = I := ⟨_, rfl⟩
    rw [hI'] at hI lI eI
    rw [show (sel 64 fun i => andB (has x0 i) (has x1 i)) = I from hI'] at mI
    have HI := Lib.hid (And.intro hI (And.intro lI eI))
    have MI := Lib.hid mI
    clear hI lI eI mI hI'
    have lD := sel_le fun i => minB (has x0 i) (has x1 i)
    have hD := op_ok (f := minB) o0 o1
    have eD : errL (sel 64 fun i => minB (has x0 i) (has x1 i)) = 0 := err_sel (Nat.le_refl _) _
    have mD : ∀ i, i < 64 → has (sel 64 fun i => minB (has x0 i) (has x1 i)) i = minB (has x0 i) (has x1 i) := fun i hi => by rw [has_sel, decide_eq_true hi, Bool.true_and]
    obtain ⟨D, hD'⟩ : ∃ D, (sel 64 fun i => minB (has x0 i) (has x1 i)) = D := ⟨_, rfl⟩
    rw [hD'] at hD lD eD
    rw [show (sel 64 fun i => minB (has x0 i) (has x1 i)) = D from hD'] at mD
    have HD := Lib.hid (And.intro hD (And.intro lD eD))
    have MD := Lib.hid mD
    clear hD lD eD mD hD'
    have M := Lib.hid (And.intro l0 l1)
    obtain ⟨a0, c0, rfl, _⟩ := id w0
    obtain ⟨a1, c1, rfl, _⟩ := id w1
    have hmax := max3_zero
    clear o0 o1 w0 w1 l0 l1
    go_enter Try.func5, Try.ntmps5
    go_wp2_with fail
    refine (HF.out).mono ?_
    rintro e v1 ⟨rfl, g1⟩
    have G1 := Lib.hid (g1)
    have L1A := Lib.hid (HA.out.below g1)
    have L1B := Lib.hid (HB.out.below g1)
    clear g1 HA HB
    clear HF
    go_wp2_with fail
    refine (union_any _ _ _ HU.out.1 _ _ _ L1A.out L1B.out M.out.1 M.out.2).mono ?_
    rintro e v2 ⟨z2, rfl, p2, g2⟩
    have G2 := Lib.hid (below_then G1.out g2)
    have L2A := Lib.hid (L1A.out.below g2)
    have L2B := Lib.hid (L1B.out.below g2)
    have L2U := Lib.hid p2
    obtain ⟨q2, t2, rfl, _⟩ := p2
    clear g2 L1A L1B
    go_wp2_with fail
    refine (intersect_any _ _ _ HI.out.1 _ _ _ L2A.out L2B.out M.out.1 M.out.2).mono ?_
    rintro e v3 ⟨z3, rfl, p3, g3⟩
    have G3 := Lib.hid (below_then G2.out g3)
    have L3A := Lib.hid (L2A.out.below g3)
    have L3B := Lib.hid (L2B.out.below g3)
    have L3U := Lib.hid (L2U.out.below g3)
    have L3I := Lib.hid p3
    obtain ⟨q3, t3, rfl, _⟩ := p3
    clear g3 L2A L2B L2U
    go_wp2_with fail
    refine (minus_any _ _ _ HD.out.1 _ _ _ L3A.out L3B.out M.out.1 M.out.2).mono ?_
    rintro e v4 ⟨z4, rfl, p4, g4⟩
    have G4 := Lib.hid (below_then G3.out g4)
    have L4A := Lib.hid (L3A.out.below g4)
    have L4B := Lib.hid (L3B.out.below g4)
    have L4U := Lib.hid (L3U.out.below g4)
    have L4I := Lib.hid (L3I.out.below g4)
    have L4D := Lib.hid p4
    obtain ⟨q4, t4, rfl, _⟩ := p4
    clear g4 L3A L3B L3U L3I
    go_wp2_with fail
    refine (check_good _ HU.out.2.2 _ _ L4U.out HU.out.2.1).mono ?_
    rintro e v5 ⟨rfl, g5⟩
    have G5 := Lib.hid (below_then G4.out g5)
    have L5A := Lib.hid (L4A.out.below g5)
    have L5B := Lib.hid (L4B.out.below g5)
    have L5U := Lib.hid (L4U.out.below g5)
    have L5I := Lib.hid (L4I.out.below g5)
    have L5D := Lib.hid (L4D.out.below g5)
    clear g5 L4A L4B L4U L4I L4D
    go_wp2_with fail
    refine (check_good _ HI.out.2.2 _ _ L5I.out HI.out.2.1).mono ?_
    rintro e v6 ⟨rfl, g6⟩
    have G6 := Lib.hid (below_then G5.out g6)
    have L6A := Lib.hid (L5A.out.below g6)
    have L6B := Lib.hid (L5B.out.below g6)
    have L6U := Lib.hid (L5U.out.below g6)
    have L6I := Lib.hid (L5I.out.below g6)
    have L6D := Lib.hid (L5D.out.below g6)
    clear g6 L5A L5B L5U L5I L5D
    go_wp2_with fail
    refine (check_good _ HD.out.2.2 _ _ L6D.out HD.out.2.1).mono ?_
    rintro e v7 ⟨rfl, g7⟩
    have G7 := Lib.hid (below_then G6.out g7)
    have L7A := Lib.hid (L6A.out.below g7)
    have L7B := Lib.hid (L6B.out.below g7)
    have L7U := Lib.hid (L6U.out.below g7)
    have L7I := Lib.hid (L6I.out.below g7)
    have L7D := Lib.hid (L6D.out.below g7)
    clear g7 L6A L6B L6U L6I L6D
    clear hmax
    go_wp2
    go_loop [58] (fun i => ∃ k : Nat, k ≤ 64 ∧ i = .int .i64 k) (fun i => 64 - (intOf i).toNat)
    case atStart => exact ⟨0, Nat.zero_le _, rfl⟩
    case round =>
      obtain ⟨k, hk, rfl⟩ := hrel
      by_cases hlt : k < 64
      · have C1 := Lib.hid (contains_any x0 k (has x0 k) rfl _ _ L7A.out M.out.1)
        have C2 := Lib.hid (contains_any x1 k (has x1 k) rfl _ _ L7B.out M.out.2)
        have C3 := Lib.hid (contains_any U k _ (MU.out k hlt) _ _ L7U.out HU.out.2.1)
        have C4 := Lib.hid (contains_any I k _ (MI.out k hlt) _ _ L7I.out HI.out.2.1)
        have C5 := Lib.hid (contains_any D k _ (MD.out k hlt) _ _ L7D.out HD.out.2.1)
        obtain ⟨p, hp⟩ : ∃ p, has x0 k = p := ⟨_, rfl⟩
        obtain ⟨q, hq⟩ : ∃ q, has x1 k = q := ⟨_, rfl⟩
        rw [hp, hq] at C3 C4 C5
        rw [hp] at C1
        rw [hq] at C2
        clear hp hq
        cases p
        all_goals cases q
        all_goals
          go_wp2_with fail
          refine C1.out.mono ?_
          rintro e y1 ⟨rfl, rfl⟩
          go_wp2_with fail
          refine C2.out.mono ?_
          rintro e y1 ⟨rfl, rfl⟩
          go_wp2_with fail
          refine C3.out.mono ?_
          rintro e y1 ⟨rfl, rfl⟩
          go_wp2_with fail
          refine C4.out.mono ?_
          rintro e y1 ⟨rfl, rfl⟩
          go_wp2_with fail
          refine C5.out.mono ?_
          rintro e y1 ⟨rfl, rfl⟩
          go_wp2
          go_round
          case rel => exact ⟨k + 1, by omega, by go_num⟩
          case measure => simp [intOf]; omega
      · obtain rfl : k = 64 := by omega
        go_wp2_with fail
        refine (awake_any _).mono ?_
        rintro e y1 ⟨rfl, g⟩
        have G := Lib.hid (below_then G7.out g)
        clear g
        go_wp2
        go_ret
        exact ⟨rfl, G.out⟩
  · have HF := Lib.hid (fine_two w w0 w1 false (by rw [decide_eq_false_iff_not]; exact hok))
    obtain ⟨a0, c0, rfl, _⟩ := w0
    obtain ⟨a1, c1, rfl, _⟩ := w1
    clear hok
    go_enter Try.func5, Try.ntmps5
    go_wp2_with fail
    refine HF.out.mono ?_
    rintro e v1 ⟨rfl, g1⟩
    have G1 := Lib.hid g1
    clear g1
    go_wp2_with fail
    refine (awake_any _).mono ?_
    rintro e v2 ⟨rfl, g2⟩
    have G2 := Lib.hid (below_then G1.out g2)
    clear g2
    go_wp2
    go_ret
    exact ⟨rfl, G2.out⟩
end Go.Proofs.Ytdplcpnahahkaaa
