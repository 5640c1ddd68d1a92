/- IntsetComplements. -/
import Derived.Test.YtdplcpnahahkaaaIsSubsets
namespace Go.Proofs.Ytdplcpnahahkaaa
set_option linter.unusedSimpArgs false
set_option linter.unusedVariables false
set_option maxRecDepth 100000
open Go.RowKit Go.Deep

theorem comp_full {a : List Int} (h : errL a = 0) : compR 64 a = (sel 64 fun i => !has a i, 0) := by
  rw [compR, if_neg (by omega), if_neg (by simpa using h), if_neg]
  · rfl
  · rintro ⟨x, hx, h1⟩
    have := ((err_iff a).1 h).2 x hx
    omega
theorem sel_both (p : Nat → Bool) : ∀ n, (sel n p).length + (sel n fun i => !p i).length = n
  | 0 => rfl
  | n + 1 => by
    have := sel_both p n
    rw [sel_succ, sel_succ]
    cases p n
    · simp; omega
    · simp; omega
theorem comp_len {a : List Int} (h : errL a = 0) : (sel 64 fun i => !has a i).length + a.length = 64 := by
  have := sel_both (has a) 64
  rw [sel_has h] at this
  omega
theorem comp_comp {a : List Int} (h : errL a = 0) : (sel 64 fun i => !has (sel 64 fun i => !has a i) i) = a := by
  refine set_ext (err_sel (Nat.le_refl _) _) h fun i hi => ?_
  rw [has_sel, has_sel, decide_eq_true hi]; simp
theorem de_morgan (a b : List Int) : (sel 64 fun i => !has (sel 64 fun i => orB (has a i) (has b i)) i) = sel 64 fun i => andB (has (sel 64 fun i => !has a i) i) (has (sel 64 fun i => !has b i) i) :=
  sel_congr fun i hi => by rw [has_sel, has_sel, has_sel, decide_eq_true hi]; simp [orB, andB]
theorem max6_zero (w : World) : Sem.run Try.prog (Builtin.max_ #[27, 27, 27, 27, 27, 27] 27 #[.int .i64 0, .int .i64 0, .int .i64 0, .int .i64 0, .int .i64 0, .int .i64 0]) w = .ok (.int .i64 0) w := by
  kernel_rfl

set_option maxHeartbeats 4000000 in
theorem complements_law (w : World) (u0 : Value) (x0 : List Int) (u1 : Value) (x1 : List Int) (w0 : IntsAt w u0 x0) (b0 : x0.length ≤ maxLen) (w1 : IntsAt w u1 x1) (b1 : x1.length ≤ maxLen) :
    Calls Try.prog 7 #[u0, u1] w fun e w' => e = .returned (.bool true) ∧ Below w.heap.size w w' := by
  by_cases hok : okL x0 ∧ okL x1
  · have HF := Lib.hid (fine_two w w0 w1 true (by simpa using hok))
    have HA := Lib.hid w0
    have HB := Lib.hid w1
    obtain ⟨o0, o1⟩ := hok
    have l0 : x0.length ≤ 1000000 := Nat.le_trans o0.1 (by decide)
    have l1 : x1.length ≤ 1000000 := Nat.le_trans o1.1 (by decide)
    have lX := sel_le fun i => !has x0 i
    have lY := sel_le fun i => !has x1 i
    have lU := sel_le fun i => orB (has x0 i) (has x1 i)
    have lZ := sel_le fun i => !has (sel 64 fun i => orB (has x0 i) (has x1 i)) i
    have hX := comp_full o0.2
    have hY := comp_full o1.2
    have hb : compR 64 (sel 64 fun i => !has x0 i) = (x0, 0) := by rw [comp_full (err_sel (Nat.le_refl _) _), comp_comp o0.2]
    have hU := op_ok (f := orB) o0 o1
    have hZ : compR 64 (sel 64 fun i => orB (has x0 i) (has x1 i)) = (sel 64 fun i => !has (sel 64 fun i => orB (has x0 i) (has x1 i)) i, 0) := comp_full (err_sel (Nat.le_refl _) _)
    have hW : opR andB (sel 64 fun i => !has x0 i) (sel 64 fun i => !has x1 i) = (sel 64 fun i => !has (sel 64 fun i => orB (has x0 i) (has x1 i)) i, 0) := by
      rw [opR, if_neg (by rintro (h | h); exact h (err_sel (Nat.le_refl _) _); exact h (err_sel (Nat.le_refl _) _)), de_morgan]
    have hlen := comp_len o0.2
    obtain ⟨Z, hZ'⟩ : ∃ Z, (sel 64 fun i => !has (sel 64 fun i => orB (has x0 i) (has x1 i)) i) = Z := ⟨_, rfl⟩
    rw [hZ'] at hZ hW lZ
    obtain ⟨U, hU'⟩ : ∃ U, (sel 64 fun i => orB (has x0 i) (has x1 i)) = U := ⟨_, rfl⟩
    rw [hU'] at hU hZ lU
    obtain ⟨X, hX'⟩ : ∃ X, (sel 64 fun i => !has x0 i) = X := ⟨_, rfl⟩
    rw [hX'] at hX hb hW hlen lX
    obtain ⟨Y, hY'⟩ : ∃ Y, (sel 64 fun i => !has x1 i) = Y := ⟨_, rfl⟩
    rw [hY'] at hY hW lY
    have hL : ((X.length : Int) == 64 - (x0.length : Int)) = true := by rw [beq_iff_eq]; omega
    have hwr : IntKind.i64.wrap (64 - (x0.length : Int)) = 64 - (x0.length : Int) := IntWalk.i64_in _ (by omega)
    have HX := Lib.hid hX
    have HY := Lib.hid hY
    have Hb := Lib.hid hb
    have HU := Lib.hid hU
    have HZ := Lib.hid hZ
    have HW := Lib.hid hW
    have M := Lib.hid (And.intro l0 (And.intro l1 (And.intro lX (And.intro lY (And.intro lU lZ)))))
    obtain ⟨a0, c0, rfl, _⟩ := id w0
    obtain ⟨a1, c1, rfl, _⟩ := id w1
    have hmax := max6_zero
    clear hX hY hb hU hZ hW hZ' hU' hX' hY' hlen o0 o1 w0 w1 l0 l1 lX lY lU lZ
    go_enter Try.func7, Try.ntmps7
    go_wp2_with fail
    refine (HF.out).mono ?_
    rintro e v1 ⟨rfl, g1⟩
    have G1 := Lib.hid (g1)
    have L1A := Lib.hid (HA.out.below g1)
    have L1B := Lib.hid (HB.out.below g1)
    clear g1 HA HB
    clear HF
    go_wp2_with fail
    refine (comp_any 64 _ _ HX.out _ _ L1A.out M.out.1).mono ?_
    rintro e v2 ⟨z2, rfl, p2, g2⟩
    have G2 := Lib.hid (below_then G1.out g2)
    have L2A := Lib.hid (L1A.out.below g2)
    have L2B := Lib.hid (L1B.out.below g2)
    have L2X := Lib.hid p2
    obtain ⟨q2, t2, rfl, _⟩ := p2
    clear g2 L1A L1B
    go_wp2_with fail
    refine (comp_any 64 _ _ HY.out _ _ L2B.out M.out.2.1).mono ?_
    rintro e v3 ⟨z3, rfl, p3, g3⟩
    have G3 := Lib.hid (below_then G2.out g3)
    have L3A := Lib.hid (L2A.out.below g3)
    have L3B := Lib.hid (L2B.out.below g3)
    have L3X := Lib.hid (L2X.out.below g3)
    have L3Y := Lib.hid p3
    obtain ⟨q3, t3, rfl, _⟩ := p3
    clear g3 L2A L2B L2X
    go_wp2_with fail
    refine (comp_any 64 _ _ Hb.out _ _ L3X.out M.out.2.2.1).mono ?_
    rintro e v4 ⟨z4, rfl, p4, g4⟩
    have G4 := Lib.hid (below_then G3.out g4)
    have L4A := Lib.hid (L3A.out.below g4)
    have L4B := Lib.hid (L3B.out.below g4)
    have L4X := Lib.hid (L3X.out.below g4)
    have L4Y := Lib.hid (L3Y.out.below g4)
    have L4b := Lib.hid p4
    obtain ⟨q4, t4, rfl, _⟩ := p4
    clear g4 L3A L3B L3X L3Y
    go_wp2_with fail
    refine (union_any _ _ _ HU.out _ _ _ L4A.out L4B.out M.out.1 M.out.2.1).mono ?_
    rintro e v5 ⟨z5, rfl, p5, g5⟩
    have G5 := Lib.hid (below_then G4.out g5)
    have L5A := Lib.hid (L4A.out.below g5)
    have L5B := Lib.hid (L4B.out.below g5)
    have L5X := Lib.hid (L4X.out.below g5)
    have L5Y := Lib.hid (L4Y.out.below g5)
    have L5b := Lib.hid (L4b.out.below g5)
    have L5U := Lib.hid p5
    obtain ⟨q5, t5, rfl, _⟩ := p5
    clear g5 L4A L4B L4X L4Y L4b
    go_wp2_with fail
    refine (comp_any 64 _ _ HZ.out _ _ L5U.out M.out.2.2.2.2.1).mono ?_
    rintro e v6 ⟨z6, rfl, p6, g6⟩
    have G6 := Lib.hid (below_then G5.out g6)
    have L6A := Lib.hid (L5A.out.below g6)
    have L6B := Lib.hid (L5B.out.below g6)
    have L6X := Lib.hid (L5X.out.below g6)
    have L6Y := Lib.hid (L5Y.out.below g6)
    have L6b := Lib.hid (L5b.out.below g6)
    have L6U := Lib.hid (L5U.out.below g6)
    have L6Z := Lib.hid p6
    obtain ⟨q6, t6, rfl, _⟩ := p6
    clear g6 L5A L5B L5X L5Y L5b L5U
    go_wp2_with fail
    refine (intersect_any _ _ _ HW.out _ _ _ L6X.out L6Y.out M.out.2.2.1 M.out.2.2.2.1).mono ?_
    rintro e v7 ⟨z7, rfl, p7, g7⟩
    have G7 := Lib.hid (below_then G6.out g7)
    have L7A := Lib.hid (L6A.out.below g7)
    have L7B := Lib.hid (L6B.out.below g7)
    have L7X := Lib.hid (L6X.out.below g7)
    have L7Y := Lib.hid (L6Y.out.below g7)
    have L7b := Lib.hid (L6b.out.below g7)
    have L7U := Lib.hid (L6U.out.below g7)
    have L7Z := Lib.hid (L6Z.out.below g7)
    have L7W := Lib.hid p7
    obtain ⟨q7, t7, rfl, _⟩ := p7
    clear g7 L6A L6B L6X L6Y L6b L6U L6Z
    go_wp2_with fail
    refine (equal_at _ _ true (by simp) _ _ _ L7b.out L7A.out M.out.1 M.out.1).mono ?_
    rintro e v8 ⟨rfl, g8⟩
    have G8 := Lib.hid (below_then G7.out g8)
    have L8A := Lib.hid (L7A.out.below g8)
    have L8B := Lib.hid (L7B.out.below g8)
    have L8X := Lib.hid (L7X.out.below g8)
    have L8Y := Lib.hid (L7Y.out.below g8)
    have L8b := Lib.hid (L7b.out.below g8)
    have L8U := Lib.hid (L7U.out.below g8)
    have L8Z := Lib.hid (L7Z.out.below g8)
    have L8W := Lib.hid (L7W.out.below g8)
    clear g8 L7A L7B L7X L7Y L7b L7U L7Z L7W
    go_wp2_with fail
    refine (equal_at _ _ true (by simp) _ _ _ L8Z.out L8W.out M.out.2.2.2.2.2 M.out.2.2.2.2.2).mono ?_
    rintro e v9 ⟨rfl, g9⟩
    have G9 := Lib.hid (below_then G8.out g9)
    have L9A := Lib.hid (L8A.out.below g9)
    have L9B := Lib.hid (L8B.out.below g9)
    have L9X := Lib.hid (L8X.out.below g9)
    have L9Y := Lib.hid (L8Y.out.below g9)
    have L9b := Lib.hid (L8b.out.below g9)
    have L9U := Lib.hid (L8U.out.below g9)
    have L9Z := Lib.hid (L8Z.out.below g9)
    have L9W := Lib.hid (L8W.out.below g9)
    clear g9 L8A L8B L8X L8Y L8b L8U L8Z L8W
    clear hmax L9A L9B L9X L9Y L9b L9U L9Z L9W HX HY Hb HU HZ HW M
    go_wp2_with fail
    refine (awake_any _).mono ?_
    rintro e v10 ⟨rfl, g10⟩
    have G10 := Lib.hid (below_then G9.out g10)
    clear g10
    go_wp2
    go_ret
    exact ⟨rfl, G10.out⟩
  · have HF := Lib.hid (fine_two w w0 w1 false (by rw [decide_eq_false_iff_not]; exact hok))
    obtain ⟨a0, c0, rfl, _⟩ := w0
    obtain ⟨a1, c1, rfl, _⟩ := w1
    clear hok
    go_enter Try.func7, Try.ntmps7
    go_wp2_with fail
    refine HF.out.mono ?_
    rintro e v1 ⟨rfl, g1⟩
    have G1 := Lib.hid g1
    clear g1
    go_wp2_with fail
    refine (awake_any _).mono ?_
    rintro e v2 ⟨rfl, g2⟩
    have G2 := Lib.hid (below_then G1.out g2)
    clear g2
    go_wp2
    go_ret
    exact ⟨rfl, G2.out⟩
end Go.Proofs.Ytdplcpnahahkaaa
