/- IntsetSubsets. -/
import Derived.Test.YtdplcpnahahkaaaIsAwake
import Derived.Test.YtdplcpnahahkaaaIsFine
namespace Go.Proofs.Ytdplcpnahahkaaa
set_option linter.unusedSimpArgs false
set_option linter.unusedVariables false
set_option maxRecDepth 100000
open Go.RowKit Go.Deep

theorem pair_lists (w : World) {u0 u1 : Value} {x0 x1 : List Int} (h0 : IntsAt w u0 x0) (h1 : IntsAt w u1 x1) : ListsAt (w.alloc (.cells #[u0, u1] 22)) (.slice (some ⟨w.heap.size, 0, none⟩) 2 2) [x0, x1] :=
  lists_lit w [u0, u1] [x0, x1] rfl (fun j hj => by
    match j, hj with
    | 0, _ => exact h0
    | 1, _ => exact h1)
theorem fine_two (w : World) {u0 u1 : Value} {x0 x1 : List Int} (h0 : IntsAt w u0 x0) (h1 : IntsAt w u1 x1) (r : Bool) (hr : decide (okL x0 ∧ okL x1) = r) :
    Calls Try.prog 33 #[.slice (some ⟨w.heap.size, 0, none⟩) 2 2] (w.alloc (.cells #[u0, u1] 22)) fun e w' => e = .returned (.bool r) ∧ Below w.heap.size w w' :=
  (fine_any [x0, x1] r (by rw [← hr]; apply decide_eq_decide.2; simp) _ _ (pair_lists w h0 h1) (by simp [maxLen])).mono fun e w' ⟨h, m, hm⟩ => ⟨h, by rw [hm]; exact (alloc_below w _).trans (below_drewN_n _ _ _)⟩
theorem equal_at (xs ys : List Int) (r : Bool) (hr : decide (xs = ys) = r) (vx vy : Value) (w : World) (hx : IntsAt w vx xs) (hy : IntsAt w vy ys) (lx : xs.length ≤ 1000000) (ly : ys.length ≤ 1000000) :
    Calls Try.prog 22 #[vx, vy] w fun e w' => e = .returned (.bool r) ∧ Below w.heap.size w w' :=
  (equal_any xs ys r hr vx vy w hx hy lx ly).mono fun e w' ⟨h, m, hm⟩ => ⟨h, by rw [hm]; exact below_drewN _ _⟩
theorem op_ok {f : Bool → Bool → Bool} {a b : List Int} (ha : okL a) (hb : okL b) : opR f a b = (sel 64 fun i => f (has a i) (has b i), 0) := by rw [opR, if_neg (by rintro (h | h); exact h ha.2; exact h hb.2)]
theorem sel_le (p : Nat → Bool) : (sel 64 p).length ≤ 1000000 := Nat.le_trans (sel_len 64 p) (by decide)
theorem sub_union {a b : List Int} (ha : okL a) (hb : okL b) : (sel 64 fun i => orB (has a i) (has b i)) = b ↔ ∀ x ∈ a, x ∈ b := by
  constructor
  · intro h x hx
    have hr := ((err_iff a).1 ha.2).2 x hx
    have e : ((x.toNat : Nat) : Int) = x := by omega
    rw [← h, mem_sel]
    exact ⟨x.toNat, by omega, by rw [orB, has, e]; simp [hx], e.symm⟩
  · intro h
    refine set_ext (err_sel (Nat.le_refl _) _) hb.2 fun i hi => ?_
    rw [has_sel, decide_eq_true hi, Bool.true_and, orB]
    cases h1 : has b i
    · cases h2 : has a i
      · rfl
      · rw [has, decide_eq_true_eq] at h2
        rw [has, decide_eq_false_iff_not] at h1
        exact absurd (h _ h2) h1
    · simp

set_option maxHeartbeats 4000000 in
theorem subsets_law (w : World) (u0 : Value) (x0 : List Int) (u1 : Value) (x1 : List Int) (w0 : IntsAt w u0 x0) (b0 : x0.length ≤ maxLen) (w1 : IntsAt w u1 x1) (b1 : x1.length ≤ maxLen) :
    Calls Try.prog 8 #[u0, u1] w fun e w' => e = .returned (.bool true) ∧ Below w.heap.size w w' := by
  by_cases hok : okL x0 ∧ okL x1
  · have HF := Lib.hid (fine_two w w0 w1 true (by simpa using hok))
    have HA := Lib.hid w0
    have HB := Lib.hid w1
    obtain ⟨o0, o1⟩ := hok
    have l0 : x0.length ≤ 1000000 := Nat.le_trans o0.1 (by decide)
    have l1 : x1.length ≤ 1000000 := Nat.le_trans o1.1 (by decide)
    have hU := op_ok (f := orB) o0 o1
    have hD := op_ok (f := minB) o0 o1
    have hW : withinR x0 x1 = (decide (∀ x ∈ x0, x ∈ x1), 0) := by rw [withinR, if_neg (by rintro (h | h); exact h o0.2; exact h o1.2)]
    have e1 := sub_union o0 o1
    have e2 := minus_empty x0 x1 o0.2
    have lU := sel_le fun i => orB (has x0 i) (has x1 i)
    obtain ⟨U, hU'⟩ : ∃ U, (sel 64 fun i => orB (has x0 i) (has x1 i)) = U := ⟨_, rfl⟩
    obtain ⟨D, hD'⟩ : ∃ D, (sel 64 fun i => minB (has x0 i) (has x1 i)) = D := ⟨_, rfl⟩
    obtain ⟨q, hq⟩ : ∃ q, decide (∀ x ∈ x0, x ∈ x1) = q := ⟨_, rfl⟩
    rw [hU'] at hU e1 lU
    rw [hD'] at hD e2
    rw [hq] at hW
    have hE : decide (U = x1) = q := by rw [← hq]; exact decide_eq_decide.2 e1
    have hL : ((D.length : Int) == 0) = q := by
      rw [← hq, Bool.eq_iff_iff, beq_iff_eq, decide_eq_true_eq, ← e2, ← List.length_eq_zero_iff]; omega
    obtain ⟨a0, c0, rfl, _⟩ := id w0
    obtain ⟨a1, c1, rfl, _⟩ := id w1
    have H := Lib.hid (And.intro hU (And.intro hD (And.intro hW (And.intro hE (And.intro l0 (And.intro l1 lU))))))
    have hmax := max3_zero
    clear hU' hD' hq e1 e2 hU hD hW hE o0 o1 w0 w1 l0 l1 lU
    go_enter Try.func8, Try.ntmps8
    go_wp2_with fail
    refine HF.out.mono ?_
    rintro e v1 ⟨rfl, g1⟩
    have G1 := Lib.hid g1
    have A1 := Lib.hid (HA.out.below g1)
    have B1 := Lib.hid (HB.out.below g1)
    clear g1 HF HA HB
    go_wp2_with fail
    refine (within_any _ _ _ H.out.2.2.1 _ _ _ A1.out B1.out H.out.2.2.2.2.1 H.out.2.2.2.2.2.1).mono ?_
    rintro e v2 ⟨rfl, g2⟩
    have G2 := Lib.hid (below_then G1.out g2)
    have A2 := Lib.hid (A1.out.below g2)
    have B2 := Lib.hid (B1.out.below g2)
    clear g2 A1 B1
    go_wp2_with fail
    refine (union_any _ _ _ H.out.1 _ _ _ A2.out B2.out H.out.2.2.2.2.1 H.out.2.2.2.2.2.1).mono ?_
    rintro e v3 ⟨vu, rfl, hu, g3⟩
    have G3 := Lib.hid (below_then G2.out g3)
    have A3 := Lib.hid (A2.out.below g3)
    have B3 := Lib.hid (B2.out.below g3)
    have U3 := Lib.hid hu
    obtain ⟨au, cu, rfl, _⟩ := hu
    clear g3 A2 B2
    go_wp2_with fail
    refine (minus_any _ _ _ H.out.2.1 _ _ _ A3.out B3.out H.out.2.2.2.2.1 H.out.2.2.2.2.2.1).mono ?_
    rintro e v4 ⟨vd, rfl, hd, g4⟩
    have G4 := Lib.hid (below_then G3.out g4)
    have B4 := Lib.hid (B3.out.below g4)
    have U4 := Lib.hid (U3.out.below g4)
    obtain ⟨ad, cd, rfl, _⟩ := hd
    clear g4 A3 B3 U3
    go_wp2_with fail
    refine (equal_at _ _ _ H.out.2.2.2.1 _ _ _ U4.out B4.out H.out.2.2.2.2.2.2 H.out.2.2.2.2.2.1).mono ?_
    rintro e v5 ⟨rfl, g5⟩
    have G5 := Lib.hid (below_then G4.out g5)
    clear g5 U4 B4 H
    go_wp2_with fail
    refine (awake_any _).mono ?_
    rintro e v6 ⟨rfl, g6⟩
    have G6 := Lib.hid (below_then G5.out g6)
    clear g6
    go_wp2
    go_ret
    exact ⟨rfl, G6.out⟩
  · have HF := Lib.hid (fine_two w w0 w1 false (by rw [decide_eq_false_iff_not]; exact hok))
    obtain ⟨a0, c0, rfl, _⟩ := w0
    obtain ⟨a1, c1, rfl, _⟩ := w1
    clear hok
    go_enter Try.func8, Try.ntmps8
    go_wp2_with fail
    refine HF.out.mono ?_
    rintro e v1 ⟨rfl, g1⟩
    have G1 := Lib.hid g1
    clear g1
    go_wp2_with fail
    refine (awake_any _).mono ?_
    rintro e v2 ⟨rfl, g2⟩
    have G2 := Lib.hid (below_then G1.out g2)
    clear g2
    go_wp2
    go_ret
    exact ⟨rfl, G2.out⟩
end Go.Proofs.Ytdplcpnahahkaaa
