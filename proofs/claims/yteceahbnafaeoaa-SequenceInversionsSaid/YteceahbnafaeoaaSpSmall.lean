/- The program's small functions. -/
import Derived.Test.YteceahbnafaeoaaSqLib
import Derived.Test.YteceahbnafaeoaaSqVerM
import Derived.Test.YteceahbnafaeoaaSqScan
namespace Go.Proofs.Yteceahbnafaeoaa
set_option linter.unusedSimpArgs false
set_option linter.unusedVariables false
set_option maxRecDepth 100000
open Go.RowKit Go.Deep

theorem tooLong_any (l : List Int) (v : Value) (b : Bool) (hb : decide (1024 < l.length) = b) (w : World) (hv : IntsAt w v l) :
    Calls Try.prog 44 #[v] w fun e w' => e = .returned (.bool b) ∧ w' = w := by
  obtain ⟨a, cap, rfl, _⟩ := hv
  have ht : decide ((1024 : Int) < (l.length : Int)) = b := by rw [← hb]; exact decide_eq_decide.2 (by omega)
  clear hb
  go_enter Try.func44, Try.ntmps44
  go_wp2
  go_ret
  exact ⟨by simp [ht], rfl⟩
theorem isIndex_any (l : List Int) (i : Int) (v : Value) (b : Bool) (hb : inB l i = b) (w : World) (hv : IntsAt w v l) :
    Calls Try.prog 55 #[v, intV i] w fun e w' => e = .returned (.bool b) ∧ w' = w := by
  obtain ⟨a, cap, rfl, _⟩ := hv
  unfold inB at hb
  by_cases h0 : 0 ≤ i
  · by_cases h1 : i < l.length
    · have hb2 : b = true := by rw [← hb, decide_eq_true h0, decide_eq_true h1]; rfl
      subst hb2
      clear hb
      go_enter Try.func55, Try.ntmps55
      go_wp2
      go_ret
      exact ⟨rfl, rfl⟩
    · have t1 : decide (i < (l.length : Int)) = false := decide_eq_false h1
      have hb2 : b = false := by rw [← hb, t1, Bool.and_false]
      subst hb2
      clear hb
      go_enter Try.func55, Try.ntmps55
      go_wp2
      go_ret
      exact ⟨rfl, rfl⟩
  · have t0 : decide (0 ≤ i) = false := decide_eq_false h0
    have hb2 : b = false := by rw [← hb, t0, Bool.false_and]
    subst hb2
    clear hb
    go_enter Try.func55, Try.ntmps55
    go_wp2
    go_ret
    exact ⟨rfl, rfl⟩
theorem lessC_any (x y : Int) (b : Bool) (hb : decide (x < y) = b) (w : World) :
    Calls Try.prog 73 #[intV x, intV y] w fun e w' => e = .returned (.bool b) ∧ w' = w := by
  go_enter Try.func73, Try.ntmps73
  go_wp2
  go_ret
  exact ⟨rfl, rfl⟩
theorem geqC_any (x y : Int) (b : Bool) (hb : decide (y ≤ x) = b) (w : World) :
    Calls Try.prog 74 #[intV x, intV y] w fun e w' => e = .returned (.bool b) ∧ w' = w := by
  go_enter Try.func74, Try.ntmps74
  go_wp2
  go_ret
  exact ⟨rfl, rfl⟩
theorem step_any (x y : Int) (hx : -9223372036854775808 ≤ x ∧ x ≤ 9223372036854775807) (hy : -9223372036854775808 ≤ y ∧ y ≤ 9223372036854775807) (b : Bool) (hb : fol x y = b) (w : World) :
    Calls Try.prog 71 #[intV x, intV y] w fun e w' => e = .returned (.bool b) ∧ w' = w := by
  unfold fol at hb
  by_cases h0 : x < y
  · have hw : IntKind.i64.wrap (x + 1) = x + 1 := IntWalk.i64_in _ (by omega)
    have e : (x + 1 == y) = b := by
      rw [← hb, Bool.eq_iff_iff, beq_iff_eq, decide_eq_true_eq]; omega
    clear hb
    go_enter Try.func71, Try.ntmps71
    go_wp2
    go_ret
    exact ⟨by first | rfl | rw [e] | simp [e], rfl⟩
  · have t0 : decide (x < y) = false := decide_eq_false h0
    have hb2 : b = false := by rw [← hb, decide_eq_false]; omega
    subst hb2
    clear hb
    go_enter Try.func71, Try.ntmps71
    go_wp2
    go_ret
    exact ⟨rfl, rfl⟩
end Go.Proofs.Yteceahbnafaeoaa
