/- The walk of EditdistanceMetric. -/
import Derived.Test.YtbdeakodmhcgdaaEdAwake
namespace Go.Proofs.Ytbdeakodmhcgdaa
set_option linter.unusedSimpArgs false
set_option linter.unusedVariables false
set_option maxRecDepth 100000
open Go.RowKit Go.Deep

theorem distR_small (a b : ByteArray) (ha : a.size ≤ 256) (hb : b.size ≤ 256) : distR a b = (((lev a.data.toList b.data.toList : Nat) : Int), 0) := by rw [distR, if_neg (by omega)]
theorem ba_list {a b : ByteArray} : a.data.toList = b.data.toList ↔ a = b := ⟨ba_same, fun h => by rw [h]⟩
theorem toList_beq (a b : ByteArray) : (a.toList == b.toList) = decide (a = b) := by
  rw [Bool.eq_iff_iff]; simp only [beq_iff_eq, decide_eq_true_eq]; exact ⟨bytes_eq, fun h => by rw [h]⟩

set_option maxHeartbeats 2000000 in
theorem metric_skip (w : World) (a b c : ByteArray) (ha : a.size ≤ maxLen) (hb : b.size ≤ maxLen) (hc : c.size ≤ maxLen) (h : 12 < a.size ∨ 12 < b.size ∨ 12 < c.size) :
    Calls Try.prog 5 #[.string a, .string b, .string c] w fun e w' => e = .returned (.bool true) ∧ Below w.heap.size w w' := by
  unfold maxLen at ha hb hc
  rcases (show (12 : Int) < a.size ∨ ((a.size : Int) ≤ 12 ∧ (12 : Int) < b.size) ∨ ((a.size : Int) ≤ 12 ∧ (b.size : Int) ≤ 12 ∧ (12 : Int) < c.size) by omega) with h1 | ⟨h1, h2⟩ | ⟨h1, h2, h3⟩
  all_goals
    clear h
    go_enter Try.func5, Try.ntmps5
    go_wp2_with fail
    refine (awake_any _).mono ?_
    rintro e w1 ⟨rfl, b1⟩
    have B1 := Lib.hid b1
    clear b1
    go_wp2
    go_ret
    exact ⟨rfl, B1.out⟩

set_option maxHeartbeats 4000000 in
theorem metric_walk (w : World) (a b c : ByteArray) (ha : a.size ≤ maxLen) (hb : b.size ≤ maxLen) (hc : c.size ≤ maxLen) :
    Calls Try.prog 5 #[.string a, .string b, .string c] w fun e w' => e = .returned (.bool true) ∧ Below w.heap.size w w' := by
  by_cases hbig : 12 < a.size ∨ 12 < b.size ∨ 12 < c.size
  · exact metric_skip w a b c ha hb hc hbig
  · clear ha hb hc
    have ha : (a.size : Int) ≤ 12 := by omega
    have hb : (b.size : Int) ≤ 12 := by omega
    have hc : (c.size : Int) ≤ 12 := by omega
    clear hbig
    have e1 := distR_small a b (by omega) (by omega)
    have e2 := distR_small b a (by omega) (by omega)
    have e3 := distR_small b c (by omega) (by omega)
    have e4 := distR_small a c (by omega) (by omega)
    rw [lev_symm b.data.toList a.data.toList] at e2
    have z := lev_zero a.data.toList b.data.toList
    have t := lev_trans a.data.toList b.data.toList c.data.toList
    have l := lev_least a.data.toList b.data.toList
    have m := lev_most a.data.toList b.data.toList
    have m2 := lev_most b.data.toList c.data.toList
    have m3 := lev_most a.data.toList c.data.toList
    rw [size_list, size_list] at l m m2 m3
    rw [ba_list] at z
    obtain ⟨x, hx⟩ : ∃ x, lev a.data.toList b.data.toList = x := ⟨_, rfl⟩
    obtain ⟨y, hy⟩ : ∃ x, lev b.data.toList c.data.toList = x := ⟨_, rfl⟩
    obtain ⟨v, hv⟩ : ∃ x, lev a.data.toList c.data.toList = x := ⟨_, rfl⟩
    rw [hx] at e1 e2 z t l m
    rw [hy] at e3 t m2
    rw [hv] at e4 t m3
    have C1 := Lib.hid (dist_at a b _ e1 (by omega) (by omega))
    have C2 := Lib.hid (dist_at b a _ e2 (by omega) (by omega))
    have C3 := Lib.hid (dist_at b c _ e3 (by omega) (by omega))
    have C4 := Lib.hid (dist_at a c _ e4 (by omega) (by omega))
    obtain ⟨r, hr⟩ : ∃ r, decide (a = b) = r := ⟨_, rfl⟩
    have hr2 : (a.toList == b.toList) = r := by rw [toList_beq]; exact hr
    have hr1 : ((x : Int) == 0) = r := by
      rw [← hr, Bool.eq_iff_iff]; simp only [beq_iff_eq, decide_eq_true_eq]
      exact ⟨fun h => z.1 (by omega), fun h => by have := z.2 h; omega⟩
    have ht : (v : Int) ≤ (x : Int) + (y : Int) := by omega
    have hw : IntKind.i64.wrap ((x : Int) + (y : Int)) = (x : Int) + (y : Int) := IntWalk.i64_in _ (by omega)
    have hw1 : IntKind.i64.wrap ((a.size : Int) - (b.size : Int)) = (a.size : Int) - (b.size : Int) := IntWalk.i64_in _ (by omega)
    have hw2 : IntKind.i64.wrap ((b.size : Int) - (a.size : Int)) = (b.size : Int) - (a.size : Int) := IntWalk.i64_in _ (by omega)
    have k1 : (a.size : Int) - (b.size : Int) ≤ (x : Int) := by omega
    have k2 : (b.size : Int) - (a.size : Int) ≤ (x : Int) := by omega
    have hmax := max4_zero
    have k3 : (x : Int) ≤ max (a.size : Int) (b.size : Int) := by omega
    clear e1 e2 e3 e4 z t l m m2 m3 hx hy hv hr
    go_enter Try.func5, Try.ntmps5
    go_wp2_with fail
    refine (C1.out _).mono ?_
    rintro e w1 ⟨rfl, b1⟩
    have B1 := Lib.hid b1
    clear b1
    go_wp2_with fail
    refine (C2.out _).mono ?_
    rintro e w2 ⟨rfl, b2⟩
    have B2 := Lib.hid (below_seq B1.out b2 B1.out.size)
    clear b2
    go_wp2_with fail
    refine (C3.out _).mono ?_
    rintro e w3 ⟨rfl, b3⟩
    have B3 := Lib.hid (below_seq B2.out b3 B2.out.size)
    clear b3
    go_wp2_with fail
    refine (C4.out _).mono ?_
    rintro e w4 ⟨rfl, b4⟩
    have B4 := Lib.hid (below_seq B3.out b4 B3.out.size)
    clear b4
    go_wp2_with fail
    all_goals
      refine (awake_any _).mono ?_
      rintro e w5 ⟨rfl, b5⟩
      have B5 := Lib.hid (below_seq B4.out b5 B4.out.size)
      clear b5
      go_wp2
      go_ret
      exact ⟨rfl, B5.out⟩
end Go.Proofs.Ytbdeakodmhcgdaa
