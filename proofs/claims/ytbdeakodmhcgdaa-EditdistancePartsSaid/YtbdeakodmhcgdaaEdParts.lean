/- The walk of EditdistanceParts. -/
import Derived.Test.YtbdeakodmhcgdaaEdTurn
namespace Go.Proofs.Ytbdeakodmhcgdaa
set_option linter.unusedSimpArgs false
set_option linter.unusedVariables false
set_option maxRecDepth 100000
open Go.RowKit Go.Deep

theorem contains_x (w : World) : Calls Try.prog 38 #[.string ⟨#[]⟩, .string ⟨#[120]⟩] w fun e w' => e = .returned (.bool false) ∧ w = w' :=
  (Any.strings_Contains_one Try.lays144 ⟨#[]⟩ 120 w).mono fun e w' h => ⟨by rw [h.1]; rfl, h.2.symm⟩
theorem app_size (a b : ByteArray) : (a ++ b).size = a.size + b.size := by rw [← size_list, app_list, List.length_append, size_list, size_list]

set_option maxHeartbeats 2000000 in
theorem parts_skip (w : World) (a b c d : ByteArray) (ha : a.size ≤ maxLen) (hb : b.size ≤ maxLen) (hc : c.size ≤ maxLen) (hd : d.size ≤ maxLen) (h : 8 < a.size ∨ 8 < b.size ∨ 8 < c.size ∨ 8 < d.size) :
    Calls Try.prog 11 #[.string a, .string b, .string c, .string d] w fun e w' => e = .returned (.bool true) ∧ Below w.heap.size w w' := by
  unfold maxLen at ha hb hc hd
  rcases (show (8 : Int) < a.size ∨ ((a.size : Int) ≤ 8 ∧ (8 : Int) < b.size) ∨ ((a.size : Int) ≤ 8 ∧ (b.size : Int) ≤ 8 ∧ (8 : Int) < c.size) ∨ ((a.size : Int) ≤ 8 ∧ (b.size : Int) ≤ 8 ∧ (c.size : Int) ≤ 8 ∧ (8 : Int) < d.size) by omega) with h1 | ⟨h1, h2⟩ | ⟨h1, h2, h3⟩ | ⟨h1, h2, h3, h4⟩
  all_goals
    clear h
    go_enter Try.func11, Try.ntmps11
    go_wp2_with fail
    refine (awake_any _).mono ?_
    rintro e w1 ⟨rfl, b1⟩
    have B1 := Lib.hid b1
    clear b1
    go_wp2
    go_ret
    exact ⟨rfl, B1.out⟩

set_option maxHeartbeats 4000000 in
theorem parts_walk (w : World) (a b c d : ByteArray) (ha : a.size ≤ maxLen) (hb : b.size ≤ maxLen) (hc : c.size ≤ maxLen) (hd : d.size ≤ maxLen) :
    Calls Try.prog 11 #[.string a, .string b, .string c, .string d] w fun e w' => e = .returned (.bool true) ∧ Below w.heap.size w w' := by
  by_cases hbig : 8 < a.size ∨ 8 < b.size ∨ 8 < c.size ∨ 8 < d.size
  · exact parts_skip w a b c d ha hb hc hd hbig
  · clear ha hb hc hd
    have ha : (a.size : Int) ≤ 8 := by omega
    have hb : (b.size : Int) ≤ 8 := by omega
    have hc : (c.size : Int) ≤ 8 := by omega
    have hd : (d.size : Int) ≤ 8 := by omega
    clear hbig
    have s1 := app_size a c
    have s2 := app_size b d
    have s3 := app_size c a
    have s4 := app_size c b
    have s5 := app_size (c ++ a) d
    have s6 := app_size (c ++ b) d
    have s7 := revS_size a
    have s8 := revS_size b
    have e1 := distR_small a b (by omega) (by omega)
    have e2 := distR_small c d (by omega) (by omega)
    have e3 := distR_small (a ++ c) (b ++ d) (by omega) (by omega)
    have e4 := distR_small (c ++ a ++ d) (c ++ b ++ d) (by omega) (by omega)
    have e5 := distR_small (revS a) (revS b) (by omega) (by omega)
    rw [app_list, app_list] at e3
    rw [app_list, app_list, app_list, app_list, lev_suffix, lev_prefix] at e4
    rw [revS_list, revS_list, lev_reverse] at e5
    have t := lev_append a.data.toList b.data.toList c.data.toList d.data.toList
    have m1 := lev_most a.data.toList b.data.toList
    have m2 := lev_most c.data.toList d.data.toList
    rw [size_list, size_list] at m1 m2
    obtain ⟨x, hx⟩ : ∃ x, lev a.data.toList b.data.toList = x := ⟨_, rfl⟩
    obtain ⟨y, hy⟩ : ∃ x, lev c.data.toList d.data.toList = x := ⟨_, rfl⟩
    obtain ⟨v, hv⟩ : ∃ x, lev (a.data.toList ++ c.data.toList) (b.data.toList ++ d.data.toList) = x := ⟨_, rfl⟩
    rw [hx] at e1 e4 e5 t m1
    rw [hy] at e2 t m2
    rw [hv] at e3 t
    have C1 := Lib.hid (dist_at a b _ e1 (by omega) (by omega))
    have C2 := Lib.hid (dist_at c d _ e2 (by omega) (by omega))
    have C3 := Lib.hid (dist_at (a ++ c) (b ++ d) _ e3 (by omega) (by omega))
    have C4 := Lib.hid (dist_at (c ++ a ++ d) (c ++ b ++ d) _ e4 (by omega) (by omega))
    have C5 := Lib.hid (dist_at (revS a) (revS b) _ e5 (by omega) (by omega))
    have T1 := Lib.hid (turned_any a (by omega))
    have T2 := Lib.hid (turned_any b (by omega))
    have ht : (v : Int) ≤ (x : Int) + (y : Int) := by omega
    have hw : IntKind.i64.wrap ((x : Int) + (y : Int)) = (x : Int) + (y : Int) := IntWalk.i64_in _ (by omega)
    have p1 : ∀ w, (Op.stringOp .add a c).run Try.prog w = .ok (.string (a ++ c)) w := fun w => run_string_add_sum w _ _ (by omega)
    have p2 : ∀ w, (Op.stringOp .add b d).run Try.prog w = .ok (.string (b ++ d)) w := fun w => run_string_add_sum w _ _ (by omega)
    have p3 : ∀ w, (Op.stringOp .add c a).run Try.prog w = .ok (.string (c ++ a)) w := fun w => run_string_add_sum w _ _ (by omega)
    have p4 : ∀ w, (Op.stringOp .add c b).run Try.prog w = .ok (.string (c ++ b)) w := fun w => run_string_add_sum w _ _ (by omega)
    have p5 : ∀ w, (Op.stringOp .add (c ++ a) d).run Try.prog w = .ok (.string (c ++ a ++ d)) w := fun w => run_string_add_sum w _ _ (by omega)
    have p6 : ∀ w, (Op.stringOp .add (c ++ b) d).run Try.prog w = .ok (.string (c ++ b ++ d)) w := fun w => run_string_add_sum w _ _ (by omega)
    have hmax := max5_zero
    clear e1 e2 e3 e4 e5 t m1 m2 hx hy hv s1 s2 s3 s4 s5 s6 s7 s8
    go_enter Try.func11, Try.ntmps11
    go_wp2_with fail
    refine (C1.out _).mono ?_
    rintro e w1 ⟨rfl, b1⟩
    have B1 := Lib.hid b1
    clear b1
    go_wp2_with fail
    refine (C2.out _).mono ?_
    rintro e w2 ⟨rfl, b2⟩
    have B2 := Lib.hid (below_seq B1.out b2 B1.out.size)
    clear b2
    go_wp2_with fail
    refine (C3.out _).mono ?_
    rintro e w3 ⟨rfl, b3⟩
    have B3 := Lib.hid (below_seq B2.out b3 B2.out.size)
    clear b3
    go_wp2_with fail
    refine (C4.out _).mono ?_
    rintro e w4 ⟨rfl, b4⟩
    have B4 := Lib.hid (below_seq B3.out b4 B3.out.size)
    clear b4
    go_wp2_with fail
    refine (T1.out _).mono ?_
    rintro e w5 ⟨rfl, b5⟩
    have B5 := Lib.hid (below_seq B4.out b5 B4.out.size)
    clear b5
    go_wp2_with fail
    refine (T2.out _).mono ?_
    rintro e w6 ⟨rfl, b6⟩
    have B6 := Lib.hid (below_seq B5.out b6 B5.out.size)
    clear b6
    go_wp2_with fail
    refine (C5.out _).mono ?_
    rintro e w7 ⟨rfl, b7⟩
    have B7 := Lib.hid (below_seq B6.out b7 B6.out.size)
    clear b7 p1 p2 p3 p4 p5 p6
    go_wp2_with fail
    refine (contains_x _).mono ?_
    rintro e w8 ⟨rfl, rfl⟩
    go_wp2_with fail
    refine (awake_any _).mono ?_
    rintro e w9 ⟨rfl, b9⟩
    have B9 := Lib.hid (below_seq B7.out b9 B7.out.size)
    clear b9
    go_wp2
    go_ret
    exact ⟨rfl, B9.out⟩
end Go.Proofs.Ytbdeakodmhcgdaa
