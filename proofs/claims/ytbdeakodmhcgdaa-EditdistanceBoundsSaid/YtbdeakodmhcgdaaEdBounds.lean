/- The walk of EditdistanceBounds. -/
import Derived.Test.YtbdeakodmhcgdaaEdMetric
namespace Go.Proofs.Ytbdeakodmhcgdaa
set_option linter.unusedSimpArgs false
set_option linter.unusedVariables false
set_option maxRecDepth 100000
open Go.RowKit Go.Deep

set_option maxHeartbeats 2000000 in
theorem bounds_skip (w : World) (a b : ByteArray) (n : Int) (ha : a.size ≤ maxLen) (hb : b.size ≤ maxLen) (h : 12 < a.size ∨ 12 < b.size) :
    Calls Try.prog 8 #[.string a, .string b, .int .u8 n] w fun e w' => e = .returned (.bool true) ∧ Below w.heap.size w w' := by
  unfold maxLen at ha hb
  rcases (show (12 : Int) < a.size ∨ ((a.size : Int) ≤ 12 ∧ (12 : Int) < b.size) by omega) with h1 | ⟨h1, h2⟩
  all_goals
    clear h
    go_enter Try.func8, Try.ntmps8
    go_wp2_with fail
    refine (awake_any _).mono ?_
    rintro e w1 ⟨rfl, b1⟩
    have B1 := Lib.hid b1
    clear b1
    go_wp2
    go_ret
    exact ⟨rfl, B1.out⟩
theorem sim_facts (a b : ByteArray) (ha : a.size ≤ 256) (hb : b.size ≤ 256) : ∃ s : Int, simR a b = (s, 0) ∧ simR b a = (s, 0) ∧ 0 ≤ s ∧ s ≤ 1000 ∧ (s = 1000 ↔ a = b) := by
  have e1 := distR_small a b ha hb
  have e2 := distR_small b a hb ha
  have z := lev_zero a.data.toList b.data.toList
  have m := lev_most a.data.toList b.data.toList
  rw [lev_symm b.data.toList a.data.toList] at e2
  rw [size_list, size_list] at m
  rw [ba_list] at z
  obtain ⟨x, hx⟩ : ∃ x, lev a.data.toList b.data.toList = x := ⟨_, rfl⟩
  rw [hx] at e1 e2 z m
  obtain ⟨M, hM⟩ : ∃ M, max a.size b.size = M := ⟨_, rfl⟩
  have hM2 : max b.size a.size = M := by rw [← hM]; exact Nat.max_comm _ _
  rw [hM] at m
  rw [simR, simR, e1, e2, hM, hM2]
  by_cases h0 : M = 0
  · refine ⟨1000, by simp [h0], by simp [h0], by omega, by omega, fun _ => z.1 (by omega), fun _ => rfl⟩
  · have hM0 : (0 : Int) < (M : Int) := by omega
    refine ⟨1000 * ((M : Nat) - (x : Int)) / (M : Nat), by simp [h0], by simp [h0], ?_, ?_, ?_⟩
    · exact Int.ediv_nonneg (by omega) (by omega)
    · exact Int.ediv_le_of_le_mul hM0 (by omega)
    · constructor
      · intro h
        by_cases hx0 : x = 0
        · exact z.1 hx0
        · have : 1000 * ((M : Nat) - (x : Int)) / (M : Nat) < 1000 := Int.ediv_lt_of_lt_mul hM0 (by omega)
          omega
      · intro h
        have hx0 := z.2 h
        subst hx0
        rw [show (1000 : Int) * ((M : Nat) - ((0 : Nat) : Int)) = 1000 * (M : Int) by omega]
        exact Int.mul_ediv_cancel _ (by omega)

set_option maxHeartbeats 4000000 in
theorem bounds_walk (w : World) (a b : ByteArray) (n : Int) (ha : a.size ≤ maxLen) (hb : b.size ≤ maxLen) (hn : (Lit.int .u8 n).wf = true) :
    Calls Try.prog 8 #[.string a, .string b, .int .u8 n] w fun e w' => e = .returned (.bool true) ∧ Below w.heap.size w w' := by
  by_cases hbig : 12 < a.size ∨ 12 < b.size
  · exact bounds_skip w a b n ha hb hbig
  · clear ha hb
    have ha : (a.size : Int) ≤ 12 := by omega
    have hb : (b.size : Int) ≤ 12 := by omega
    clear hbig
    have hn2 : 0 ≤ n ∧ n ≤ 255 := by simpa [Lit.wf, IntKind.min, IntKind.max, IntKind.bits, IntKind.signed] using hn
    clear hn
    have hk2 : 0 ≤ n % 16 ∧ n % 16 ≤ 15 := by omega
    have hwn : IntKind.i64.wrap n = n := IntWalk.i64_in _ (by omega)
    have e1 := distR_small a b (by omega) (by omega)
    obtain ⟨s, s1, s2, s3, s4, s5⟩ := sim_facts a b (by omega) (by omega)
    obtain ⟨x, hx⟩ : ∃ x, lev a.data.toList b.data.toList = x := ⟨_, rfl⟩
    rw [hx] at e1
    clear hx
    have C1 := Lib.hid (dist_at a b _ e1 (by omega) (by omega))
    have C3 := Lib.hid (similarity_at a b _ s1 (by omega) (by omega))
    have C4 := Lib.hid (similarity_at b a _ s2 (by omega) (by omega))
    obtain ⟨r, hr⟩ : ∃ r, decide (a = b) = r := ⟨_, rfl⟩
    have hr2 : (a.toList == b.toList) = r := by rw [toList_beq]; exact hr
    have hr1 : (s == 1000) = r := by
      rw [← hr, Bool.eq_iff_iff]; simp only [beq_iff_eq, decide_eq_true_eq]; exact s5
    have hmax := max4_zero
    clear hr s1 s2 s5
    by_cases hle : (x : Int) ≤ n % 16
    · have e2 : boundR a b (n % 16) = ((x : Int), true, 0) := by rw [boundR, e1, if_neg (by simp), if_neg (by omega), if_neg (show ¬ n % 16 < (x : Int) by omega)]
      have C2 := Lib.hid (bounded_at a b (n % 16) _ e2 (by omega) (by omega))
      clear e1 e2
      go_enter Try.func8, Try.ntmps8
      go_wp2_with fail
      refine (C1.out _).mono ?_
      rintro e w1 ⟨rfl, b1⟩
      have B1 := Lib.hid b1
      clear b1
      go_wp2_with fail
      refine (C2.out _).mono ?_
      rintro e w2 ⟨rfl, b2⟩
      have B2 := Lib.hid (below_seq B1.out b2 B1.out.size)
      clear b2
      go_wp2_with fail
      refine (C3.out _).mono ?_
      rintro e w3 ⟨rfl, b3⟩
      have B3 := Lib.hid (below_seq B2.out b3 B2.out.size)
      clear b3
      go_wp2_with fail
      refine (C4.out _).mono ?_
      rintro e w4 ⟨rfl, b4⟩
      have B4 := Lib.hid (below_seq B3.out b4 B3.out.size)
      clear b4
      go_wp2_with fail
      all_goals
        refine (awake_any _).mono ?_
        rintro e w5 ⟨rfl, b5⟩
        have B5 := Lib.hid (below_seq B4.out b5 B4.out.size)
        clear b5
        go_wp2
        go_ret
        exact ⟨rfl, B5.out⟩
    · have e2 : boundR a b (n % 16) = (0, false, 0) := by rw [boundR, e1, if_neg (by simp), if_neg (by omega), if_pos (show n % 16 < (x : Int) by omega)]
      have C2 := Lib.hid (bounded_at a b (n % 16) _ e2 (by omega) (by omega))
      clear e1 e2
      go_enter Try.func8, Try.ntmps8
      go_wp2_with fail
      refine (C1.out _).mono ?_
      rintro e w1 ⟨rfl, b1⟩
      have B1 := Lib.hid b1
      clear b1
      go_wp2_with fail
      refine (C2.out _).mono ?_
      rintro e w2 ⟨rfl, b2⟩
      have B2 := Lib.hid (below_seq B1.out b2 B1.out.size)
      clear b2
      go_wp2_with fail
      refine (C3.out _).mono ?_
      rintro e w3 ⟨rfl, b3⟩
      have B3 := Lib.hid (below_seq B2.out b3 B2.out.size)
      clear b3
      go_wp2_with fail
      refine (C4.out _).mono ?_
      rintro e w4 ⟨rfl, b4⟩
      have B4 := Lib.hid (below_seq B3.out b4 B3.out.size)
      clear b4
      go_wp2_with fail
      all_goals
        refine (awake_any _).mono ?_
        rintro e w5 ⟨rfl, b5⟩
        have B5 := Lib.hid (below_seq B4.out b5 B4.out.size)
        clear b5
        go_wp2
        go_ret
        exact ⟨rfl, B5.out⟩
end Go.Proofs.Ytbdeakodmhcgdaa
