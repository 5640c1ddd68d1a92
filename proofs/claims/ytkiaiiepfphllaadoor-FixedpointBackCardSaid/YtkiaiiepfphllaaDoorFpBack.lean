/- The walk of FixedpointBack. -/
import Derived.Test.YtkiaiiepfphllaaDoorFpScales
namespace Go.Proofs.YtkiaiiepfphllaaDoor
set_option linter.unusedSimpArgs false
set_option linter.unusedVariables false
set_option maxRecDepth 100000
open Go.RowKit

theorem printT_len {n : Int} (h : isLen n = true) : (printT n).length ≤ 100 := by
  have hb := isLen_bd h
  have h1 := dd_len (show n.natAbs / 1000 < 10000000000 by omega)
  have h2 : (fracT (n.natAbs % 1000)).length ≤ 4 := by
    rcases fracT_form (Nat.mod_lt n.natAbs (by decide : 0 < 1000)) with ⟨e, _⟩ | ⟨f, e, hf, _⟩
    · rw [e]; simp
    · rw [e]; have := ((fracB_iff f).1 hf).2.1; simp; omega
  rw [printT, amtT]
  have h3 : (if n < 0 then [45] else ([] : List UInt8)).length ≤ 1 := by split <;> simp
  simp only [List.length_append, List.length_cons, List.length_nil]
  omega
theorem baL_self (s : ByteArray) : baL s.data.toList = s := ba_of rfl

theorem print_self (x : Int) (s : ByteArray) (h : printR x = (s.data.toList, 0)) (w : World) (hT : Tab w) :
    Calls Tryd.prog 13 #[.int .i64 x] w fun e w' => e = .returned (.tuple #[.string s, .int .i64 0]) ∧ Below w.heap.size w w' := by
  have h2 := print_at x _ h w hT
  have e : strV (s.data.toList, (0 : Int)) = .tuple #[.string s, .int .i64 0] := by
    rw [strV, show baL ((s.data.toList, (0 : Int)) : List UInt8 × Int).1 = s from baL_self s]
  rwa [e] at h2
set_option maxHeartbeats 4000000 in
theorem back_walk (n : Int) (hn : -2147483648 ≤ n ∧ n ≤ 2147483647) (s : ByteArray) (hs : s.size ≤ maxLen) (w : World) (hT : Tab w) :
    Calls Tryd.prog 5 #[.int .i32 n, .string s] w fun e w' => e = .returned (.bool true) ∧ Below w.heap.size w w' := by
  obtain ⟨l0, u0⟩ := hn
  have HT := Lib.hid hT
  obtain ⟨st, hst⟩ : ∃ st, baL (printR n).1 = st := ⟨_, rfl⟩
  obtain ⟨pe, hpe⟩ : ∃ pe, (printR n).2 = pe := ⟨_, rfl⟩
  have C1 := Lib.hid (print_any n)
  rw [strV, hst, hpe] at C1
  have first : (¬ isLen n = true ∧ pe = 2 ∧ (!st.toList.isEmpty) = false) ∨ (isLen n = true ∧ pe = 0 ∧ parseR st.data.toList = (n, 0) ∧ st.size ≤ 100) := by
    by_cases h : isLen n = true
    · right
      have e : printR n = (printT n, 0) := by rw [printR, if_pos h]
      rw [e] at hst hpe
      have e2 : st.data.toList = printT n := by rw [← hst]; rfl
      refine ⟨h, hpe.symm, ?_, ?_⟩
      · rw [e2]; exact parse_print n h (by have := printT_len h; omega)
      · rw [← size_list, e2]; exact printT_len h
    · left
      have e : printR n = ([], 2) := by rw [printR, if_neg h]
      rw [e] at hst hpe
      refine ⟨h, hpe.symm, ?_⟩
      rw [← hst, ByteArray.toList_eq]; rfl
  obtain ⟨x, hx⟩ : ∃ x, parseR s.data.toList = x := ⟨_, rfl⟩
  have second : 40 < s.size ∨ (s.size ≤ 40 ∧ ((x.1 = 0 ∧ x.2 = 2) ∨ (x.1 = 0 ∧ x.2 = 3) ∨ (x.2 = 0 ∧ printR x.1 = (s.data.toList, 0)))) := by
    by_cases h40 : 40 < s.size
    · exact .inl h40
    · refine .inr ⟨by omega, ?_⟩
      rcases print_parse (x := x.1) (e := x.2) (by rw [hx]) with ⟨e1, e2, e3⟩ | ⟨e1, e2 | e2 | ⟨e2, e3⟩⟩
      · right; right; exact ⟨e1, by rw [printR, if_pos e2, e3]⟩
      · left; exact ⟨e1, e2⟩
      · right; left; exact ⟨e1, e2⟩
      · rw [size_list] at e3; omega
  have C3 := Lib.hid (parse_at s x hx hs)
  clear hx hst hpe hT
  obtain ⟨x1, x2⟩ := x
  unfold maxLen at hs
  rcases first with ⟨f1, rfl, f2⟩ | ⟨f1, rfl, f2, f3⟩
  · have hnl : n < -1073741824 ∨ (-1073741824 ≤ n ∧ 1073741824 < n) := by
      have : ¬ (-1073741824 ≤ n ∧ n ≤ 1073741824) := fun h => f1 (isLen_of h.1 h.2)
      omega
    clear f1
    rcases hnl with g1 | ⟨g0, g1⟩
    all_goals
      rcases second with k1 | ⟨k1, ⟨rfl, rfl⟩ | ⟨rfl, rfl⟩ | ⟨rfl, k2⟩⟩
      · go_enter Tryd.func5, Tryd.ntmps5
        go_wp2_with fail
        refine (C1.out _ HT.out).mono ?_
        rintro e w1 ⟨rfl, q1⟩
        have B1 := Lib.hid q1
        clear q1
        go_wp2_with fail
        refine (awake_any _ (HT.out.below B1.out)).mono ?_
        rintro e w9 ⟨rfl, q9⟩
        have B9 := Lib.hid (below_seq B1.out q9 (Nat.le_refl _))
        clear q9
        go_wp2
        go_ret
        exact ⟨rfl, B9.out⟩
      · go_enter Tryd.func5, Tryd.ntmps5
        go_wp2_with fail
        refine (C1.out _ HT.out).mono ?_
        rintro e w1 ⟨rfl, q1⟩
        have B1 := Lib.hid q1
        clear q1
        go_wp2_with fail
        refine (C3.out _).mono ?_
        rintro e w3 ⟨rfl, q3⟩
        have B3 := Lib.hid (below_seq B1.out q3 (Nat.le_refl _))
        clear q3
        go_wp2_with fail
        refine (awake_any _ (HT.out.below B3.out)).mono ?_
        rintro e w9 ⟨rfl, q9⟩
        have B9 := Lib.hid (below_seq B3.out q9 (Nat.le_refl _))
        clear q9
        go_wp2
        go_ret
        exact ⟨rfl, B9.out⟩
      · go_enter Tryd.func5, Tryd.ntmps5
        go_wp2_with fail
        refine (C1.out _ HT.out).mono ?_
        rintro e w1 ⟨rfl, q1⟩
        have B1 := Lib.hid q1
        clear q1
        go_wp2_with fail
        refine (C3.out _).mono ?_
        rintro e w3 ⟨rfl, q3⟩
        have B3 := Lib.hid (below_seq B1.out q3 (Nat.le_refl _))
        clear q3
        go_wp2_with fail
        refine (awake_any _ (HT.out.below B3.out)).mono ?_
        rintro e w9 ⟨rfl, q9⟩
        have B9 := Lib.hid (below_seq B3.out q9 (Nat.le_refl _))
        clear q9
        go_wp2
        go_ret
        exact ⟨rfl, B9.out⟩
      · have C4 := Lib.hid (print_self x1 s k2)
        clear k2
        go_enter Tryd.func5, Tryd.ntmps5
        go_wp2_with fail
        refine (C1.out _ HT.out).mono ?_
        rintro e w1 ⟨rfl, q1⟩
        have B1 := Lib.hid q1
        clear q1
        go_wp2_with fail
        refine (C3.out _).mono ?_
        rintro e w3 ⟨rfl, q3⟩
        have B3 := Lib.hid (below_seq B1.out q3 (Nat.le_refl _))
        clear q3
        go_wp2_with fail
        refine (C4.out _ (HT.out.below B3.out)).mono ?_
        rintro e w4 ⟨rfl, q4⟩
        have B4 := Lib.hid (below_seq B3.out q4 (Nat.le_refl _))
        clear q4
        go_wp2_with fail
        refine (awake_any _ (HT.out.below B4.out)).mono ?_
        rintro e w9 ⟨rfl, q9⟩
        have B9 := Lib.hid (below_seq B4.out q9 (Nat.le_refl _))
        clear q9
        go_wp2
        go_ret
        exact ⟨rfl, B9.out⟩
  · have hb := isLen_bd f1
    obtain ⟨g0, g1⟩ := hb
    have C2 := Lib.hid (parse_at st (n, 0) f2 (by unfold maxLen; omega))
    clear f1 f2 f3
    rcases second with k1 | ⟨k1, ⟨rfl, rfl⟩ | ⟨rfl, rfl⟩ | ⟨rfl, k2⟩⟩
    · go_enter Tryd.func5, Tryd.ntmps5
      go_wp2_with fail
      refine (C1.out _ HT.out).mono ?_
      rintro e w1 ⟨rfl, q1⟩
      have B1 := Lib.hid q1
      clear q1
      go_wp2_with fail
      refine (C2.out _).mono ?_
      rintro e w2 ⟨rfl, q2⟩
      have B2 := Lib.hid (below_seq B1.out q2 (Nat.le_refl _))
      clear q2
      go_wp2_with fail
      refine (awake_any _ (HT.out.below B2.out)).mono ?_
      rintro e w9 ⟨rfl, q9⟩
      have B9 := Lib.hid (below_seq B2.out q9 (Nat.le_refl _))
      clear q9
      go_wp2
      go_ret
      exact ⟨rfl, B9.out⟩
    · go_enter Tryd.func5, Tryd.ntmps5
      go_wp2_with fail
      refine (C1.out _ HT.out).mono ?_
      rintro e w1 ⟨rfl, q1⟩
      have B1 := Lib.hid q1
      clear q1
      go_wp2_with fail
      refine (C2.out _).mono ?_
      rintro e w2 ⟨rfl, q2⟩
      have B2 := Lib.hid (below_seq B1.out q2 (Nat.le_refl _))
      clear q2
      go_wp2_with fail
      refine (C3.out _).mono ?_
      rintro e w3 ⟨rfl, q3⟩
      have B3 := Lib.hid (below_seq B2.out q3 (Nat.le_refl _))
      clear q3
      go_wp2_with fail
      refine (awake_any _ (HT.out.below B3.out)).mono ?_
      rintro e w9 ⟨rfl, q9⟩
      have B9 := Lib.hid (below_seq B3.out q9 (Nat.le_refl _))
      clear q9
      go_wp2
      go_ret
      exact ⟨rfl, B9.out⟩
    · go_enter Tryd.func5, Tryd.ntmps5
      go_wp2_with fail
      refine (C1.out _ HT.out).mono ?_
      rintro e w1 ⟨rfl, q1⟩
      have B1 := Lib.hid q1
      clear q1
      go_wp2_with fail
      refine (C2.out _).mono ?_
      rintro e w2 ⟨rfl, q2⟩
      have B2 := Lib.hid (below_seq B1.out q2 (Nat.le_refl _))
      clear q2
      go_wp2_with fail
      refine (C3.out _).mono ?_
      rintro e w3 ⟨rfl, q3⟩
      have B3 := Lib.hid (below_seq B2.out q3 (Nat.le_refl _))
      clear q3
      go_wp2_with fail
      refine (awake_any _ (HT.out.below B3.out)).mono ?_
      rintro e w9 ⟨rfl, q9⟩
      have B9 := Lib.hid (below_seq B3.out q9 (Nat.le_refl _))
      clear q9
      go_wp2
      go_ret
      exact ⟨rfl, B9.out⟩
    · have C4 := Lib.hid (print_self x1 s k2)
      clear k2
      go_enter Tryd.func5, Tryd.ntmps5
      go_wp2_with fail
      refine (C1.out _ HT.out).mono ?_
      rintro e w1 ⟨rfl, q1⟩
      have B1 := Lib.hid q1
      clear q1
      go_wp2_with fail
      refine (C2.out _).mono ?_
      rintro e w2 ⟨rfl, q2⟩
      have B2 := Lib.hid (below_seq B1.out q2 (Nat.le_refl _))
      clear q2
      go_wp2_with fail
      refine (C3.out _).mono ?_
      rintro e w3 ⟨rfl, q3⟩
      have B3 := Lib.hid (below_seq B2.out q3 (Nat.le_refl _))
      clear q3
      go_wp2_with fail
      refine (C4.out _ (HT.out.below B3.out)).mono ?_
      rintro e w4 ⟨rfl, q4⟩
      have B4 := Lib.hid (below_seq B3.out q4 (Nat.le_refl _))
      clear q4
      go_wp2_with fail
      refine (awake_any _ (HT.out.below B4.out)).mono ?_
      rintro e w9 ⟨rfl, q9⟩
      have B9 := Lib.hid (below_seq B4.out q9 (Nat.le_refl _))
      clear q9
      go_wp2
      go_ret
      exact ⟨rfl, B9.out⟩
theorem back_law (a0 : Int) (s1 : ByteArray) (w0 : (Lit.int .i32 a0).wf = true) (w1 : s1.size ≤ maxLen) (w : World) (hT : Tab w) :
    Calls Tryd.prog 5 #[.int .i32 a0, .string s1] w fun e w' => e = .returned (.bool true) ∧ Below w.heap.size w w' :=
  back_walk a0 (wf_i32 w0) s1 w1 w hT
end Go.Proofs.YtkiaiiepfphllaaDoor
