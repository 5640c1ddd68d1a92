/- The reference's Parse of layer 2, a text with a sign. -/
import Derived.Test.YtkiaiiepfphllaaDoorFpRefRead
namespace Go.Proofs.YtkiaiiepfphllaaDoor
set_option linter.unusedSimpArgs false
set_option linter.unusedVariables false
set_option maxRecDepth 100000
open Go.RowKit

set_option maxHeartbeats 4000000 in
theorem refParse_neg (s : ByteArray) (k : Nat) (h : s.size = k + 2) (hk : 1 ≤ k) (h4 : s.size ≤ 40) (hu : (s.extract k s.size).data.toList = [112, 116]) (hn : isNeg (s.extract 0 k).data.toList = true) (w : World) :
    Calls Tryd.prog 12 #[.string s] w fun e w' => e = .returned (pairV (parseR s.data.toList)) ∧ w = w' := by
  have hl := unit_at s k h
  rw [hu] at hl
  have hk2 : (s.size : Int) - 2 = (k : Int) := by omega
  have hks : k ≤ s.size := by omega
  have hb : ((s.extract k s.size).toList == [112, 116]) = true := by rw [ByteArray.toList_eq]; simpa using hu
  have hsz0 : (s.extract 0 k).size = k := by rw [ByteArray.size_extract]; omega
  obtain ⟨B, eB⟩ : ∃ B, s.extract 0 k = B := ⟨_, rfl⟩
  rw [eB] at hsz0 hn hl
  have h0 : 0 < B.size := by omega
  have hcons := cons_at B h0
  have h45 : B[0] = 45 := by
    by_cases e : B[0] = 45
    · exact e
    · have := (neg_not (a := B.data.toList) (by rw [hcons]; simpa using e)).1
      rw [hn] at this; exact absurd this (by simp)
  have hneg : ((B[0].toNat : Int) == 45) = true := byte_is h45
  have hsz : (B.extract 1 B.size).size = k - 1 := by rw [ByteArray.size_extract]; omega
  obtain ⟨A, eA⟩ : ∃ A, B.extract 1 B.size = A := ⟨_, rfl⟩
  have hA : amtOf B.data.toList = A.data.toList := by
    rw [← eA, ext_list, List.drop_one, List.take_of_length_le (by rw [List.length_tail, size_list]; exact Nat.le_refl _)]
    conv => lhs; rw [hcons, h45, (neg_cons _).2]
  rw [eA] at hsz
  have hB1 : 1 ≤ B.size := by omega
  have HL := Lib.hid hl
  have HN := Lib.hid hn
  have HA := Lib.hid hA
  have HS := Lib.hid (show s.data.toList.length ≤ 65536 by rw [size_list]; omega)
  have h3 : 3 ≤ s.size := by omega
  have h5 : A.size ≤ 40 := by omega
  clear h hk hu hl hsz hsz0 hn hA hcons h45
  go_enter Tryd.func12, Tryd.ntmps12
  go_wp2
  go_loop [6, 7] (fun x i => ∃ k : Nat, k ≤ A.size ∧ i = .int .i64 k ∧ x = .int .i64 (min (numV (A.data.toList.take k)) 2147483648) ∧ allDig (A.data.toList.take k) = true) (fun _ i => A.size - (intOf i).toNat)
  case atStart => exact ⟨0, Nat.zero_le _, rfl, rfl, rfl⟩
  case round =>
    obtain ⟨n, hk, rfl, rfl, hall⟩ := hrel
    have N0 := numV_nonneg hall
    obtain ⟨N, hN⟩ : ∃ N, numV (A.data.toList.take n) = N := ⟨_, rfl⟩
    have HN1 := Lib.hid hN
    have HD := Lib.hid hall
    rw [hN] at N0 ⊢
    obtain ⟨x, hx⟩ : ∃ x, min N 2147483648 = x := ⟨_, rfl⟩
    have x0 : 0 ≤ x := by omega
    have x1 : x ≤ 2147483648 := by omega
    have HX := Lib.hid hx
    rw [hx]
    clear hall hN hx
    by_cases hlt : n < A.size
    · by_cases hc : digI (A[n].toNat : Int) = true
      · obtain ⟨c0, c1⟩ := digI_bd hc
        have HC := Lib.hid hc
        go_wp2_with (go_at_call 37; refine (refDigit_any _ _).mono ?_; rintro e w' ⟨rfl, rfl⟩)
        go_round
        case rel =>
          refine ⟨n + 1, by omega, by go_num, ?_, ?_⟩
          · rw [take_dig A n hlt, numV_snoc, HN1.out, ← HX.out, min_step N0 (by omega)]
          · rw [take_dig A n hlt, allDig_append, HD.out]; simpa [allDig] using hc
        case measure => simp [intOf]; omega
      · have hc : digI (A[n].toNat : Int) = false := by simpa using hc
        obtain ⟨P, eP⟩ : ∃ P, A.extract n A.size = P := ⟨_, rfl⟩
        have hPl : P.data.toList = A.data.toList.drop n := by
          rw [← eP, ext_list, List.take_of_length_le (by rw [List.length_drop, size_list]; exact Nat.le_refl _)]
        have hPs : P.size = A.size - n := by rw [← eP, ByteArray.size_extract]; omega
        have hP0 : 0 < P.size := by omega
        have hsplit : A.data.toList = A.data.toList.take n ++ P.data.toList := by rw [hPl, List.take_append_drop]
        have hnd : NoDig P.data.toList := by rw [hPl, drop_at A n hlt]; exact .inr ⟨_, _, rfl, hc⟩
        have HSP := Lib.hid hsplit
        have HND := Lib.hid hnd
        have hA0 : 0 < A.size := by omega
        have BAD := Lib.hid (fun hno : ¬ (wholeB (A.data.toList.take n) = true ∧ (P.data.toList = [] ∨ ∃ f, P.data.toList = 46 :: f ∧ fracB f = true)) => parse_no HL.out HS.out (form_not HA.out hsplit HD.out hnd hno))
        clear hPl hsplit hnd
        rcases (show n = 0 ∨ (2 ≤ n ∧ A[0] = 48) ∨ n = 1 ∨ (2 ≤ n ∧ A[0] ≠ 48) from ways48 A[0] n) with hw | ⟨hw, h48⟩ | hw | ⟨hw, h48⟩
        · subst hw
          have HR := Lib.hid (BAD.out (fun h => whole_zero A h.1))
          clear eP hPs hP0
          go_wp2_with (go_at_call 37; refine (refDigit_any _ _).mono ?_; rintro e w' ⟨rfl, rfl⟩)
          go_ret2
          exact ⟨ret_pair HR.out, rfl⟩
        · have HR := Lib.hid (BAD.out (fun h => whole_bad A n hA0 hk hw h48 h.1))
          have hb48 : ((A[0].toNat : Int) == 48) = true := byte_is h48
          clear eP hPs hP0 h48
          go_wp2_with (go_at_call 37; refine (refDigit_any _ _).mono ?_; rintro e w' ⟨rfl, rfl⟩)
          go_ret2
          exact ⟨ret_pair HR.out, rfl⟩
        · subst hw
          have HW := Lib.hid (whole_one A 1 hk rfl HD.out)
          have BD := Lib.hid (fun hno : ¬ (P.data.toList = [] ∨ ∃ f, P.data.toList = 46 :: f ∧ fracB f = true) => BAD.out (fun h => hno h.2))
          have hne : (P.toList == []) = false := by rw [ByteArray.toList_eq, cons_at P hP0]; rfl
          obtain ⟨q, hq1⟩ : ∃ q, P.size = q + 1 := ⟨P.size - 1, by omega⟩
          have hq : q < P.size := by omega
          have hqs : (P.size : Int) - 1 = (q : Int) := by omega
          have hpb : P.size ≤ 40 := by omega
          have HQ := Lib.hid hq1
          clear hq1 hPs BAD
          rcases ways5 P q hP0 hq with hp | ⟨hp, hp2⟩ | ⟨hp, hp2, hp4⟩ | ⟨hp, hp2, hp4, hp5⟩ | ⟨hp, hp2, hp4, hp5⟩
          · have HR := Lib.hid (BD.out (frac_no (h0 := hP0) (.inl hp)))
            have hp46 : ((P[0].toNat : Int) == 46) = false := byte_no hp
            have hp46n : ((P[0].toNat : Int) != 46) = true := byte_nno hp
            clear hp
            go_wp2_with (go_at_call 37; refine (refDigit_any _ _).mono ?_; rintro e w' ⟨rfl, rfl⟩)
            go_ret2
            exact ⟨ret_pair HR.out, rfl⟩
          · have HR := Lib.hid (BD.out (frac_no (h0 := hP0) (.inr (.inl hp2))))
            have hp46 : ((P[0].toNat : Int) == 46) = true := byte_is hp
            have hp46n : ((P[0].toNat : Int) != 46) = false := byte_nis hp
            clear hp
            go_wp2_with (go_at_call 37; refine (refDigit_any _ _).mono ?_; rintro e w' ⟨rfl, rfl⟩)
            go_ret2
            exact ⟨ret_pair HR.out, rfl⟩
          · have HR := Lib.hid (BD.out (frac_no (h0 := hP0) (.inr (.inr (.inl hp4)))))
            have hp46 : ((P[0].toNat : Int) == 46) = true := byte_is hp
            have hp46n : ((P[0].toNat : Int) != 46) = false := byte_nis hp
            clear hp
            go_wp2_with (go_at_call 37; refine (refDigit_any _ _).mono ?_; rintro e w' ⟨rfl, rfl⟩)
            go_ret2
            exact ⟨ret_pair HR.out, rfl⟩
          · have HR := Lib.hid (BD.out (frac_no (h0 := hP0) (.inr (.inr (.inr (.inl ⟨q, hq, HQ.out, hp2, hp5⟩))))))
            have hp46 : ((P[0].toNat : Int) == 46) = true := byte_is hp
            have hp46n : ((P[0].toNat : Int) != 46) = false := byte_nis hp
            have hq48 : ((P[q].toNat : Int) == 48) = true := byte_is hp5
            clear hp hp5
            go_wp2_with (go_at_call 37; refine (refDigit_any _ _).mono ?_; rintro e w' ⟨rfl, rfl⟩)
            go_ret2
            exact ⟨ret_pair HR.out, rfl⟩
          · have hp46 : ((P[0].toNat : Int) == 46) = true := byte_is hp
            have hp46n : ((P[0].toNat : Int) != 46) = false := byte_nis hp
            have hq48 : ((P[q].toNat : Int) == 48) = false := byte_no hp5
            have FY := Lib.hid (frac_yes (h0 := hP0) hp hp2 hp4 q hq HQ.out hp5)
            clear hp hp5
            go_wp2_with (go_at_call 37; refine (refDigit_any _ _).mono ?_; rintro e w' ⟨rfl, rfl⟩)
            go_loop [9, 10] (fun y i => ∃ j : Nat, j ≤ 3 ∧ i = .int .i64 ((j : Int) + 1) ∧ y = .int .i64 (numV ((pad3 P.data.toList.tail).take j)) ∧ allDig ((pad3 P.data.toList.tail).take j) = true) (fun _ i => 4 - (intOf i).toNat)
            case atStart => exact ⟨0, by omega, rfl, rfl, rfl⟩
            case round =>
              obtain ⟨j, hj, rfl, rfl, hall⟩ := hrel
              obtain ⟨y0, y1⟩ := numV_few (show ((pad3 P.data.toList.tail).take j).length ≤ 3 by rw [List.length_take]; omega) hall
              obtain ⟨y, hy⟩ : ∃ y, numV ((pad3 P.data.toList.tail).take j) = y := ⟨_, rfl⟩
              rw [hy] at y0 y1 ⊢
              have HY := Lib.hid hy
              have HAL := Lib.hid hall
              clear hy hall
              by_cases hj3 : j < 3
              · by_cases hjs : j + 1 < P.size
                · by_cases hcj : digI (P[j + 1].toNat : Int) = true
                  · obtain ⟨e0, e1⟩ := digI_bd hcj
                    go_wp2_with (go_at_call 37; refine (refDigit_any _ _).mono ?_; rintro e w' ⟨rfl, rfl⟩)
                    go_round
                    case rel => exact ⟨j + 1, by omega, by go_num, by rw [pad_dig P j hjs, numV_snoc, HY.out]; exact congrArg (Value.int .i64) (by omega), by rw [pad_dig P j hjs, allDig_append, HAL.out]; simpa [allDig] using hcj⟩
                    case measure => simp [intOf]; omega
                  · have hcj : digI (P[j + 1].toNat : Int) = false := by simpa using hcj
                    have HR := Lib.hid (BD.out (frac_no (h0 := hP0) (.inr (.inr (.inr (.inr ⟨j, hjs, hcj⟩))))))
                    go_wp2_with (go_at_call 37; refine (refDigit_any _ _).mono ?_; rintro e w' ⟨rfl, rfl⟩)
                    go_ret2
                    exact ⟨ret_pair HR.out, rfl⟩
                · go_wp2
                  go_round
                  case rel => exact ⟨j + 1, by omega, by go_num, by rw [pad_none P j hjs hj3, numV_snoc, HY.out]; exact congrArg (Value.int .i64) (by simp; omega), by rw [pad_none P j hjs hj3, allDig_append, HAL.out]; rfl⟩
                  case measure => simp [intOf]; omega
              · obtain rfl : j = 3 := by omega
                obtain ⟨f1, f2⟩ := FY.out HAL.out
                obtain ⟨out, hout⟩ : ∃ out, x * 1000 + y = out := ⟨_, rfl⟩
                obtain ⟨o0, G1, G2⟩ := parse_fin true out HL.out HS.out HA.out HN.out HSP.out HD.out HW.out f1 (by rw [HN1.out, HX.out, ← f2, HY.out, hout])
                have ob : out ≤ 2147483649000 := by omega
                clear f1 f2
                rcases (show out = 0 ∨ (0 < out ∧ 1073741824 < out) ∨ (0 < out ∧ out ≤ 1073741824) by omega) with hf | ⟨hf0, hf⟩ | ⟨hf0, hf⟩
                · have HR := Lib.hid (G1 rfl hf)
                  clear G1 G2
                  subst hf
                  go_wp2
                  go_ret2
                  exact ⟨ret_pair HR.out, rfl⟩
                · have HR := Lib.hid ((G2 (.inr hf0)).1 hf)
                  clear G1 G2
                  go_wp2
                  go_ret2
                  exact ⟨ret_pair HR.out, rfl⟩
                · have HR := Lib.hid ((G2 (.inr hf0)).2 hf)
                  clear G1 G2
                  go_wp2
                  go_ret2
                  exact ⟨ret_pair HR.out, rfl⟩
        · have HW := Lib.hid (whole_ok A n hA0 hk hw h48 HD.out)
          have hb48 : ((A[0].toNat : Int) == 48) = false := byte_no h48
          clear h48
          have BD := Lib.hid (fun hno : ¬ (P.data.toList = [] ∨ ∃ f, P.data.toList = 46 :: f ∧ fracB f = true) => BAD.out (fun h => hno h.2))
          have hne : (P.toList == []) = false := by rw [ByteArray.toList_eq, cons_at P hP0]; rfl
          obtain ⟨q, hq1⟩ : ∃ q, P.size = q + 1 := ⟨P.size - 1, by omega⟩
          have hq : q < P.size := by omega
          have hqs : (P.size : Int) - 1 = (q : Int) := by omega
          have hpb : P.size ≤ 40 := by omega
          have HQ := Lib.hid hq1
          clear hq1 hPs BAD
          rcases ways5 P q hP0 hq with hp | ⟨hp, hp2⟩ | ⟨hp, hp2, hp4⟩ | ⟨hp, hp2, hp4, hp5⟩ | ⟨hp, hp2, hp4, hp5⟩
          · have HR := Lib.hid (BD.out (frac_no (h0 := hP0) (.inl hp)))
            have hp46 : ((P[0].toNat : Int) == 46) = false := byte_no hp
            have hp46n : ((P[0].toNat : Int) != 46) = true := byte_nno hp
            clear hp
            go_wp2_with (go_at_call 37; refine (refDigit_any _ _).mono ?_; rintro e w' ⟨rfl, rfl⟩)
            go_ret2
            exact ⟨ret_pair HR.out, rfl⟩
          · have HR := Lib.hid (BD.out (frac_no (h0 := hP0) (.inr (.inl hp2))))
            have hp46 : ((P[0].toNat : Int) == 46) = true := byte_is hp
            have hp46n : ((P[0].toNat : Int) != 46) = false := byte_nis hp
            clear hp
            go_wp2_with (go_at_call 37; refine (refDigit_any _ _).mono ?_; rintro e w' ⟨rfl, rfl⟩)
            go_ret2
            exact ⟨ret_pair HR.out, rfl⟩
          · have HR := Lib.hid (BD.out (frac_no (h0 := hP0) (.inr (.inr (.inl hp4)))))
            have hp46 : ((P[0].toNat : Int) == 46) = true := byte_is hp
            have hp46n : ((P[0].toNat : Int) != 46) = false := byte_nis hp
            clear hp
            go_wp2_with (go_at_call 37; refine (refDigit_any _ _).mono ?_; rintro e w' ⟨rfl, rfl⟩)
            go_ret2
            exact ⟨ret_pair HR.out, rfl⟩
          · have HR := Lib.hid (BD.out (frac_no (h0 := hP0) (.inr (.inr (.inr (.inl ⟨q, hq, HQ.out, hp2, hp5⟩))))))
            have hp46 : ((P[0].toNat : Int) == 46) = true := byte_is hp
            have hp46n : ((P[0].toNat : Int) != 46) = false := byte_nis hp
            have hq48 : ((P[q].toNat : Int) == 48) = true := byte_is hp5
            clear hp hp5
            go_wp2_with (go_at_call 37; refine (refDigit_any _ _).mono ?_; rintro e w' ⟨rfl, rfl⟩)
            go_ret2
            exact ⟨ret_pair HR.out, rfl⟩
          · have hp46 : ((P[0].toNat : Int) == 46) = true := byte_is hp
            have hp46n : ((P[0].toNat : Int) != 46) = false := byte_nis hp
            have hq48 : ((P[q].toNat : Int) == 48) = false := byte_no hp5
            have FY := Lib.hid (frac_yes (h0 := hP0) hp hp2 hp4 q hq HQ.out hp5)
            clear hp hp5
            go_wp2_with (go_at_call 37; refine (refDigit_any _ _).mono ?_; rintro e w' ⟨rfl, rfl⟩)
            go_loop [9, 10] (fun y i => ∃ j : Nat, j ≤ 3 ∧ i = .int .i64 ((j : Int) + 1) ∧ y = .int .i64 (numV ((pad3 P.data.toList.tail).take j)) ∧ allDig ((pad3 P.data.toList.tail).take j) = true) (fun _ i => 4 - (intOf i).toNat)
            case atStart => exact ⟨0, by omega, rfl, rfl, rfl⟩
            case round =>
              obtain ⟨j, hj, rfl, rfl, hall⟩ := hrel
              obtain ⟨y0, y1⟩ := numV_few (show ((pad3 P.data.toList.tail).take j).length ≤ 3 by rw [List.length_take]; omega) hall
              obtain ⟨y, hy⟩ : ∃ y, numV ((pad3 P.data.toList.tail).take j) = y := ⟨_, rfl⟩
              rw [hy] at y0 y1 ⊢
              have HY := Lib.hid hy
              have HAL := Lib.hid hall
              clear hy hall
              by_cases hj3 : j < 3
              · by_cases hjs : j + 1 < P.size
                · by_cases hcj : digI (P[j + 1].toNat : Int) = true
                  · obtain ⟨e0, e1⟩ := digI_bd hcj
                    go_wp2_with (go_at_call 37; refine (refDigit_any _ _).mono ?_; rintro e w' ⟨rfl, rfl⟩)
                    go_round
                    case rel => exact ⟨j + 1, by omega, by go_num, by rw [pad_dig P j hjs, numV_snoc, HY.out]; exact congrArg (Value.int .i64) (by omega), by rw [pad_dig P j hjs, allDig_append, HAL.out]; simpa [allDig] using hcj⟩
                    case measure => simp [intOf]; omega
                  · have hcj : digI (P[j + 1].toNat : Int) = false := by simpa using hcj
                    have HR := Lib.hid (BD.out (frac_no (h0 := hP0) (.inr (.inr (.inr (.inr ⟨j, hjs, hcj⟩))))))
                    go_wp2_with (go_at_call 37; refine (refDigit_any _ _).mono ?_; rintro e w' ⟨rfl, rfl⟩)
                    go_ret2
                    exact ⟨ret_pair HR.out, rfl⟩
                · go_wp2
                  go_round
                  case rel => exact ⟨j + 1, by omega, by go_num, by rw [pad_none P j hjs hj3, numV_snoc, HY.out]; exact congrArg (Value.int .i64) (by simp; omega), by rw [pad_none P j hjs hj3, allDig_append, HAL.out]; rfl⟩
                  case measure => simp [intOf]; omega
              · obtain rfl : j = 3 := by omega
                obtain ⟨f1, f2⟩ := FY.out HAL.out
                obtain ⟨out, hout⟩ : ∃ out, x * 1000 + y = out := ⟨_, rfl⟩
                obtain ⟨o0, G1, G2⟩ := parse_fin true out HL.out HS.out HA.out HN.out HSP.out HD.out HW.out f1 (by rw [HN1.out, HX.out, ← f2, HY.out, hout])
                have ob : out ≤ 2147483649000 := by omega
                clear f1 f2
                rcases (show out = 0 ∨ (0 < out ∧ 1073741824 < out) ∨ (0 < out ∧ out ≤ 1073741824) by omega) with hf | ⟨hf0, hf⟩ | ⟨hf0, hf⟩
                · have HR := Lib.hid (G1 rfl hf)
                  clear G1 G2
                  subst hf
                  go_wp2
                  go_ret2
                  exact ⟨ret_pair HR.out, rfl⟩
                · have HR := Lib.hid ((G2 (.inr hf0)).1 hf)
                  clear G1 G2
                  go_wp2
                  go_ret2
                  exact ⟨ret_pair HR.out, rfl⟩
                · have HR := Lib.hid ((G2 (.inr hf0)).2 hf)
                  clear G1 G2
                  go_wp2
                  go_ret2
                  exact ⟨ret_pair HR.out, rfl⟩
    · have hsplit : A.data.toList = A.data.toList.take n ++ [] := by rw [List.append_nil, List.take_of_length_le (by rw [size_list]; omega)]
      have BAD := Lib.hid (fun hno : ¬ wholeB (A.data.toList.take n) = true => parse_no HL.out HS.out (form_not HA.out hsplit HD.out (.inl rfl) (fun h => hno h.1)))
      have HSP := Lib.hid hsplit
      clear hsplit
      have hways : n = 0 ∨ (2 ≤ n ∧ ∃ h : 0 < A.size, A[0] = 48) ∨ n = 1 ∨ (2 ≤ n ∧ ∃ h : 0 < A.size, A[0] ≠ 48) := by
        by_cases h : 0 < A.size
        · by_cases e : A[0] = 48
          · by_cases h2 : 2 ≤ n
            · exact .inr (.inl ⟨h2, h, e⟩)
            · omega
          · by_cases h2 : 2 ≤ n
            · exact .inr (.inr (.inr ⟨h2, h, e⟩))
            · omega
        · omega
      rcases hways with hw | ⟨hw, hA0, h48⟩ | hw | ⟨hw, hA0, h48⟩
      · subst hw
        have HR := Lib.hid (BAD.out (whole_zero A))
        go_wp2
        go_ret2
        exact ⟨ret_pair HR.out, rfl⟩
      · have HR := Lib.hid (BAD.out (whole_bad A n hA0 hk hw h48))
        have hb48 : ((A[0].toNat : Int) == 48) = true := byte_is h48
        clear h48
        go_wp2
        go_ret2
        exact ⟨ret_pair HR.out, rfl⟩
      · subst hw
        have HW := Lib.hid (whole_one A 1 hk rfl HD.out)
        have hnil : ((A.extract 1 A.size).toList == []) = true := by rw [ByteArray.toList_eq, ext_list, show A.size - 1 = 0 by omega]; rfl
        obtain ⟨out, hout⟩ : ∃ out, x * 1000 = out := ⟨_, rfl⟩
        obtain ⟨o0, G1, G2⟩ := parse_fin true out HL.out HS.out HA.out HN.out HSP.out HD.out HW.out (.inl rfl) (by rw [HN1.out, HX.out, hout, show numV (pad3 ([] : List UInt8).tail) = 0 from numV_zero3]; omega)
        have ob : out ≤ 2147483648000 := by omega
        rcases (show out = 0 ∨ (0 < out ∧ 1073741824 < out) ∨ (0 < out ∧ out ≤ 1073741824) by omega) with hf | ⟨hf0, hf⟩ | ⟨hf0, hf⟩
        · have HR := Lib.hid (G1 rfl hf)
          clear G1 G2
          subst hf
          go_wp2
          go_ret2
          exact ⟨ret_pair HR.out, rfl⟩
        · have HR := Lib.hid ((G2 (.inr hf0)).1 hf)
          clear G1 G2
          go_wp2
          go_ret2
          exact ⟨ret_pair HR.out, rfl⟩
        · have HR := Lib.hid ((G2 (.inr hf0)).2 hf)
          clear G1 G2
          go_wp2
          go_ret2
          exact ⟨ret_pair HR.out, rfl⟩
      · have HW := Lib.hid (whole_ok A n hA0 hk hw h48 HD.out)
        have hb48 : ((A[0].toNat : Int) == 48) = false := byte_no h48
        have hnil : ((A.extract n A.size).toList == []) = true := by rw [ByteArray.toList_eq, ext_list, show A.size - n = 0 by omega]; rfl
        obtain ⟨out, hout⟩ : ∃ out, x * 1000 = out := ⟨_, rfl⟩
        obtain ⟨o0, G1, G2⟩ := parse_fin true out HL.out HS.out HA.out HN.out HSP.out HD.out HW.out (.inl rfl) (by rw [HN1.out, HX.out, hout, show numV (pad3 ([] : List UInt8).tail) = 0 from numV_zero3]; omega)
        have ob : out ≤ 2147483648000 := by omega
        clear h48
        rcases (show out = 0 ∨ (0 < out ∧ 1073741824 < out) ∨ (0 < out ∧ out ≤ 1073741824) by omega) with hf | ⟨hf0, hf⟩ | ⟨hf0, hf⟩
        · have HR := Lib.hid (G1 rfl hf)
          clear G1 G2
          subst hf
          go_wp2
          go_ret2
          exact ⟨ret_pair HR.out, rfl⟩
        · have HR := Lib.hid ((G2 (.inr hf0)).1 hf)
          clear G1 G2
          go_wp2
          go_ret2
          exact ⟨ret_pair HR.out, rfl⟩
        · have HR := Lib.hid ((G2 (.inr hf0)).2 hf)
          clear G1 G2
          go_wp2
          go_ret2
          exact ⟨ret_pair HR.out, rfl⟩
end Go.Proofs.YtkiaiiepfphllaaDoor
