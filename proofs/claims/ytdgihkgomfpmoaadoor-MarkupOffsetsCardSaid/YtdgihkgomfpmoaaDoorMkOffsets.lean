/- MarkupOffsets: the law's walk. -/
import Derived.Test.YtdgihkgomfpmoaaDoorMkLossless
namespace Go.Proofs.YtdgihkgomfpmoaaDoor
set_option linter.unusedSimpArgs false
set_option linter.unusedVariables false
set_option maxRecDepth 100000
open Go.RowKit Go.Deep

set_option maxHeartbeats 4000000 in
theorem offsets_law (H : MkOk) (s : Bs) (w : World) [T w] (hs : s.length ≤ maxLen) :
    Calls Tryd.prog 4 #[sV s] w fun e w' => e = .returned (.bool true) ∧ Below w.heap.size w w' := by
  have hsz : (baL s).size = s.length := baL_size s
  obtain ⟨r, hr⟩ : ∃ r, scanR s = r := ⟨_, rfl⟩
  obtain ⟨A, e⟩ := r
  have HSC := Lib.hid (fun (W : World) [T W] => scan_at H s A e hr hs W)
  have HA := Lib.hid (fun (W : World) [T W] => awake_any H W)
  by_cases h60 : 60 < s.length
  · have hd : decide ((60 : Int) < (s.length : Int)) = true := decide_eq_true (by omega)
    clear hs hr
    go_enter Tryd.func4, Tryd.ntmps4
    go_wp2_with fail
    refine (HSC.out w).mono ?_
    rintro e' w2 ⟨u, rfl, hu, h2⟩
    have B2 := Lib.hid h2
    try have tB2 := T.below B2.out
    obtain ⟨ua, uc, rfl⟩ := hu.slice
    clear h2 hu
    go_wp2_with fail
    refine (HA.out w2).mono ?_
    rintro e' w8 ⟨rfl, h8⟩
    have B8 := Lib.hid (below_then B2.out h8)
    try have tB8 := T.below B8.out
    clear h8
    go_wp2
    go_ret
    exact ⟨rfl, B8.out⟩
  · have hd : decide ((60 : Int) < (s.length : Int)) = false := decide_eq_false (by omega)
    by_cases he : e = 0
    · subst he
      obtain ⟨q1, q2⟩ := scan_b hr (by omega)
      have HF := Lib.hid (fun i (hi : i < s.length) => find_at hr i hi)
      have HFC := Lib.hid (fun i k f (h : findR A i = (k, f)) (hi : I64 i) u (W : World) [T W] (hv : LexAt W u A) => find_at' H A i k f h q1 hi u W hv)
      have HF1 := Lib.hid (find_no hr (s.length : Nat) (.inr (Int.le_refl _)))
      have HF2 := Lib.hid (find_no hr (-1) (.inl (by omega)))
      have H1 := Lib.hid (fun h0 => first_o hr h0)
      have hAl : A.length ≤ 60 := by omega
      clear hs hr q1 q2
      go_enter Tryd.func4, Tryd.ntmps4
      go_wp2_with fail
      refine (HSC.out w).mono ?_
      rintro e' w2 ⟨u, rfl, hu, h2⟩
      have B2 := Lib.hid h2
      try have tB2 := T.below B2.out
      have U2 := Lib.hid hu
      try have tU2 := T.below U2.out
      obtain ⟨ua, uc, rfl⟩ := hu.slice
      clear h2 hu
      go_wp2
      go_loopw [27] (fun iv wr => ∃ i : Nat, i ≤ s.length ∧ iv = .int .i64 i ∧ Below w2.heap.size w2 wr) (fun iv _ => s.length - (intOf iv).toNat)
      case atStart => exact ⟨0, Nat.zero_le _, rfl, Below.refl _ _⟩
      case round =>
        obtain ⟨i, hi, rfl, hB⟩ := hrel
        obtain ⟨wk, rfl⟩ : ∃ x, x = wr := ⟨_, rfl⟩
        try have twk : T wk := T.below hB
        by_cases hlt : i < s.length
        · obtain ⟨k, hf, hk, k1, k2⟩ := HF.out i hlt
          replace k1 := k1 hk
          have FC := Lib.hid (HFC.out i k 0 hf (by unfold I64; omega) _ wk (U2.out.below hB))
          have i1 : (i : Int) < (s.length : Int) := by omega
          have K1 := Lib.hid k1
          have K2 := Lib.hid k2
          clear hf k1 k2
          go_wp2_with fail
          refine FC.out.mono ?_
          rintro e' w3 ⟨rfl, h3⟩
          have hB3 := below_then hB h3
          obtain ⟨b, off, e1, hb, _, _, _, c4⟩ := U2.out.elem hk
          subst e1
          have d4 := (hB3.cell (p := ⟨b, off + k * 4 + 3, none⟩) hb).trans c4
          have hk0 : decide ((k : Int) < 0) = false := decide_eq_false (by omega)
          have hk1 : decide ((A.length : Int) ≤ (k : Int)) = false := decide_eq_false (by omega)
          have hk2 : (0 : Int) ≤ (k : Int) := by omega
          have hk3 : (k : Int) < (A.length : Int) := by omega
          have hwk : IntKind.i64.wrap ((k : Int) + 1) = ((k + 1 : Nat) : Int) := by rw [show (k : Int) + 1 = ((k + 1 : Nat) : Int) by omega]; exact IntWalk.i64_in _ (by omega)
          obtain ⟨o, ho⟩ : ∃ o, A[k].o = o := ⟨_, rfl⟩
          have hle : decide ((i : Int) < o) = false := decide_eq_false (by have := K1.out; rw [ho] at this; omega)
          rw [ho] at d4
          have HB3 := Lib.hid hB3
          try have tHB3 := T.below HB3.out
          obtain ⟨m, hm⟩ : ∃ m, k + 1 = m := ⟨_, rfl⟩
          rw [hm] at hwk
          by_cases hn : m < A.length
          · have hn1 : k + 1 < A.length := by omega
            obtain ⟨b', off', e1, hb', _, _, _, c5⟩ := U2.out.elem hn1
            cases e1
            have d5 := (hB3.cell (p := ⟨b, off + (k + 1) * 4 + 3, none⟩) hb').trans c5
            obtain ⟨o2, ho2⟩ : ∃ o, A[k + 1].o = o := ⟨_, rfl⟩
            have hle2 : decide (o2 ≤ (i : Int)) = false := decide_eq_false (by have := K2.out hn1; rw [ho2] at this; omega)
            rw [ho2, hm] at d5
            have hm1 : decide ((m : Int) < (A.length : Int)) = true := decide_eq_true (by omega)
            have hm2 : (0 : Int) ≤ (m : Int) := by omega
            have hm3 : (m : Int) < (A.length : Int) := by omega
            clear ho ho2 hm c4 c5 hB h3 hB3 hb'
            go_wp2
            go_roundw
            case rel => exact ⟨i + 1, by omega, by go_num, HB3.out⟩
            case measure => simp [intOf]; omega
          · have hm1 : decide ((m : Int) < (A.length : Int)) = false := decide_eq_false (by omega)
            have hm4 : ¬ (m : Int) < (A.length : Int) := by omega
            clear ho hm c4 hB h3 hB3
            go_wp2
            go_roundw
            case rel => exact ⟨i + 1, by omega, by go_num, HB3.out⟩
            case measure => simp [intOf]; omega
        · obtain rfl : i = s.length := by omega
          have HB := Lib.hid hB
          try have tHB := T.below HB.out
          have F1 := Lib.hid (fun (W : World) [T W] (hv : LexAt W (.slice ua A.length uc) A) => HFC.out (s.length : Nat) 0 2 HF1.out (by unfold I64; omega) _ W hv)
          have F2 := Lib.hid (fun (W : World) [T W] (hv : LexAt W (.slice ua A.length uc) A) => HFC.out (-1) 0 2 HF2.out (by unfold I64; omega) _ W hv)
          by_cases h0 : 0 < A.length
          · have g0 : decide ((0 : Int) < (A.length : Int)) = true := decide_eq_true (by omega)
            have g1 : (0 : Int) < (A.length : Int) := by omega
            obtain ⟨b, off, e1, hb, _, _, _, c4⟩ := U2.out.elem h0
            subst e1
            have d4 := (hB.cell (p := ⟨b, off + 0 * 4 + 3, none⟩) hb).trans c4
            rw [H1.out h0, Nat.zero_mul, Nat.add_zero] at d4
            clear c4 hB
            go_wp2_with fail
            refine (F1.out wk (U2.out.below HB.out)).mono ?_
            rintro e' w4 ⟨rfl, h4⟩
            have B4 := Lib.hid (below_then HB.out h4)
            try have tB4 := T.below B4.out
            clear h4 d4
            go_wp2_with fail
            refine (F2.out w4 (U2.out.below B4.out)).mono ?_
            rintro e' w5 ⟨rfl, h5⟩
            have B5 := Lib.hid (below_then B4.out h5)
            try have tB5 := T.below B5.out
            clear h5
            go_wp2_with fail
            refine (HA.out w5).mono ?_
            rintro e' w8 ⟨rfl, h8⟩
            have B8 := Lib.hid (below_then B2.out (below_then B5.out h8))
            try have tB8 := T.below B8.out
            clear h8
            go_wp2
            go_ret
            exact ⟨rfl, B8.out⟩
          · have g0 : decide ((0 : Int) < (A.length : Int)) = false := decide_eq_false (by omega)
            have g1 : ¬ (0 : Int) < (A.length : Int) := by omega
            clear hB
            go_wp2_with fail
            refine (F1.out wk (U2.out.below HB.out)).mono ?_
            rintro e' w4 ⟨rfl, h4⟩
            have B4 := Lib.hid (below_then HB.out h4)
            try have tB4 := T.below B4.out
            clear h4
            go_wp2_with fail
            refine (F2.out w4 (U2.out.below B4.out)).mono ?_
            rintro e' w5 ⟨rfl, h5⟩
            have B5 := Lib.hid (below_then B4.out h5)
            try have tB5 := T.below B5.out
            clear h5
            go_wp2_with fail
            refine (HA.out w5).mono ?_
            rintro e' w8 ⟨rfl, h8⟩
            have B8 := Lib.hid (below_then B2.out (below_then B5.out h8))
            try have tB8 := T.below B8.out
            clear h8
            go_wp2
            go_ret
            exact ⟨rfl, B8.out⟩
    · have he0 : (e == 0) = false := by simpa using he
      have he1 : (e != 0) = true := by simpa using he
      clear hs hr he
      go_enter Tryd.func4, Tryd.ntmps4
      go_wp2_with fail
      refine (HSC.out w).mono ?_
      rintro e' w2 ⟨u, rfl, hu, h2⟩
      have B2 := Lib.hid h2
      try have tB2 := T.below B2.out
      obtain ⟨ua, uc, rfl⟩ := hu.slice
      clear h2 hu
      go_wp2_with fail
      refine (HA.out w2).mono ?_
      rintro e' w8 ⟨rfl, h8⟩
      have B8 := Lib.hid (below_then B2.out h8)
      try have tB8 := T.below B8.out
      clear h8
      go_wp2
      go_ret
      exact ⟨rfl, B8.out⟩
theorem offsets_w (H : MkOk) (w : World) [T w] (s : ByteArray) (hs : s.size ≤ maxLen) :
    Calls Tryd.prog 4 #[.string s] w fun e w' => e = .returned (.bool true) ∧ Below w.heap.size w w' := by
  have := offsets_law H s.data.toList w hs
  unfold sV at this
  rwa [baL_list] at this
end Go.Proofs.YtdgihkgomfpmoaaDoor
