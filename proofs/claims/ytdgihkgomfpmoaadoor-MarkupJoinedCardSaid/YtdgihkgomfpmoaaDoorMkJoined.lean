/- MarkupJoined: the law's walk (written by gen_mkjoined.py). -/
import Derived.Test.YtdgihkgomfpmoaaDoorMkLossless
namespace Go.Proofs.YtdgihkgomfpmoaaDoor
set_option linter.unusedSimpArgs false
set_option linter.unusedVariables false
set_option maxRecDepth 100000
open Go.RowKit Go.Deep

theorem joined_apart {s t : Bs} {A B : List Lx} (hs : scanR s = (A, 0)) (ht : scanR t = (B, 0)) (hl : s.length + t.length ≤ 65536) (hn : ∀ (ha : A ≠ []) (hb : B ≠ []), ¬ ((A.getLast ha).k = 1 ∧ (B.head hb).k = 1)) :
    ∃ C, scanR (s ++ t) = (C, 0) ∧ strp C = strp A ++ strp B ∧ C = A ++ shiftL s.length B :=
  ⟨_, join_apart hs ht hl hn, by rw [strp_append, strp_shift], rfl⟩
theorem joined_text {s t : Bs} {A B : List Lx} (hs : scanR s = (A, 0)) (ht : scanR t = (B, 0)) (hl : s.length + t.length ≤ 65536) (ha : A ≠ []) (hb : B ≠ []) (h1 : (A.getLast ha).k = 1) (h2 : (B.head hb).k = 1) :
    ∃ C, scanR (s ++ t) = (C, 0) ∧ C.length + 1 = A.length + B.length ∧ strp C = strp A ++ strp B := by
  obtain ⟨y, N, rfl⟩ := List.exists_cons_of_ne_nil hb
  have hA := List.dropLast_concat_getLast ha
  generalize A.getLast ha = x at *
  generalize A.dropLast = M at *
  subst hA
  have h2 : y.k = 1 := h2
  refine ⟨_, join_text hs ht hl h1 h2, ?_, ?_⟩
  · simp [shiftL]; omega
  · rw [strp_append, strp_append, strp_shift]
    unfold strp
    simp [h1, h2]
theorem strip_of {s : Bs} {A : List Lx} (h : scanR s = (A, 0)) : stripR s = (strp A, 0) := by unfold stripR; rw [h]
theorem nn_str {a b : Bs} (h : a = b) : ((baL a).toList == (baL b).toList) = true := by rw [h, beq_self_eq_true]
set_option maxHeartbeats 8000000 in
theorem joined_law (H : MkOk) (s t : Bs) (w : World) [T w] (hs : s.length ≤ maxLen) (ht : t.length ≤ maxLen) :
    Calls Tryd.prog 5 #[sV s, sV t] w fun e w' => e = .returned (.bool true) ∧ Below w.heap.size w w' := by
  have hsz : (baL s).size = s.length := baL_size s
  have htz : (baL t).size = t.length := baL_size t
  have hadd : baL s ++ baL t = baL (s ++ t) := baL_append s t
  have HA := Lib.hid (fun (W : World) [T W] => awake_any H W)
  by_cases h1 : 200 < s.length
  · have hd : decide ((200 : Int) < (s.length : Int)) = true := decide_eq_true (by omega)
    clear hs ht
    go_enter Tryd.func5, Tryd.ntmps5
    go_wp2_with fail
    refine (HA.out w).mono ?_
    rintro e' w9 ⟨rfl, h9⟩
    have B9 := Lib.hid h9
    try have tB9 := T.below B9.out
    clear h9
    go_wp2
    go_ret
    exact ⟨rfl, B9.out⟩
  · have hd : decide ((200 : Int) < (s.length : Int)) = false := decide_eq_false (by omega)
    by_cases h2 : 200 < t.length
    · have hd2 : decide ((200 : Int) < (t.length : Int)) = true := decide_eq_true (by omega)
      clear hs ht
      go_enter Tryd.func5, Tryd.ntmps5
      go_wp2_with fail
      refine (HA.out w).mono ?_
      rintro e' w9 ⟨rfl, h9⟩
      have B9 := Lib.hid h9
      try have tB9 := T.below B9.out
      clear h9
      go_wp2
      go_ret
      exact ⟨rfl, B9.out⟩
    · have hd2 : decide ((200 : Int) < (t.length : Int)) = false := decide_eq_false (by omega)
      obtain ⟨r, hr⟩ : ∃ r, scanR s = r := ⟨_, rfl⟩
      obtain ⟨A, e⟩ := r
      obtain ⟨q, hq⟩ : ∃ r, scanR t = r := ⟨_, rfl⟩
      obtain ⟨B, f⟩ := q
      have HSA := Lib.hid (fun (W : World) [T W] => scan_at H s A e hr hs W)
      have HSB := Lib.hid (fun (W : World) [T W] => scan_at H t B f hq ht W)
      by_cases he : e = 0
      · subst he
        by_cases hf : f = 0
        · subst hf
          obtain ⟨a1, a2⟩ := scan_b hr (by omega)
          obtain ⟨b1, b2⟩ := scan_b hq (by omega)
          have hst : (s ++ t).length ≤ maxLen := by rw [List.length_append]; unfold maxLen; omega
          have HPA := Lib.hid (fun (W : World) [T W] => strip_at H s (strp A) 0 (strip_of hr) hs W)
          have HPB := Lib.hid (fun (W : World) [T W] => strip_at H t (strp B) 0 (strip_of hq) ht W)
          have hBo : ∀ x ∈ B, 0 ≤ x.o ∧ x.o ≤ 1000000 := fun x hx => by
            obtain ⟨z1, z2, z3⟩ := scan_iff.1 hq
            obtain ⟨_, _, h3, h4⟩ := val_mem B _ _ z2 x hx
            rw [z3] at h4
            omega
          have HSH := Lib.hid (fun v W (hv : LexAt W v B) => shifted_any B (by omega) s.length (by omega) hBo v W hv)
          have hAl : A.length ≤ 200 := by omega
          have hBl : B.length ≤ 200 := by omega
          have hfl : ([A, shiftL s.length B] : List (List Lx)).flatten = A ++ shiftL s.length B := by simp
          have HCAT := Lib.hid (fun v W (hv : LLAt W v [A, shiftL s.length B]) => concat_any [A, shiftL s.length B] (by simp) (by rw [hfl]; simp [shiftL]; omega) v W hv)
          have HSM := Lib.hid (fun C (h : C = A ++ shiftL s.length B) u v W (h1 : LexAt W u C) (h2 : LexAt W v C) => same_at C C true (decide_eq_true rfl) u v W h1 h2 (by rw [h]; simp [shiftL]; omega) (by rw [h]; simp [shiftL]; omega))
          have hsA : (strp A).length ≤ s.length := by have := (strip_kd (s := s) (by rw [hr])).2; rwa [strip_of hr] at this
          have hsB : (strp B).length ≤ t.length := by have := (strip_kd (s := t) (by rw [hq])).2; rwa [strip_of hq] at this
          have hzA : (baL (strp A)).size ≤ 200 := by rw [baL_size]; omega
          have hzB : (baL (strp B)).size ≤ 200 := by rw [baL_size]; omega
          have hzAB : ¬ 9223372036854775807 < (baL (strp A)).size + (baL (strp B)).size := by omega
          have c00 : ((0 : Int) == 0) = true := rfl
          by_cases hA0 : A.length = 0
          · obtain ⟨C, z1, z2, z3⟩ := joined_apart hr hq (by omega) (fun ha _ => absurd (List.length_eq_zero_iff.1 hA0) ha)
            have HSC := Lib.hid (fun (W : World) [T W] => scan_at H (s ++ t) _ 0 z1 hst W)
            have HPC := Lib.hid (fun (W : World) [T W] => strip_at H (s ++ t) _ 0 (strip_of z1) hst W)
            have hadd2 : baL (strp A) ++ baL (strp B) = baL (strp (C)) := by rw [z2, baL_append]
            have HFL := Lib.hid (hfl.trans z3.symm)
            have HSC2 := Lib.hid (HSM.out C z3)
            clear z3
            have gA : decide ((0 : Int) < (A.length : Int)) = false := decide_eq_false (by omega)
            have gA2 : ¬ (0 : Int) < (A.length : Int) := by omega
            have HA0 := Lib.hid hA0
            try have tHA0 := T.below HA0.out
            clear hA0
            clear hs ht hr hq a1 a2 b1 b2 hst hBo hfl z1 z2 hsA hsB
            go_enter Tryd.func5, Tryd.ntmps5
            go_wp2_with fail
            refine (HSA.out w).mono ?_
            rintro e' w1 ⟨ua, rfl, hu, h1⟩
            have B1 := Lib.hid h1
            try have tB1 := T.below B1.out
            have UA := Lib.hid hu
            try have tUA := T.below UA.out
            obtain ⟨aa, ca, rfl⟩ := hu.slice
            clear h1 hu
            go_wp2_with fail
            refine (HSB.out w1).mono ?_
            rintro e' w2 ⟨ub, rfl, hu, h2⟩
            have B2 := Lib.hid (below_then B1.out h2)
            try have tB2 := T.below B2.out
            have UB := Lib.hid hu
            try have tUB := T.below UB.out
            have UA2 := Lib.hid (UA.out.below h2)
            obtain ⟨ab, cb, rfl⟩ := hu.slice
            clear h2 hu
            go_wp2_with fail
            refine (HSC.out w2).mono ?_
            rintro e' w3 ⟨uc, rfl, hu, h3⟩
            have B3 := Lib.hid h3
            try have tB3 := T.below B3.out
            have UC := Lib.hid hu
            try have tUC := T.below UC.out
            obtain ⟨ac, cc, rfl⟩ := hu.slice
            clear h3 hu
            go_wp2_with fail
            refine (HPA.out w3).mono ?_
            rintro e' w4 ⟨rfl, h4⟩
            have B4 := Lib.hid h4
            try have tB4 := T.below B4.out
            clear h4
            go_wp2_with fail
            refine (HPB.out w4).mono ?_
            rintro e' w5 ⟨rfl, h5⟩
            have B5 := Lib.hid (below_then B4.out h5)
            try have tB5 := T.below B5.out
            clear h5
            go_wp2_with fail
            refine (HPC.out w5).mono ?_
            rintro e' w6 ⟨rfl, h6⟩
            have B6 := Lib.hid (below_then B5.out h6)
            try have tB6 := T.below B6.out
            have B36 := Lib.hid (below_then B3.out B6.out)
            try have tB36 := T.below B36.out
            have C6 := Lib.hid (UC.out.below B6.out)
            have A6 := Lib.hid (UA2.out.below B36.out)
            have Q6 := Lib.hid (UB.out.below B36.out)
            have W6 := Lib.hid (below_then B2.out B36.out)
            try have tW6 := T.below W6.out
            clear h6
            go_wp2_with fail
            refine (HSH.out _ w6 Q6.out).mono ?_
            rintro e' w7 ⟨us, rfl, hu, h7⟩
            have B7 := Lib.hid (below_then W6.out h7)
            try have tB7 := T.below B7.out
            have S7 := Lib.hid hu
            try have tS7 := T.below S7.out
            have C7 := Lib.hid (C6.out.below h7)
            have A7 := Lib.hid (A6.out.below h7)
            obtain ⟨ax, cx, rfl⟩ := hu.slice
            clear h7 hu
            go_wp2_with fail
            have hl7 := ll_lit w7 [.slice aa A.length ca, .slice ax (shiftL s.length B).length cx] [A, shiftL s.length B] rfl (fun j hj => by
              match j, hj with
              | 0, _ => exact A7.out
              | 1, _ => exact S7.out)
            have bA := alloc_below w7 (.cells #[.slice aa A.length ca, .slice ax (shiftL s.length B).length cx] 22)
            have B7a := Lib.hid (below_then B7.out bA)
            try have tB7a := T.below B7a.out
            have C7a := Lib.hid (C7.out.below bA)
            refine (HCAT.out _ _ hl7).mono ?_
            rintro e' w8 ⟨uq, rfl, hu, h8⟩
            have B8 := Lib.hid (below_then B7a.out h8)
            try have tB8 := T.below B8.out
            have C8 := Lib.hid (C7a.out.below h8)
            have Q8 := Lib.hid hu.lex
            clear h8 hu hl7 bA
            rw [HFL.out] at Q8
            go_wp2_with fail
            refine (HSC2.out _ _ w8 C8.out Q8.out).mono ?_
            rintro e' w10 ⟨rfl, h10⟩
            have B10 := Lib.hid (below_then B8.out h10)
            try have tB10 := T.below B10.out
            clear h10
            go_wp2_with fail
            refine (HA.out w10).mono ?_
            rintro e' w9 ⟨rfl, h9⟩
            have B9 := Lib.hid (below_then B10.out h9)
            try have tB9 := T.below B9.out
            clear h9
            go_wp2
            go_ret
            exact ⟨rfl, B9.out⟩
          · obtain ⟨m, hm⟩ : ∃ m, A.length = m + 1 := ⟨A.length - 1, by omega⟩
            have hAne : A ≠ [] := fun h => hA0 (by rw [h]; rfl)
            have hlast : ∀ h : m < A.length, A.getLast hAne = A[m] := fun h => by rw [List.getLast_eq_getElem]; congr 1; omega
            have hmA : m < A.length := by omega
            have gA : decide ((0 : Int) < (A.length : Int)) = true := decide_eq_true (by omega)
            have gA2 : (0 : Int) < (A.length : Int) := by omega
            by_cases hB0 : B.length = 0
            · obtain ⟨C, z1, z2, z3⟩ := joined_apart hr hq (by omega) (fun _ hb => absurd (List.length_eq_zero_iff.1 hB0) hb)
              have HSC := Lib.hid (fun (W : World) [T W] => scan_at H (s ++ t) _ 0 z1 hst W)
              have HPC := Lib.hid (fun (W : World) [T W] => strip_at H (s ++ t) _ 0 (strip_of z1) hst W)
              have hadd2 : baL (strp A) ++ baL (strp B) = baL (strp (C)) := by rw [z2, baL_append]
              have HFL := Lib.hid (hfl.trans z3.symm)
              have HSC2 := Lib.hid (HSM.out C z3)
              clear z3
              have gB : decide ((0 : Int) < (B.length : Int)) = false := decide_eq_false (by omega)
              have gB2 : ¬ (0 : Int) < (B.length : Int) := by omega
              have HB0 := Lib.hid hB0
              try have tHB0 := T.below HB0.out
              clear hA0 hB0 hlast hm hmA
              clear hs ht hr hq a1 a2 b1 b2 hst hBo hfl z1 z2 hsA hsB
              go_enter Tryd.func5, Tryd.ntmps5
              go_wp2_with fail
              refine (HSA.out w).mono ?_
              rintro e' w1 ⟨ua, rfl, hu, h1⟩
              have B1 := Lib.hid h1
              try have tB1 := T.below B1.out
              have UA := Lib.hid hu
              try have tUA := T.below UA.out
              obtain ⟨aa, ca, rfl⟩ := hu.slice
              clear h1 hu
              go_wp2_with fail
              refine (HSB.out w1).mono ?_
              rintro e' w2 ⟨ub, rfl, hu, h2⟩
              have B2 := Lib.hid (below_then B1.out h2)
              try have tB2 := T.below B2.out
              have UB := Lib.hid hu
              try have tUB := T.below UB.out
              have UA2 := Lib.hid (UA.out.below h2)
              obtain ⟨ab, cb, rfl⟩ := hu.slice
              clear h2 hu
              go_wp2_with fail
              refine (HSC.out w2).mono ?_
              rintro e' w3 ⟨uc, rfl, hu, h3⟩
              have B3 := Lib.hid h3
              try have tB3 := T.below B3.out
              have UC := Lib.hid hu
              try have tUC := T.below UC.out
              obtain ⟨ac, cc, rfl⟩ := hu.slice
              clear h3 hu
              go_wp2_with fail
              refine (HPA.out w3).mono ?_
              rintro e' w4 ⟨rfl, h4⟩
              have B4 := Lib.hid h4
              try have tB4 := T.below B4.out
              clear h4
              go_wp2_with fail
              refine (HPB.out w4).mono ?_
              rintro e' w5 ⟨rfl, h5⟩
              have B5 := Lib.hid (below_then B4.out h5)
              try have tB5 := T.below B5.out
              clear h5
              go_wp2_with fail
              refine (HPC.out w5).mono ?_
              rintro e' w6 ⟨rfl, h6⟩
              have B6 := Lib.hid (below_then B5.out h6)
              try have tB6 := T.below B6.out
              have B36 := Lib.hid (below_then B3.out B6.out)
              try have tB36 := T.below B36.out
              have C6 := Lib.hid (UC.out.below B6.out)
              have A6 := Lib.hid (UA2.out.below B36.out)
              have Q6 := Lib.hid (UB.out.below B36.out)
              have W6 := Lib.hid (below_then B2.out B36.out)
              try have tW6 := T.below W6.out
              clear h6
              go_wp2_with fail
              refine (HSH.out _ w6 Q6.out).mono ?_
              rintro e' w7 ⟨us, rfl, hu, h7⟩
              have B7 := Lib.hid (below_then W6.out h7)
              try have tB7 := T.below B7.out
              have S7 := Lib.hid hu
              try have tS7 := T.below S7.out
              have C7 := Lib.hid (C6.out.below h7)
              have A7 := Lib.hid (A6.out.below h7)
              obtain ⟨ax, cx, rfl⟩ := hu.slice
              clear h7 hu
              go_wp2_with fail
              have hl7 := ll_lit w7 [.slice aa A.length ca, .slice ax (shiftL s.length B).length cx] [A, shiftL s.length B] rfl (fun j hj => by
                match j, hj with
                | 0, _ => exact A7.out
                | 1, _ => exact S7.out)
              have bA := alloc_below w7 (.cells #[.slice aa A.length ca, .slice ax (shiftL s.length B).length cx] 22)
              have B7a := Lib.hid (below_then B7.out bA)
              try have tB7a := T.below B7a.out
              have C7a := Lib.hid (C7.out.below bA)
              refine (HCAT.out _ _ hl7).mono ?_
              rintro e' w8 ⟨uq, rfl, hu, h8⟩
              have B8 := Lib.hid (below_then B7a.out h8)
              try have tB8 := T.below B8.out
              have C8 := Lib.hid (C7a.out.below h8)
              have Q8 := Lib.hid hu.lex
              clear h8 hu hl7 bA
              rw [HFL.out] at Q8
              go_wp2_with fail
              refine (HSC2.out _ _ w8 C8.out Q8.out).mono ?_
              rintro e' w10 ⟨rfl, h10⟩
              have B10 := Lib.hid (below_then B8.out h10)
              try have tB10 := T.below B10.out
              clear h10
              go_wp2_with fail
              refine (HA.out w10).mono ?_
              rintro e' w9 ⟨rfl, h9⟩
              have B9 := Lib.hid (below_then B10.out h9)
              try have tB9 := T.below B9.out
              clear h9
              go_wp2
              go_ret
              exact ⟨rfl, B9.out⟩
            · have hBne : B ≠ [] := fun h => hB0 (by rw [h]; rfl)
              have hhead : ∀ h : 0 < B.length, B.head hBne = B[0] := fun h => by rw [List.head_eq_getElem]
              have hmB : 0 < B.length := by omega
              have gB : decide ((0 : Int) < (B.length : Int)) = true := decide_eq_true (by omega)
              have gB2 : (0 : Int) < (B.length : Int) := by omega
              have hwm : IntKind.i64.wrap ((A.length : Int) - 1) = (m : Int) := by rw [show (A.length : Int) - 1 = (m : Int) by omega]; exact IntWalk.i64_in _ (by omega)
              have hm1 : (0 : Int) ≤ (m : Int) := by omega
              have hm2 : (m : Int) < (A.length : Int) := by omega
              obtain ⟨ka, hka⟩ : ∃ x, A[m].k = x := ⟨_, rfl⟩
              obtain ⟨kb, hkb⟩ : ∃ x, B[0].k = x := ⟨_, rfl⟩
              have HKA := Lib.hid (fun W u c (h : LexAt W (.slice u A.length c) A) => show ∃ b off, u = some ⟨b, off, none⟩ ∧ W.cell? ⟨b, off + m * 4, none⟩ = some (intV ka) by
                obtain ⟨b, off, e1, _, c1, _⟩ := h.elem hmA
                rw [hka] at c1
                exact ⟨b, off, e1, c1⟩)
              have HKB := Lib.hid (fun W u c (h : LexAt W (.slice u B.length c) B) => show ∃ b off, u = some ⟨b, off, none⟩ ∧ W.cell? ⟨b, off, none⟩ = some (intV kb) by
                obtain ⟨b, off, e1, _, c1, _⟩ := h.elem hmB
                rw [hkb, Nat.zero_mul, Nat.add_zero] at c1
                exact ⟨b, off, e1, c1⟩)
              by_cases h1k : ka = 1
              · have g1 : (ka == 1) = true := by simp [h1k]
                by_cases h2k : kb = 1
                · have g2 : (kb == 1) = true := by simp [h2k]
                  obtain ⟨C, z1, zl, z2⟩ := joined_text hr hq (by omega) hAne hBne (by rw [hlast hmA, hka]; exact h1k) (by rw [hhead hmB, hkb]; exact h2k)
                  have HSC := Lib.hid (fun (W : World) [T W] => scan_at H (s ++ t) _ 0 z1 hst W)
                  have HPC := Lib.hid (fun (W : World) [T W] => strip_at H (s ++ t) _ 0 (strip_of z1) hst W)
                  have hadd2 : baL (strp A) ++ baL (strp B) = baL (strp (C)) := by rw [z2, baL_append]
                  obtain ⟨p, hp⟩ : ∃ p : Int, (A.length : Int) + (B.length : Int) = p := ⟨_, rfl⟩
                  have hw1 : IntKind.i64.wrap ((A.length : Int) + (B.length : Int)) = p := by rw [hp]; exact IntWalk.i64_in _ (by omega)
                  have hw2 : IntKind.i64.wrap (p - 1) = (C.length : Int) := by rw [show p - 1 = (C.length : Int) by omega]; exact IntWalk.i64_in _ (by omega)
                  have H1K := Lib.hid h1k
                  try have tH1K := T.below H1K.out
                  have H2K := Lib.hid h2k
                  try have tH2K := T.below H2K.out
                  clear hA0 hB0 hlast hhead hm hmA hmB hka hkb zl hp h1k h2k
                  clear hs ht hr hq a1 a2 b1 b2 hst hBo hfl z1 z2 hsA hsB
                  go_enter Tryd.func5, Tryd.ntmps5
                  go_wp2_with fail
                  refine (HSA.out w).mono ?_
                  rintro e' w1 ⟨ua, rfl, hu, h1⟩
                  have B1 := Lib.hid h1
                  try have tB1 := T.below B1.out
                  have UA := Lib.hid hu
                  try have tUA := T.below UA.out
                  obtain ⟨aa, ca, rfl⟩ := hu.slice
                  clear h1 hu
                  go_wp2_with fail
                  refine (HSB.out w1).mono ?_
                  rintro e' w2 ⟨ub, rfl, hu, h2⟩
                  have B2 := Lib.hid (below_then B1.out h2)
                  try have tB2 := T.below B2.out
                  have UB := Lib.hid hu
                  try have tUB := T.below UB.out
                  have UA2 := Lib.hid (UA.out.below h2)
                  obtain ⟨ab, cb, rfl⟩ := hu.slice
                  clear h2 hu
                  go_wp2_with fail
                  refine (HSC.out w2).mono ?_
                  rintro e' w3 ⟨uc, rfl, hu, h3⟩
                  have B3 := Lib.hid h3
                  try have tB3 := T.below B3.out
                  have UC := Lib.hid hu
                  try have tUC := T.below UC.out
                  obtain ⟨ac, cc, rfl⟩ := hu.slice
                  clear h3 hu
                  go_wp2_with fail
                  refine (HPA.out w3).mono ?_
                  rintro e' w4 ⟨rfl, h4⟩
                  have B4 := Lib.hid h4
                  try have tB4 := T.below B4.out
                  clear h4
                  go_wp2_with fail
                  refine (HPB.out w4).mono ?_
                  rintro e' w5 ⟨rfl, h5⟩
                  have B5 := Lib.hid (below_then B4.out h5)
                  try have tB5 := T.below B5.out
                  clear h5
                  go_wp2_with fail
                  refine (HPC.out w5).mono ?_
                  rintro e' w6 ⟨rfl, h6⟩
                  have B6 := Lib.hid (below_then B5.out h6)
                  try have tB6 := T.below B6.out
                  have B36 := Lib.hid (below_then B3.out B6.out)
                  try have tB36 := T.below B36.out
                  have C6 := Lib.hid (UC.out.below B6.out)
                  have A6 := Lib.hid (UA2.out.below B36.out)
                  have Q6 := Lib.hid (UB.out.below B36.out)
                  have W6 := Lib.hid (below_then B2.out B36.out)
                  try have tW6 := T.below W6.out
                  clear h6
                  obtain ⟨ba, oa, e1, d1⟩ := HKA.out w6 _ _ A6.out
                  obtain ⟨bb, ob, e2, d2⟩ := HKB.out w6 _ _ Q6.out
                  subst e1 e2
                  go_wp2_with fail
                  refine (HA.out w6).mono ?_
                  rintro e' w9 ⟨rfl, h9⟩
                  have B9 := Lib.hid (below_then W6.out h9)
                  try have tB9 := T.below B9.out
                  clear h9
                  go_wp2
                  go_ret
                  exact ⟨rfl, B9.out⟩
                · have g2 : (kb == 1) = false := by simpa using h2k
                  obtain ⟨C, z1, z2, z3⟩ := joined_apart hr hq (by omega) (fun ha hb h => h2k (by rw [← hkb, ← hhead hmB]; exact h.2))
                  have HSC := Lib.hid (fun (W : World) [T W] => scan_at H (s ++ t) _ 0 z1 hst W)
                  have HPC := Lib.hid (fun (W : World) [T W] => strip_at H (s ++ t) _ 0 (strip_of z1) hst W)
                  have hadd2 : baL (strp A) ++ baL (strp B) = baL (strp (C)) := by rw [z2, baL_append]
                  have HFL := Lib.hid (hfl.trans z3.symm)
                  have HSC2 := Lib.hid (HSM.out C z3)
                  clear z3
                  have H1K := Lib.hid h1k
                  try have tH1K := T.below H1K.out
                  have H2K := Lib.hid h2k
                  try have tH2K := T.below H2K.out
                  clear hA0 hB0 hlast hhead hm hmA hmB hka hkb h1k h2k
                  clear hs ht hr hq a1 a2 b1 b2 hst hBo hfl z1 z2 hsA hsB
                  go_enter Tryd.func5, Tryd.ntmps5
                  go_wp2_with fail
                  refine (HSA.out w).mono ?_
                  rintro e' w1 ⟨ua, rfl, hu, h1⟩
                  have B1 := Lib.hid h1
                  try have tB1 := T.below B1.out
                  have UA := Lib.hid hu
                  try have tUA := T.below UA.out
                  obtain ⟨aa, ca, rfl⟩ := hu.slice
                  clear h1 hu
                  go_wp2_with fail
                  refine (HSB.out w1).mono ?_
                  rintro e' w2 ⟨ub, rfl, hu, h2⟩
                  have B2 := Lib.hid (below_then B1.out h2)
                  try have tB2 := T.below B2.out
                  have UB := Lib.hid hu
                  try have tUB := T.below UB.out
                  have UA2 := Lib.hid (UA.out.below h2)
                  obtain ⟨ab, cb, rfl⟩ := hu.slice
                  clear h2 hu
                  go_wp2_with fail
                  refine (HSC.out w2).mono ?_
                  rintro e' w3 ⟨uc, rfl, hu, h3⟩
                  have B3 := Lib.hid h3
                  try have tB3 := T.below B3.out
                  have UC := Lib.hid hu
                  try have tUC := T.below UC.out
                  obtain ⟨ac, cc, rfl⟩ := hu.slice
                  clear h3 hu
                  go_wp2_with fail
                  refine (HPA.out w3).mono ?_
                  rintro e' w4 ⟨rfl, h4⟩
                  have B4 := Lib.hid h4
                  try have tB4 := T.below B4.out
                  clear h4
                  go_wp2_with fail
                  refine (HPB.out w4).mono ?_
                  rintro e' w5 ⟨rfl, h5⟩
                  have B5 := Lib.hid (below_then B4.out h5)
                  try have tB5 := T.below B5.out
                  clear h5
                  go_wp2_with fail
                  refine (HPC.out w5).mono ?_
                  rintro e' w6 ⟨rfl, h6⟩
                  have B6 := Lib.hid (below_then B5.out h6)
                  try have tB6 := T.below B6.out
                  have B36 := Lib.hid (below_then B3.out B6.out)
                  try have tB36 := T.below B36.out
                  have C6 := Lib.hid (UC.out.below B6.out)
                  have A6 := Lib.hid (UA2.out.below B36.out)
                  have Q6 := Lib.hid (UB.out.below B36.out)
                  have W6 := Lib.hid (below_then B2.out B36.out)
                  try have tW6 := T.below W6.out
                  clear h6
                  obtain ⟨ba, oa, e1, d1⟩ := HKA.out w6 _ _ A6.out
                  obtain ⟨bb, ob, e2, d2⟩ := HKB.out w6 _ _ Q6.out
                  subst e1 e2
                  go_wp2_with fail
                  refine (HSH.out _ w6 Q6.out).mono ?_
                  rintro e' w7 ⟨us, rfl, hu, h7⟩
                  have B7 := Lib.hid (below_then W6.out h7)
                  try have tB7 := T.below B7.out
                  have S7 := Lib.hid hu
                  try have tS7 := T.below S7.out
                  have C7 := Lib.hid (C6.out.below h7)
                  have A7 := Lib.hid (A6.out.below h7)
                  obtain ⟨ax, cx, rfl⟩ := hu.slice
                  clear h7 hu
                  go_wp2_with fail
                  have hl7 := ll_lit w7 [.slice (some ⟨ba, oa, none⟩) A.length ca, .slice ax (shiftL s.length B).length cx] [A, shiftL s.length B] rfl (fun j hj => by
                    match j, hj with
                    | 0, _ => exact A7.out
                    | 1, _ => exact S7.out)
                  have bA := alloc_below w7 (.cells #[.slice (some ⟨ba, oa, none⟩) A.length ca, .slice ax (shiftL s.length B).length cx] 22)
                  have B7a := Lib.hid (below_then B7.out bA)
                  try have tB7a := T.below B7a.out
                  have C7a := Lib.hid (C7.out.below bA)
                  refine (HCAT.out _ _ hl7).mono ?_
                  rintro e' w8 ⟨uq, rfl, hu, h8⟩
                  have B8 := Lib.hid (below_then B7a.out h8)
                  try have tB8 := T.below B8.out
                  have C8 := Lib.hid (C7a.out.below h8)
                  have Q8 := Lib.hid hu.lex
                  clear h8 hu hl7 bA
                  rw [HFL.out] at Q8
                  go_wp2_with fail
                  refine (HSC2.out _ _ w8 C8.out Q8.out).mono ?_
                  rintro e' w10 ⟨rfl, h10⟩
                  have B10 := Lib.hid (below_then B8.out h10)
                  try have tB10 := T.below B10.out
                  clear h10
                  go_wp2_with fail
                  refine (HA.out w10).mono ?_
                  rintro e' w9 ⟨rfl, h9⟩
                  have B9 := Lib.hid (below_then B10.out h9)
                  try have tB9 := T.below B9.out
                  clear h9
                  go_wp2
                  go_ret
                  exact ⟨rfl, B9.out⟩
              · have g1 : (ka == 1) = false := by simpa using h1k
                obtain ⟨C, z1, z2, z3⟩ := joined_apart hr hq (by omega) (fun ha hb h => h1k (by rw [← hka, ← hlast hmA]; exact h.1))
                have HSC := Lib.hid (fun (W : World) [T W] => scan_at H (s ++ t) _ 0 z1 hst W)
                have HPC := Lib.hid (fun (W : World) [T W] => strip_at H (s ++ t) _ 0 (strip_of z1) hst W)
                have hadd2 : baL (strp A) ++ baL (strp B) = baL (strp (C)) := by rw [z2, baL_append]
                have HFL := Lib.hid (hfl.trans z3.symm)
                have HSC2 := Lib.hid (HSM.out C z3)
                clear z3
                have H1K := Lib.hid h1k
                try have tH1K := T.below H1K.out
                clear hA0 hB0 hlast hhead hm hmA hmB hka hkb h1k
                clear hs ht hr hq a1 a2 b1 b2 hst hBo hfl z1 z2 hsA hsB
                go_enter Tryd.func5, Tryd.ntmps5
                go_wp2_with fail
                refine (HSA.out w).mono ?_
                rintro e' w1 ⟨ua, rfl, hu, h1⟩
                have B1 := Lib.hid h1
                try have tB1 := T.below B1.out
                have UA := Lib.hid hu
                try have tUA := T.below UA.out
                obtain ⟨aa, ca, rfl⟩ := hu.slice
                clear h1 hu
                go_wp2_with fail
                refine (HSB.out w1).mono ?_
                rintro e' w2 ⟨ub, rfl, hu, h2⟩
                have B2 := Lib.hid (below_then B1.out h2)
                try have tB2 := T.below B2.out
                have UB := Lib.hid hu
                try have tUB := T.below UB.out
                have UA2 := Lib.hid (UA.out.below h2)
                obtain ⟨ab, cb, rfl⟩ := hu.slice
                clear h2 hu
                go_wp2_with fail
                refine (HSC.out w2).mono ?_
                rintro e' w3 ⟨uc, rfl, hu, h3⟩
                have B3 := Lib.hid h3
                try have tB3 := T.below B3.out
                have UC := Lib.hid hu
                try have tUC := T.below UC.out
                obtain ⟨ac, cc, rfl⟩ := hu.slice
                clear h3 hu
                go_wp2_with fail
                refine (HPA.out w3).mono ?_
                rintro e' w4 ⟨rfl, h4⟩
                have B4 := Lib.hid h4
                try have tB4 := T.below B4.out
                clear h4
                go_wp2_with fail
                refine (HPB.out w4).mono ?_
                rintro e' w5 ⟨rfl, h5⟩
                have B5 := Lib.hid (below_then B4.out h5)
                try have tB5 := T.below B5.out
                clear h5
                go_wp2_with fail
                refine (HPC.out w5).mono ?_
                rintro e' w6 ⟨rfl, h6⟩
                have B6 := Lib.hid (below_then B5.out h6)
                try have tB6 := T.below B6.out
                have B36 := Lib.hid (below_then B3.out B6.out)
                try have tB36 := T.below B36.out
                have C6 := Lib.hid (UC.out.below B6.out)
                have A6 := Lib.hid (UA2.out.below B36.out)
                have Q6 := Lib.hid (UB.out.below B36.out)
                have W6 := Lib.hid (below_then B2.out B36.out)
                try have tW6 := T.below W6.out
                clear h6
                obtain ⟨ba, oa, e1, d1⟩ := HKA.out w6 _ _ A6.out
                obtain ⟨bb, ob, e2, d2⟩ := HKB.out w6 _ _ Q6.out
                subst e1 e2
                go_wp2_with fail
                refine (HSH.out _ w6 Q6.out).mono ?_
                rintro e' w7 ⟨us, rfl, hu, h7⟩
                have B7 := Lib.hid (below_then W6.out h7)
                try have tB7 := T.below B7.out
                have S7 := Lib.hid hu
                try have tS7 := T.below S7.out
                have C7 := Lib.hid (C6.out.below h7)
                have A7 := Lib.hid (A6.out.below h7)
                obtain ⟨ax, cx, rfl⟩ := hu.slice
                clear h7 hu
                go_wp2_with fail
                have hl7 := ll_lit w7 [.slice (some ⟨ba, oa, none⟩) A.length ca, .slice ax (shiftL s.length B).length cx] [A, shiftL s.length B] rfl (fun j hj => by
                  match j, hj with
                  | 0, _ => exact A7.out
                  | 1, _ => exact S7.out)
                have bA := alloc_below w7 (.cells #[.slice (some ⟨ba, oa, none⟩) A.length ca, .slice ax (shiftL s.length B).length cx] 22)
                have B7a := Lib.hid (below_then B7.out bA)
                try have tB7a := T.below B7a.out
                have C7a := Lib.hid (C7.out.below bA)
                refine (HCAT.out _ _ hl7).mono ?_
                rintro e' w8 ⟨uq, rfl, hu, h8⟩
                have B8 := Lib.hid (below_then B7a.out h8)
                try have tB8 := T.below B8.out
                have C8 := Lib.hid (C7a.out.below h8)
                have Q8 := Lib.hid hu.lex
                clear h8 hu hl7 bA
                rw [HFL.out] at Q8
                go_wp2_with fail
                refine (HSC2.out _ _ w8 C8.out Q8.out).mono ?_
                rintro e' w10 ⟨rfl, h10⟩
                have B10 := Lib.hid (below_then B8.out h10)
                try have tB10 := T.below B10.out
                clear h10
                go_wp2_with fail
                refine (HA.out w10).mono ?_
                rintro e' w9 ⟨rfl, h9⟩
                have B9 := Lib.hid (below_then B10.out h9)
                try have tB9 := T.below B9.out
                clear h9
                go_wp2
                go_ret
                exact ⟨rfl, B9.out⟩
        · have hf0 : (f == 0) = false := by simpa using hf
          have hf1 : (f != 0) = true := by simpa using hf
          clear hs ht hr hq hf
          go_enter Tryd.func5, Tryd.ntmps5
          go_wp2_with fail
          refine (HSA.out w).mono ?_
          rintro e' w1 ⟨ua, rfl, hu, h1⟩
          have B1 := Lib.hid h1
          try have tB1 := T.below B1.out
          have UA := Lib.hid hu
          try have tUA := T.below UA.out
          obtain ⟨aa, ca, rfl⟩ := hu.slice
          clear h1 hu
          go_wp2_with fail
          refine (HSB.out w1).mono ?_
          rintro e' w2 ⟨ub, rfl, hu, h2⟩
          have B2 := Lib.hid (below_then B1.out h2)
          try have tB2 := T.below B2.out
          have UB := Lib.hid hu
          try have tUB := T.below UB.out
          have UA2 := Lib.hid (UA.out.below h2)
          obtain ⟨ab, cb, rfl⟩ := hu.slice
          clear h2 hu
          go_wp2_with fail
          refine (HA.out w2).mono ?_
          rintro e' w9 ⟨rfl, h9⟩
          have B9 := Lib.hid (below_then B2.out h9)
          try have tB9 := T.below B9.out
          clear h9
          go_wp2
          go_ret
          exact ⟨rfl, B9.out⟩
      · have he0 : (e == 0) = false := by simpa using he
        have he1 : (e != 0) = true := by simpa using he
        clear hs ht hr hq he
        go_enter Tryd.func5, Tryd.ntmps5
        go_wp2_with fail
        refine (HSA.out w).mono ?_
        rintro e' w1 ⟨ua, rfl, hu, h1⟩
        have B1 := Lib.hid h1
        try have tB1 := T.below B1.out
        have UA := Lib.hid hu
        try have tUA := T.below UA.out
        obtain ⟨aa, ca, rfl⟩ := hu.slice
        clear h1 hu
        go_wp2_with fail
        refine (HSB.out w1).mono ?_
        rintro e' w2 ⟨ub, rfl, hu, h2⟩
        have B2 := Lib.hid (below_then B1.out h2)
        try have tB2 := T.below B2.out
        have UB := Lib.hid hu
        try have tUB := T.below UB.out
        have UA2 := Lib.hid (UA.out.below h2)
        obtain ⟨ab, cb, rfl⟩ := hu.slice
        clear h2 hu
        go_wp2_with fail
        refine (HA.out w2).mono ?_
        rintro e' w9 ⟨rfl, h9⟩
        have B9 := Lib.hid (below_then B2.out h9)
        try have tB9 := T.below B9.out
        clear h9
        go_wp2
        go_ret
        exact ⟨rfl, B9.out⟩
theorem joined_w (H : MkOk) (w : World) [T w] (s t : ByteArray) (hs : s.size ≤ maxLen) (ht : t.size ≤ maxLen) :
    Calls Tryd.prog 5 #[.string s, .string t] w fun e w' => e = .returned (.bool true) ∧ Below w.heap.size w w' := by
  have := joined_law H s.data.toList t.data.toList w hs ht
  unfold sV at this
  rwa [baL_list, baL_list] at this
end Go.Proofs.YtdgihkgomfpmoaaDoor
