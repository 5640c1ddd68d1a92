/- MarkupTags: the law's walk. -/
import Derived.Test.YtdgihkgomfpmoaaDoorMkLossless
import Derived.Test.YtdgihkgomfpmoaaDoorMkSome
import Derived.Test.YtdgihkgomfpmoaaDoorMkTags
import Derived.Deep.RegionHeld3
namespace Go.Proofs.YtdgihkgomfpmoaaDoor
set_option linter.unusedSimpArgs false
set_option linter.unusedVariables false
set_option maxRecDepth 100000
open Go.RowKit Go.Deep

theorem less_s (x y : ByteArray) (r : Bool) (hr : Op.bytesLess x.toList y.toList = r) (w : World) : Calls Tryd.prog 38 #[.string x, .string y] w fun e w' => e = .returned (.bool r) ∧ w = w' := by
  have HR := Lib.hid hr
  try have tHR := T.below HR.out
  clear hr
  go_enter Tryd.func38, Tryd.ntmps38
  go_wp2
  go_ret
  exact ⟨ret_bool HR.out, rfl⟩
set_option maxHeartbeats 2000000 in
theorem sortedW_any (xs : List Bs) (hs : ∀ j (h : j + 1 < xs.length), Op.bytesLess xs[j + 1] (xs[j]'(by omega)) = false) (v : Value) (w : World) (hv : WordsAt w v xs) (hl : xs.length ≤ 1000000) :
    Calls Tryd.prog 26 #[v] w fun e w' => e = .returned (.bool true) ∧ Below w.heap.size w w' := by
  have HV := Lib.hid hv
  try have tHV := T.below HV.out
  obtain ⟨a, cap, rfl⟩ := hv.slice
  have HS := Lib.hid hs
  try have tHS := T.below HS.out
  clear hv hs
  go_enter Tryd.func26, Tryd.ntmps26
  go_wp2
  go_loopw [3] (fun i wr => ∃ k : Nat, k ≤ xs.length ∧ i = .int .i64 ((k : Int) - 1) ∧ Below w.heap.size w wr) (fun i _ => (intOf i + 1).toNat)
  case atStart => exact ⟨xs.length, Nat.le_refl _, rfl, Below.refl _ _⟩
  case round =>
    obtain ⟨k, hk, rfl, hB⟩ := hrel
    obtain ⟨wk, rfl⟩ : ∃ x, x = wr := ⟨_, rfl⟩
    try have twk : T wk := T.below hB
    by_cases hlt : 2 ≤ k
    · obtain ⟨j, rfl⟩ : ∃ j, k = j + 2 := ⟨k - 2, by omega⟩
      obtain ⟨b, off, rfl, hbb, q1⟩ := HV.out.elem (j := j + 1) (by omega)
      obtain ⟨b', off', e', _, q2⟩ := HV.out.elem (j := j) (by omega)
      cases e'
      have c1 := (hB.cell (p := ⟨b, off + (j + 1), none⟩) hbb).trans q1
      have c2 := (hB.cell (p := ⟨b, off + j, none⟩) hbb).trans q2
      have hnl := HS.out j (by omega)
      obtain ⟨x, hx⟩ : ∃ x, baL xs[j + 1] = x := ⟨_, rfl⟩
      obtain ⟨y, hy⟩ : ∃ y, baL xs[j] = y := ⟨_, rfl⟩
      replace hnl : Op.bytesLess x.toList y.toList = false := by
        rw [← hx, ← hy, ByteArray.toList_eq, ByteArray.toList_eq]; exact hnl
      replace c1 : wk.cell? ⟨b, off + (j + 1), none⟩ = some (.string x) := by rw [← hx]; exact c1
      replace c2 : wk.cell? ⟨b, off + j, none⟩ = some (.string y) := by rw [← hy]; exact c2
      have HNL := Lib.hid hnl
      have HB := Lib.hid hB
      try have tHB := T.below HB.out
      obtain ⟨i, hi⟩ : ∃ i, j + 1 = i := ⟨_, rfl⟩
      have hi1 : ((j + 2 : Nat) : Int) - 1 = (i : Int) := by omega
      have hwr : IntKind.i64.wrap ((i : Int) - 1) = (j : Int) := by rw [show (i : Int) - 1 = j by omega]; exact IntWalk.i64_in _ (by omega)
      have hb1 : (0 : Int) ≤ (i : Int) := by omega
      have hb2 : (i : Int) < (xs.length : Int) := by omega
      have hb3 : (0 : Int) ≤ (j : Int) := by omega
      have hb4 : (j : Int) < (xs.length : Int) := by omega
      have hb5 : (0 : Int) < (i : Int) := by omega
      have HIJ := Lib.hid hi
      try have tHIJ := T.below HIJ.out
      rw [hi1]
      rw [hi] at c1
      clear q1 q2 hx hy hnl hB hi1 hi hk hlt
      go_wp2_with fail
      go_region_held3 (fun w' => w'.cell? ⟨b, off + i, none⟩ = some (.string x) ∧ w'.cell? ⟨b, off + j, none⟩ = some (.string y))
        (first | exact ⟨c1, c2⟩ | assumption)
        (first | ((try go_simp); go_at_call 38; refine (less_s x y false HNL.out _).mono ?_; rintro e w5 ⟨rfl, rfl⟩) | (trace_state; sorry))
      all_goals
        go_wp2
        go_roundw
        case rel => exact ⟨i, by have := HIJ.out; omega, by have := HIJ.out; congr 1; omega, HB.out.trans (below_drewN_n _ _ 1)⟩
        case measure => have := HIJ.out; simp [intOf]; omega
    · go_wp2
      go_ret
      exact ⟨rfl, hB⟩
theorem tags_sortedD : ∀ j : Fin 9, Op.bytesLess (tagsL.getD (j.val + 1) []) (tagsL.getD j.val []) = false := by decide
theorem tags_sorted : ∀ j (h : j + 1 < tagsL.length), Op.bytesLess tagsL[j + 1] (tagsL[j]'(by omega)) = false := by
  intro j h
  have h9 : j + 1 < 10 := h
  have := tags_sortedD ⟨j, by omega⟩
  rw [List.getD_eq_getElem?_getD, List.getD_eq_getElem?_getD, List.getElem?_eq_getElem h, List.getElem?_eq_getElem (show j < tagsL.length by omega)] at this
  exact this
theorem plain_of {v : Bs} (h : anyIn ⟨#[32, 60, 62, 47]⟩ (baL v) = false) : ∀ c ∈ v, plainC c = true := by
  intro c hc
  rw [anyIn, List.any_eq_false] at h
  have := h c hc
  simp only [List.any_cons, List.any_nil, Bool.or_false, Bool.or_eq_true, beq_iff_eq, not_or] at this
  unfold plainC
  simp only [Bool.and_eq_true, decide_eq_true_eq]
  exact ⟨⟨⟨fun e => this.1 e.symm, fun e => this.2.2.2 e.symm⟩, fun e => this.2.1 e.symm⟩, fun e => this.2.2.1 e.symm⟩
theorem tag_len {n : Bs} (ht : isTag n = true) : n.length ≤ 7 := by
  unfold isTag tagsL at ht
  simp only [List.contains_cons, List.contains_nil, Bool.or_false, Bool.or_eq_true, beq_iff_eq] at ht
  rcases ht with rfl | rfl | rfl | rfl | rfl | rfl | rfl | rfl | rfl | rfl <;> decide
/-- what the round's tests say -/
theorem forms_ways {n v : Bs} (ht : isTag n = true) (hv : ∀ c ∈ v, plainC c = true) (hl : v.length ≤ 20) :
    ∃ L2 L3 L4 e2 e3 e4, scanR (formF 2 n v) = (L2, e2) ∧ scanR (formF 3 n []) = (L3, e3) ∧ scanR (formF 4 n v) = (L4, e4) ∧
      (((e2 == 0) = true ∧ (e4 == 0) = false ∧ (e3 != 0) = false) ∨ ((e2 == 0) = false ∧ (e4 == 0) = true ∧ (e3 == 0) = false) ∨ ((e2 == 0) = false ∧ (e4 == 0) = false)) := by
  have h := tag_forms ht hv hl
  obtain ⟨r2, q2⟩ : ∃ r, scanR (formF 2 n v) = r := ⟨_, rfl⟩
  obtain ⟨r3, q3⟩ : ∃ r, scanR (formF 3 n []) = r := ⟨_, rfl⟩
  obtain ⟨r4, q4⟩ : ∃ r, scanR (formF 4 n v) = r := ⟨_, rfl⟩
  rw [q2, q3, q4] at h
  obtain ⟨L2, e2⟩ := r2
  obtain ⟨L3, e3⟩ := r3
  obtain ⟨L4, e4⟩ := r4
  simp only at h
  refine ⟨_, _, _, _, _, _, q2, q3, q4, ?_⟩
  by_cases h2 : e2 = 0
  · obtain ⟨a, b⟩ := h.1 h2
    exact .inl ⟨by simpa using h2, by simpa using a, by simpa using b⟩
  · by_cases h4 : e4 = 0
    · exact .inr (.inl ⟨by simpa using h2, by simpa using h4, by simpa using h.2 h4⟩)
    · exact .inr (.inr ⟨by simpa using h2, by simpa using h4⟩)
theorem baL_lit (a : Bs) : (⟨a.toArray⟩ : ByteArray) = baL a := rfl
set_option maxHeartbeats 8000000 in
theorem tags_law (H : MkOk) (s : Bs) (w : World) [T w] (hs : s.length ≤ maxLen) :
    Calls Tryd.prog 8 #[sV s] w fun e w' => e = .returned (.bool true) ∧ Below w.heap.size w w' := by
  have hsz : (baL s).size = s.length := baL_size s
  have HA := Lib.hid (fun (W : World) [T W] => awake_any H W)
  have HT := Lib.hid (fun W => H.tags W)
  have HSO := Lib.hid (fun v W (h : WordsAt W v tagsL) => sortedW_any tagsL tags_sorted v W h (by decide))
  by_cases h20 : 20 < s.length
  · have hd : decide ((20 : Int) < (s.length : Int)) = true := decide_eq_true (by omega)
    clear hs
    go_enter Tryd.func8, Tryd.ntmps8
    go_wp2_with fail
    refine (HT.out w).mono ?_
    rintro e' w1 ⟨v, rfl, hv, h1⟩
    have B1 := Lib.hid h1
    try have tB1 := T.below B1.out
    have V1 := Lib.hid hv
    try have tV1 := T.below V1.out
    obtain ⟨a, cap, rfl⟩ : ∃ a cap, v = .slice a 10 cap := hv.slice
    clear h1 hv
    go_wp2_with fail
    refine (HSO.out _ w1 V1.out).mono ?_
    rintro e' w2 ⟨rfl, h2⟩
    have B2 := Lib.hid (below_then B1.out h2)
    try have tB2 := T.below B2.out
    clear h2
    go_wp2_with fail
    refine (HA.out w2).mono ?_
    rintro e' w3 ⟨rfl, h3⟩
    have B3 := Lib.hid (below_then B2.out h3)
    try have tB3 := T.below B3.out
    clear h3
    go_wp2
    go_ret
    exact ⟨rfl, B3.out⟩
  · have hd : decide ((20 : Int) < (s.length : Int)) = false := decide_eq_false (by omega)
    obtain ⟨g, hg⟩ : ∃ g, anyIn ⟨#[32, 60, 62, 47]⟩ (baL s) = g := ⟨_, rfl⟩
    have HSM := Lib.hid (fun W => some_at (baL s) ⟨#[32, 60, 62, 47]⟩ (by rw [baL_size]; omega) g hg W)
    cases g with
    | true =>
      clear hs hg
      go_enter Tryd.func8, Tryd.ntmps8
      go_wp2_with fail
      refine (HT.out w).mono ?_
      rintro e' w1 ⟨v, rfl, hv, h1⟩
      have B1 := Lib.hid h1
      try have tB1 := T.below B1.out
      have V1 := Lib.hid hv
      try have tV1 := T.below V1.out
      obtain ⟨a, cap, rfl⟩ : ∃ a cap, v = .slice a 10 cap := hv.slice
      clear h1 hv
      go_wp2_with fail
      refine (HSM.out w1).mono ?_
      rintro e' w2 ⟨rfl, h2⟩
      have B2 := Lib.hid (below_then B1.out h2)
      try have tB2 := T.below B2.out
      have V2 := Lib.hid (V1.out.below h2)
      clear h2
      go_wp2_with fail
      refine (HSO.out _ w2 V2.out).mono ?_
      rintro e' w3 ⟨rfl, h3⟩
      have B3 := Lib.hid (below_then B2.out h3)
      try have tB3 := T.below B3.out
      clear h3
      go_wp2_with fail
      refine (HA.out w3).mono ?_
      rintro e' w4 ⟨rfl, h4⟩
      have B4 := Lib.hid (below_then B3.out h4)
      try have tB4 := T.below B4.out
      clear h4
      go_wp2
      go_ret
      exact ⟨rfl, B4.out⟩
    | false =>
      have hpl := plain_of hg
      have HF := Lib.hid (fun n (ht : isTag n = true) => forms_ways ht hpl (show s.length ≤ 20 by omega))
      have HSC := Lib.hid (fun (t : Bs) (L : List Lx) (e : Int) (h : scanR t = (L, e)) (hl : t.length ≤ 1000) (W : World) [T W] => scan_at H t L e h (by unfold maxLen; omega) W)
      have hs20 : s.length ≤ 20 := by omega
      have hb0 : (s = [] ∧ (!(baL s).toList.isEmpty) = false) ∨ (s ≠ [] ∧ (!(baL s).toList.isEmpty) = true) := by
        rw [ByteArray.toList_eq]
        cases s with
        | nil => exact .inl ⟨rfl, rfl⟩
        | cons c t => exact .inr ⟨by simp, rfl⟩
      clear hs hg hpl
      go_enter Tryd.func8, Tryd.ntmps8
      go_wp2_with fail
      refine (HT.out w).mono ?_
      rintro e' w1 ⟨v, rfl, hv, h1⟩
      have B1 := Lib.hid h1
      try have tB1 := T.below B1.out
      have V1 := Lib.hid hv
      try have tV1 := T.below V1.out
      obtain ⟨a, cap, rfl⟩ : ∃ a cap, v = .slice a 10 cap := hv.slice
      clear h1 hv
      go_wp2_with fail
      refine (HSM.out w1).mono ?_
      rintro e' w2 ⟨rfl, h2⟩
      have B2 := Lib.hid (below_then B1.out h2)
      try have tB2 := T.below B2.out
      have V2 := Lib.hid (V1.out.below h2)
      clear h2
      go_wp2_with fail
      refine (HSO.out _ w2 V2.out).mono ?_
      rintro e' w3 ⟨rfl, h3⟩
      have B3 := Lib.hid (below_then B2.out h3)
      try have tB3 := T.below B3.out
      have V3 := Lib.hid (V2.out.below h3)
      clear h3
      go_wp2
      go_loopw [43] (fun iv wr => ∃ i : Nat, i ≤ 10 ∧ iv = .int .i64 i ∧ Below w3.heap.size w3 wr) (fun iv _ => 10 - (intOf iv).toNat)
      case atStart => exact ⟨0, Nat.zero_le _, rfl, Below.refl _ _⟩
      case round =>
        obtain ⟨i, hi, rfl, hB⟩ := hrel
        obtain ⟨wk, rfl⟩ : ∃ x, x = wr := ⟨_, rfl⟩
        try have twk : T wk := T.below hB
        by_cases hlt : i < 10
        · have hltT : i < tagsL.length := hlt
          obtain ⟨b, off, rfl, hbb, q1⟩ := V3.out.elem hltT
          have c1 := (hB.cell (p := ⟨b, off + i, none⟩) hbb).trans q1
          have ht : isTag (tagsL[i]'hltT) = true := by
            unfold isTag
            exact List.contains_iff_mem.2 (List.getElem_mem _)
          obtain ⟨n, hn⟩ : ∃ n, tagsL[i]'hltT = n := ⟨_, rfl⟩
          rw [hn] at c1 ht
          have hnl := tag_len ht
          obtain ⟨L2, L3, L4, e2, e3, e4, f2, f3, f4, hw⟩ := HF.out n ht
          have hbl : (bodyL n s).length ≤ 28 := by
            unfold bodyL
            split
            · omega
            · rw [List.length_append, List.length_cons]; omega
          have S2 := Lib.hid (HSC.out _ _ _ f2 (by simp [formF]; omega))
          have S3 := Lib.hid (HSC.out _ _ _ f3 (by simp [formF]; omega))
          have S4 := Lib.hid (HSC.out _ _ _ f4 (by simp [formF]; omega))
          have HB := Lib.hid hB
          try have tHB := T.below HB.out
          -- the strings, part by part
          obtain ⟨z, hz⟩ : ∃ z, baL (bodyL n s) = z := ⟨_, rfl⟩
          obtain ⟨zn, hzn⟩ : ∃ z, baL n = z := ⟨_, rfl⟩
          obtain ⟨z3, hz3⟩ : ∃ z, baL (60 :: bodyL n s) = z := ⟨_, rfl⟩
          obtain ⟨z6, hz6⟩ : ∃ z, baL (60 :: 47 :: n) = z := ⟨_, rfl⟩
          obtain ⟨z1, hz1⟩ : ∃ z, baL (32 :: s) = z := ⟨_, rfl⟩
          have a1 : (⟨#[32]⟩ : ByteArray) ++ baL s = z1 := by rw [← hz1]; exact baL_append [32] s
          have a3 : (⟨#[60]⟩ : ByteArray) ++ z = z3 := by rw [← hz3, ← hz]; exact baL_append [60] _
          have a4 : z3 ++ (⟨#[62]⟩ : ByteArray) = baL (formF 2 n s) := by rw [← hz3]; exact baL_append _ [62]
          have a5 : z3 ++ (⟨#[47, 62]⟩ : ByteArray) = baL (formF 4 n s) := by rw [← hz3]; exact baL_append _ [47, 62]
          have a6 : (⟨#[60, 47]⟩ : ByteArray) ++ zn = z6 := by rw [← hz6, ← hzn]; exact baL_append [60, 47] n
          have a7 : z6 ++ (⟨#[62]⟩ : ByteArray) = baL (formF 3 n []) := by rw [← hz6]; exact baL_append _ [62]
          have l1 : z1.size ≤ 100 := by rw [← hz1, baL_size, List.length_cons]; omega
          have l2 : z.size ≤ 100 := by rw [← hz, baL_size]; omega
          have l3 : z3.size ≤ 100 := by rw [← hz3, baL_size, List.length_cons]; omega
          have l4 : zn.size ≤ 100 := by rw [← hzn, baL_size]; omega
          have l6 : z6.size ≤ 100 := by rw [← hz6, baL_size, List.length_cons, List.length_cons]; omega
          replace c1 : wk.cell? ⟨b, off + i, none⟩ = some (.string zn) := by rw [← hzn]; exact c1
          have i0 : (0 : Int) ≤ (i : Int) := by omega
          have i1 : (i : Int) < 10 := by omega
          have hbody : (s = [] ∧ (!(baL s).toList.isEmpty) = false ∧ zn = z) ∨ (s ≠ [] ∧ (!(baL s).toList.isEmpty) = true ∧ zn ++ z1 = z) := by
            rcases hb0 with ⟨h1, h2⟩ | ⟨h1, h2⟩
            · refine .inl ⟨h1, h2, ?_⟩
              rw [← hzn, ← hz]
              unfold bodyL
              rw [if_pos h1]
            · refine .inr ⟨h1, h2, ?_⟩
              rw [← hzn, ← hz, ← hz1, baL_append]
              unfold bodyL
              rw [if_neg h1]
          obtain ⟨y2, hy2⟩ : ∃ y, baL (formF 2 n s) = y := ⟨_, rfl⟩
          obtain ⟨y3, hy3⟩ : ∃ y, baL (formF 3 n []) = y := ⟨_, rfl⟩
          obtain ⟨y4, hy4⟩ : ∃ y, baL (formF 4 n s) = y := ⟨_, rfl⟩
          rw [hy2] at a4
          rw [hy3] at a7
          rw [hy4] at a5
          replace S2 : Hid (∀ (W : World) [T W], Calls Tryd.prog 11 #[.string y2] W fun en w' => ∃ v, en = .returned (.tuple #[v, intV e2]) ∧ LexAt w' v L2 ∧ Below W.heap.size W w') := by rw [← hy2]; exact S2
          replace S3 : Hid (∀ (W : World) [T W], Calls Tryd.prog 11 #[.string y3] W fun en w' => ∃ v, en = .returned (.tuple #[v, intV e3]) ∧ LexAt w' v L3 ∧ Below W.heap.size W w') := by rw [← hy3]; exact S3
          replace S4 : Hid (∀ (W : World) [T W], Calls Tryd.prog 11 #[.string y4] W fun en w' => ∃ v, en = .returned (.tuple #[v, intV e4]) ∧ LexAt w' v L4 ∧ Below W.heap.size W w') := by rw [← hy4]; exact S4
          clear hB q1 ht hn hnl f2 f3 f4 hbl hz hzn hz3 hz6 hz1 hy2 hy3 hy4 hb0
          rcases hbody with ⟨h1, h2, h3⟩ | ⟨h1, h2, h3⟩
          · subst h3
            have H1 := Lib.hid h1
            try have tH1 := T.below H1.out
            clear h1
            rcases hw with ⟨k1, k2, k3⟩ | ⟨k1, k2, k3⟩ | ⟨k1, k2⟩
            all_goals
              go_wp2_with fail
              refine (S2.out wk).mono ?_
              rintro e' w4 ⟨v2, rfl, _, h4⟩
              have B4 := Lib.hid (below_then HB.out h4)
              try have tB4 := T.below B4.out
              clear h4 c1
              go_wp2_with fail
              refine (S4.out w4).mono ?_
              rintro e' w5 ⟨v4, rfl, _, h5⟩
              have B5 := Lib.hid (below_then B4.out h5)
              try have tB5 := T.below B5.out
              clear h5
              go_wp2_with fail
              refine (S3.out w5).mono ?_
              rintro e' w6 ⟨v3, rfl, _, h6⟩
              have B6 := Lib.hid (below_then B5.out h6)
              try have tB6 := T.below B6.out
              clear h6
              go_wp2
              go_roundw
              case rel => exact ⟨i + 1, by omega, by go_num, B6.out⟩
              case measure => simp [intOf]; omega
          · have H1 := Lib.hid h1
            try have tH1 := T.below H1.out
            clear h1
            rcases hw with ⟨k1, k2, k3⟩ | ⟨k1, k2, k3⟩ | ⟨k1, k2⟩
            all_goals
              go_wp2_with fail
              refine (S2.out wk).mono ?_
              rintro e' w4 ⟨v2, rfl, _, h4⟩
              have B4 := Lib.hid (below_then HB.out h4)
              try have tB4 := T.below B4.out
              clear h4 c1
              go_wp2_with fail
              refine (S4.out w4).mono ?_
              rintro e' w5 ⟨v4, rfl, _, h5⟩
              have B5 := Lib.hid (below_then B4.out h5)
              try have tB5 := T.below B5.out
              clear h5
              go_wp2_with fail
              refine (S3.out w5).mono ?_
              rintro e' w6 ⟨v3, rfl, _, h6⟩
              have B6 := Lib.hid (below_then B5.out h6)
              try have tB6 := T.below B6.out
              clear h6
              go_wp2
              go_roundw
              case rel => exact ⟨i + 1, by omega, by go_num, B6.out⟩
              case measure => simp [intOf]; omega
        · obtain rfl : i = 10 := by omega
          have HB := Lib.hid (below_then B3.out hB)
          try have tHB := T.below HB.out
          clear hB
          go_wp2_with fail
          refine (HA.out wk).mono ?_
          rintro e' w9 ⟨rfl, h9⟩
          have B9 := Lib.hid (below_then HB.out h9)
          try have tB9 := T.below B9.out
          clear h9
          go_wp2
          go_ret
          exact ⟨rfl, B9.out⟩
theorem tags_w (H : MkOk) (w : World) [T w] (s : ByteArray) (hs : s.size ≤ maxLen) :
    Calls Tryd.prog 8 #[.string s] w fun e w' => e = .returned (.bool true) ∧ Below w.heap.size w w' := by
  have := tags_law H s.data.toList w hs
  unfold sV at this
  rwa [baL_list] at this
end Go.Proofs.YtdgihkgomfpmoaaDoor
