/- The reference: right, form. -/
import Derived.Test.YtdgihkgomfpmoaaGreatDoorMkRefB
namespace Go.Proofs.YtdgihkgomfpmoaaGreatDoor
set_option linter.unusedSimpArgs false
set_option linter.unusedVariables false
set_option maxRecDepth 100000
open Go.RowKit Go.Deep

set_option maxHeartbeats 4000000 in
theorem right_any (n v : Bs) (r : Bool) (hr : rightB n v = r) (hv : v.length ≤ maxLen) (w : World) :
    Calls Tryz.prog 35 #[sV n, sV v] w fun e w' => e = .returned (.bool r) ∧ Below w.heap.size w w' := by
  have HN64 := Lib.hid (fun W => number_any v 64 (by decide) (numB 64 v) rfl hv W)
  have HN8 := Lib.hid (fun W => number_any v 8 (by decide) (numB 8 v) rfl hv W)
  have HWO := Lib.hid (fun W => R01.refWord_at (baL v) (wordB v) rfl W)
  have HNA := Lib.hid (fun W => R01.refName_any (baL v) (by rw [baL_size]; exact hv) W)
  have hs := baL_toList n
  have hsv : (baL v).toList.isEmpty = decide (v = []) := by rw [baL_toList]; cases v <;> simp
  obtain ⟨ve, hve⟩ : ∃ b, decide (v = []) = b := ⟨_, rfl⟩
  rw [hve] at hsv
  obtain ⟨b1, h1⟩ : ∃ b, (n == [108, 98]) = b := ⟨_, rfl⟩
  obtain ⟨b2, h2⟩ : ∃ b, (n == [118]) = b := ⟨_, rfl⟩
  obtain ⟨b3, h3⟩ : ∃ b, (n == [117, 110, 99, 108, 101, 97, 114]) = b := ⟨_, rfl⟩
  obtain ⟨b4, h4⟩ : ∃ b, (n == [103, 97, 112]) = b := ⟨_, rfl⟩
  obtain ⟨b5, h5⟩ : ∃ b, (n == [97, 100, 100]) = b := ⟨_, rfl⟩
  obtain ⟨b6, h6⟩ : ∃ b, (n == [100, 101, 108]) = b := ⟨_, rfl⟩
  obtain ⟨b7, h7⟩ : ∃ b, (n == [97, 98]) = b := ⟨_, rfl⟩
  have hR : r = (if (b1 || b2 || b3) = true then ve else if b4 = true then numB 64 v else if (b5 || b6) = true then numB 8 v else if b7 = true then wordB v else nameB v) := by
    rw [← hr, ← h1, ← h2, ← h3, ← h4, ← h5, ← h6, ← h7, ← hve]
    unfold rightB tLb tV tUn tGap tAdd tDel tAb
    simp only [Bool.or_eq_true, beq_iff_eq, or_assoc]
  have HRR := Lib.hid hR
  obtain ⟨z, hz⟩ : ∃ z, baL n = z := ⟨_, rfl⟩
  show Calls Tryz.prog _ #[.string (baL n), .string (baL v)] w _
  obtain ⟨y, hy⟩ : ∃ y, baL v = y := ⟨_, rfl⟩
  rw [hz] at hs ⊢
  rw [← hs] at h1 h2 h3 h4 h5 h6 h7
  replace HN64 : Hid (∀ W, Calls Tryz.prog 49 #[.string y, .int .i64 64] W fun e w' => e = .returned (.bool (numB 64 v)) ∧ w' = W) := by rw [← hy]; exact HN64
  replace HN8 : Hid (∀ W, Calls Tryz.prog 49 #[.string y, .int .i64 8] W fun e w' => e = .returned (.bool (numB 8 v)) ∧ w' = W) := by rw [← hy]; exact HN8
  replace HWO : Hid (∀ W, Calls Tryz.prog 50 #[.string y] W fun e w' => e = .returned (.bool (wordB v)) ∧ Below W.heap.size W w') := by rw [← hy]; exact HWO
  replace HNA : Hid (∀ W, Calls Tryz.prog 51 #[.string y] W fun e w' => e = .returned (.bool (nameB v)) ∧ Below W.heap.size W w') := by rw [← hy]; exact HNA
  rw [hy] at hsv ⊢
  clear hr hv hs hve hR hz hy
  cases b1 with
  | true =>
    go_enter Tryz.func35, Tryz.ntmps35
    go_wp2
    go_ret
    exact ⟨ret_bool (by rw [HRR.out]; rfl), Below.refl _ _⟩
  | false =>
  cases b2 with
  | true =>
    go_enter Tryz.func35, Tryz.ntmps35
    go_wp2
    go_ret
    exact ⟨ret_bool (by rw [HRR.out]; rfl), Below.refl _ _⟩
  | false =>
  cases b3 with
  | true =>
    go_enter Tryz.func35, Tryz.ntmps35
    go_wp2
    go_ret
    exact ⟨ret_bool (by rw [HRR.out]; rfl), Below.refl _ _⟩
  | false =>
  cases b4 with
  | true =>
    go_enter Tryz.func35, Tryz.ntmps35
    go_wp2_with fail
    refine (HN64.out w).mono ?_
    rintro e w1 ⟨rfl, rfl⟩
    go_wp2
    go_ret
    exact ⟨ret_bool (by rw [HRR.out]; rfl), Below.refl _ _⟩
  | false =>
  cases b5 with
  | true =>
    go_enter Tryz.func35, Tryz.ntmps35
    go_wp2_with fail
    refine (HN8.out w).mono ?_
    rintro e w1 ⟨rfl, rfl⟩
    go_wp2
    go_ret
    exact ⟨ret_bool (by rw [HRR.out]; rfl), Below.refl _ _⟩
  | false =>
  cases b6 with
  | true =>
    go_enter Tryz.func35, Tryz.ntmps35
    go_wp2_with fail
    refine (HN8.out w).mono ?_
    rintro e w1 ⟨rfl, rfl⟩
    go_wp2
    go_ret
    exact ⟨ret_bool (by rw [HRR.out]; rfl), Below.refl _ _⟩
  | false =>
  cases b7 with
  | true =>
    go_enter Tryz.func35, Tryz.ntmps35
    go_wp2_with fail
    refine (HWO.out w).mono ?_
    rintro e w1 ⟨rfl, hb⟩
    have HB := Lib.hid hb
    clear hb
    go_wp2
    go_ret
    exact ⟨ret_bool (by rw [HRR.out]; rfl), HB.out⟩
  | false =>
    go_enter Tryz.func35, Tryz.ntmps35
    go_wp2_with fail
    refine (HNA.out w).mono ?_
    rintro e w1 ⟨rfl, hb⟩
    have HB := Lib.hid hb
    clear hb
    go_wp2
    go_ret
    exact ⟨ret_bool (by rw [HRR.out]; rfl), HB.out⟩
set_option maxHeartbeats 4000000 in
theorem form_any (k : Int) (n v : Bs) (o : Int) (t : Bs) (ht : formF k n v = t) (hl : n.length + v.length ≤ 200000) (w : World) :
    Calls Tryz.prog 31 #[.agg #[intV k, sV n, sV v, intV o]] w fun e w' => e = .returned (sV t) ∧ Below w.heap.size w w' := by
  have HT := Lib.hid ht
  have hve : (v = [] ∧ (!(baL v).toList.isEmpty) = false ∧ bodyL n v = n) ∨ (v ≠ [] ∧ (!(baL v).toList.isEmpty) = true ∧ bodyL n v = n ++ [32] ++ v) := by
    rw [baL_toList]
    cases v with
    | nil => exact .inl ⟨rfl, rfl, rfl⟩
    | cons c l => exact .inr ⟨by simp, rfl, by simp [bodyL]⟩
  obtain ⟨zn, hzn⟩ : ∃ z, baL n = z := ⟨_, rfl⟩
  obtain ⟨zv, hzv⟩ : ∃ z, baL v = z := ⟨_, rfl⟩
  obtain ⟨zb, hzb⟩ : ∃ z, baL (bodyL n v) = z := ⟨_, rfl⟩
  obtain ⟨zm, hzm⟩ : ∃ z, baL (n ++ [32]) = z := ⟨_, rfl⟩
  obtain ⟨z3, hz3⟩ : ∃ z, baL (60 :: bodyL n v) = z := ⟨_, rfl⟩
  obtain ⟨z6, hz6⟩ : ∃ z, baL (60 :: 47 :: n) = z := ⟨_, rfl⟩
  have hbl : (bodyL n v).length ≤ 200001 := by
    unfold bodyL
    split
    · omega
    · rw [List.length_append, List.length_cons]; omega
  have a1 : zn ++ (⟨#[32]⟩ : ByteArray) = zm := by rw [← hzm, ← hzn]; exact baL_append n [32]
  have a3 : (⟨#[60]⟩ : ByteArray) ++ zb = z3 := by rw [← hz3, ← hzb]; exact baL_append [60] _
  have a4 : z3 ++ (⟨#[62]⟩ : ByteArray) = baL (formF 2 n v) := by rw [← hz3]; exact baL_append _ [62]
  have a5 : z3 ++ (⟨#[47, 62]⟩ : ByteArray) = baL (formF 4 n v) := by rw [← hz3]; exact baL_append _ [47, 62]
  have a6 : (⟨#[60, 47]⟩ : ByteArray) ++ zn = z6 := by rw [← hz6, ← hzn]; exact baL_append [60, 47] n
  have a7 : z6 ++ (⟨#[62]⟩ : ByteArray) = baL (formF 3 n v) := by rw [← hz6]; exact baL_append _ [62]
  have l1 : zn.size ≤ 200001 := by rw [← hzn, baL_size]; omega
  have l2 : zv.size ≤ 200001 := by rw [← hzv, baL_size]; omega
  have l3 : zb.size ≤ 200001 := by rw [← hzb, baL_size]; exact hbl
  have l4 : zm.size ≤ 200001 := by rw [← hzm, baL_size, List.length_append]; simp; omega
  have l5 : z3.size ≤ 200002 := by rw [← hz3, baL_size, List.length_cons]; omega
  have l6 : z6.size ≤ 200002 := by rw [← hz6, baL_size, List.length_cons, List.length_cons]; omega
  have hbody : ((!zv.toList.isEmpty) = false ∧ zn = zb) ∨ ((!zv.toList.isEmpty) = true ∧ zm ++ zv = zb) := by
    rcases hve with ⟨_, h2, h3⟩ | ⟨_, h2, h3⟩
    · exact .inl ⟨by rw [← hzv]; exact h2, by rw [← hzn, ← hzb, h3]⟩
    · exact .inr ⟨by rw [← hzv]; exact h2, by rw [← hzm, ← hzv, ← hzb, h3, baL_append]⟩
  obtain ⟨y2, hy2⟩ : ∃ y, baL (formF 2 n v) = y := ⟨_, rfl⟩
  obtain ⟨y3, hy3⟩ : ∃ y, baL (formF 3 n v) = y := ⟨_, rfl⟩
  obtain ⟨y4, hy4⟩ : ∃ y, baL (formF 4 n v) = y := ⟨_, rfl⟩
  rw [hy2] at a4
  rw [hy3] at a7
  rw [hy4] at a5
  have HY2 := Lib.hid hy2
  have HY3 := Lib.hid hy3
  have HY4 := Lib.hid hy4
  have HYV := Lib.hid hzv
  have HB := Lib.hid (fun o => alloc_below w o)
  show Calls Tryz.prog _ #[.agg #[intV k, .string (baL n), .string (baL v), intV o]] w _
  rw [hzn, hzv]
  clear ht hve hzn hzv hzb hzm hz3 hz6 hbl hy2 hy3 hy4 hl
  rcases hbody with ⟨h1, h2⟩ | ⟨h1, h2⟩
  · subst h2
    by_cases k2 : k = 2
    · have q2 : (k == 2) = true := by simp [k2]
      have HK := Lib.hid k2
      clear k2
      go_enter Tryz.func31, Tryz.ntmps31
      go_wp2
      go_ret
      exact ⟨by rw [← HT.out, HK.out, ← HY2.out]; rfl, HB.out _⟩
    · have q2 : (k == 2) = false := by simpa using k2
      by_cases k3 : k = 3
      · have q3 : (k == 3) = true := by simp [k3]
        have HK := Lib.hid k3
        clear k2 k3
        go_enter Tryz.func31, Tryz.ntmps31
        go_wp2
        go_ret
        exact ⟨by rw [← HT.out, HK.out, ← HY3.out]; rfl, HB.out _⟩
      · have q3 : (k == 3) = false := by simpa using k3
        by_cases k4 : k = 4
        · have q4 : (k == 4) = true := by simp [k4]
          have HK := Lib.hid k4
          clear k2 k3 k4
          go_enter Tryz.func31, Tryz.ntmps31
          go_wp2
          go_ret
          exact ⟨by rw [← HT.out, HK.out, ← HY4.out]; rfl, HB.out _⟩
        · have q4 : (k == 4) = false := by simpa using k4
          have HK := Lib.hid (show formF k n v = v by unfold formF; rw [if_neg k2, if_neg k3, if_neg k4])
          clear k2 k3 k4
          go_enter Tryz.func31, Tryz.ntmps31
          go_wp2
          go_ret
          exact ⟨by rw [← HT.out, HK.out, ← HYV.out]; rfl, HB.out _⟩
  · by_cases k2 : k = 2
    · have q2 : (k == 2) = true := by simp [k2]
      have HK := Lib.hid k2
      clear k2
      go_enter Tryz.func31, Tryz.ntmps31
      go_wp2
      go_ret
      exact ⟨by rw [← HT.out, HK.out, ← HY2.out]; rfl, HB.out _⟩
    · have q2 : (k == 2) = false := by simpa using k2
      by_cases k3 : k = 3
      · have q3 : (k == 3) = true := by simp [k3]
        have HK := Lib.hid k3
        clear k2 k3
        go_enter Tryz.func31, Tryz.ntmps31
        go_wp2
        go_ret
        exact ⟨by rw [← HT.out, HK.out, ← HY3.out]; rfl, HB.out _⟩
      · have q3 : (k == 3) = false := by simpa using k3
        by_cases k4 : k = 4
        · have q4 : (k == 4) = true := by simp [k4]
          have HK := Lib.hid k4
          clear k2 k3 k4
          go_enter Tryz.func31, Tryz.ntmps31
          go_wp2
          go_ret
          exact ⟨by rw [← HT.out, HK.out, ← HY4.out]; rfl, HB.out _⟩
        · have q4 : (k == 4) = false := by simpa using k4
          have HK := Lib.hid (show formF k n v = v by unfold formF; rw [if_neg k2, if_neg k3, if_neg k4])
          clear k2 k3 k4
          go_enter Tryz.func31, Tryz.ntmps31
          go_wp2
          go_ret
          exact ⟨by rw [← HT.out, HK.out, ← HYV.out]; rfl, HB.out _⟩
end Go.Proofs.YtdgihkgomfpmoaaGreatDoor
