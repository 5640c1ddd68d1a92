/- Parse of layer 2, over every string. -/
import Derived.Test.YtkiaiiepfphllaaDoorFpCut
import Derived.Test.YtkiaiiepfphllaaDoorFpProg
namespace Go.Proofs.YtkiaiiepfphllaaDoor
set_option linter.unusedSimpArgs false
set_option linter.unusedVariables false
set_option maxRecDepth 100000
open Go.RowKit

theorem parse_big (s : ByteArray) (h : 65536 < s.size) (hs : s.size ≤ maxLen) (w : World) :
    Calls Tryd.prog 11 #[.string s] w fun e w' => e = .returned (pairV (parseR s.data.toList)) ∧ Below w.heap.size w w' := by
  unfold maxLen at hs
  have hr : parseR s.data.toList = (0, 4) := by rw [parseR, if_pos (by rw [size_list]; exact h)]
  rw [hr]
  clear hr
  go_enter Tryd.func11, Tryd.ntmps11
  go_wp2
  go_ret2
  exact ⟨rfl, Below.refl _ _⟩

theorem amt_size (l : List UInt8) : (amtOf l).length ≤ l.length := by
  rw [amtOf, Lib.trimPrefix]; split
  · simp
  · exact Nat.le_refl _
theorem cut_size (l : List UInt8) : (cutW l).length ≤ l.length ∧ (cutP l).length ≤ l.length := by
  have h := congrArg List.length (cut_split l)
  rw [List.length_append] at h
  omega
theorem num_size (l : List UInt8) : (Lib.trimSuffix l [112, 116]).length ≤ l.length := by
  rw [Lib.trimSuffix]; split
  · simp
  · exact Nat.le_refl _
def baL (l : List UInt8) : ByteArray := ⟨l.toArray⟩
theorem baL_list (l : List UInt8) : (baL l).data.toList = l := rfl
theorem baL_size (l : List UInt8) : (baL l).size = l.length := by rw [← size_list]; rfl

set_option maxHeartbeats 2000000 in
theorem parse_bad (s : ByteArray) (hs : s.size ≤ 65536) (h : (Lib.hasSuffix s.data.toList [112, 116] && formB (Lib.trimSuffix s.data.toList [112, 116])) = false) (w : World) :
    Calls Tryd.prog 11 #[.string s] w fun e w' => e = .returned (pairV (parseR s.data.toList)) ∧ Below w.heap.size w w' := by
  have hr : parseR s.data.toList = (0, 3) := by rw [parseR, if_neg (by rw [size_list]; omega), if_neg (by rw [h]; simp)]
  rw [hr]
  clear hr
  obtain ⟨hu, h1⟩ : ∃ hu, Lib.hasSuffix s.data.toList [112, 116] = hu := ⟨_, rfl⟩
  obtain ⟨b, hb⟩ : ∃ b, Lib.trimSuffix s.data.toList [112, 116] = b := ⟨_, rfl⟩
  have hbs : b.length ≤ 65536 := by rw [← hb]; exact Nat.le_trans (num_size _) (by rw [size_list]; exact hs)
  rw [h1, hb] at h
  have C1 := Lib.hid (suffix_at s (baL b) hu (by rw [baL_list, hb]) h1 hs)
  obtain ⟨ng, h2⟩ : ∃ ng, isNeg b = ng := ⟨_, rfl⟩
  obtain ⟨a, ha⟩ : ∃ a, amtOf b = a := ⟨_, rfl⟩
  have has : a.length ≤ 65536 := by rw [← ha]; exact Nat.le_trans (amt_size _) hbs
  have C2 := Lib.hid (prefix_at (baL b) (baL a) ng (by rw [baL_list, baL_list, ha]) (by rw [baL_list, h2]))
  obtain ⟨hp, h3⟩ : ∃ hp, (cutP a).isEmpty = hp := ⟨_, rfl⟩
  obtain ⟨wh, hw⟩ : ∃ wh, cutW a = wh := ⟨_, rfl⟩
  obtain ⟨fr, hf⟩ : ∃ fr, (cutP a).tail = fr := ⟨_, rfl⟩
  have hws : wh.length ≤ 65536 := by rw [← hw]; exact Nat.le_trans (cut_size _).1 has
  have hfs : fr.length ≤ 65536 := by rw [← hf, List.length_tail]; exact Nat.le_trans (Nat.sub_le _ _) (Nat.le_trans (cut_size _).2 has)
  have C3 := Lib.hid (cut_any (baL a) (baL wh) (baL fr) (!hp) (by rw [baL_list, baL_list, hw]) (by rw [baL_list, baL_list, hf]) (by rw [baL_list, h3]) (by rw [baL_size]; exact has))
  obtain ⟨wb, h4⟩ : ∃ wb, wholeB wh = wb := ⟨_, rfl⟩
  obtain ⟨fb, h5⟩ : ∃ fb, fracB fr = fb := ⟨_, rfl⟩
  have C4 := Lib.hid (whole_at (baL wh) wh wb rfl h4 (by rw [baL_size]; exact hws))
  have C5 := Lib.hid (frac_at (baL fr) fr fb rfl h5 (by rw [baL_size]; exact hfs))
  obtain ⟨z, h6⟩ : ∃ z, (a == [48]) = z := ⟨_, rfl⟩
  have H6 := Lib.hid (show ((baL a).toList == [48]) = z by rw [ByteArray.toList_eq]; exact h6)
  rw [formB, h2, ha, hw, hf, h3, h4, h5, h6] at h
  have H := Lib.hid h
  obtain ⟨sn, hsn⟩ : ∃ x, baL b = x := ⟨_, rfl⟩
  obtain ⟨sa, hsa⟩ : ∃ x, baL a = x := ⟨_, rfl⟩
  obtain ⟨sw, hsw⟩ : ∃ x, baL wh = x := ⟨_, rfl⟩
  obtain ⟨sf, hsf⟩ : ∃ x, baL fr = x := ⟨_, rfl⟩
  rw [hsn] at C1 C2
  rw [hsa] at C2 C3 H6
  rw [hsw] at C3 C4
  rw [hsf] at C3 C5
  clear h h1 h2 h3 h4 h5 h6 hb ha hw hf hsn hsa hsw hsf hbs has hws hfs
  have hcases : hu = false ∨ (hu = true ∧ (wb = false ∨ (wb = true ∧ ((hp = false ∧ fb = false) ∨ (hp = false ∧ fb = true ∧ ng = true ∧ z = true) ∨ (hp = true ∧ ng = true ∧ z = true))))) := by
    have := H.out
    revert this
    cases hu <;> cases wb <;> cases hp <;> cases fb <;> cases ng <;> cases z <;> simp
  rcases hcases with rfl | ⟨rfl, rfl | ⟨rfl, ⟨rfl, rfl⟩ | ⟨rfl, rfl, rfl, rfl⟩ | ⟨rfl, rfl, rfl⟩⟩⟩
  all_goals
    have h6 := H6.out
    go_enter Tryd.func11, Tryd.ntmps11
    go_wp2_with (first
      | (go_at_call 30; refine (C1.out _).mono ?_; rintro e w' ⟨rfl, rfl⟩)
      | (go_at_call 31; refine (C2.out _).mono ?_; rintro e w' ⟨rfl, rfl⟩)
      | (go_at_call 32; refine (C3.out _).mono ?_; rintro e w1 ⟨rfl, hb1⟩; have HB1 := Lib.hid hb1; clear hb1)
      | (go_at_call 33; refine (C4.out _).mono ?_; rintro e w2 ⟨rfl, hb2⟩; have HB2 := Lib.hid hb2; clear hb2)
      | (go_at_call 34; refine (C5.out _).mono ?_; rintro e w3 ⟨rfl, hb3⟩; have HB3 := Lib.hid hb3; clear hb3))
    go_ret2
    first
      | exact ⟨rfl, below_seq (below_seq HB1.out HB2.out (Nat.le_refl _)) HB3.out (Nat.le_refl _)⟩
      | exact ⟨rfl, below_seq HB1.out HB2.out (Nat.le_refl _)⟩
      | exact ⟨rfl, HB1.out⟩
set_option maxHeartbeats 4000000 in
theorem parse_good (s : ByteArray) (hs : s.size ≤ 65536) (h : (Lib.hasSuffix s.data.toList [112, 116] && formB (Lib.trimSuffix s.data.toList [112, 116])) = true) (w : World) :
    Calls Tryd.prog 11 #[.string s] w fun e w' => e = .returned (pairV (parseR s.data.toList)) ∧ Below w.heap.size w w' := by
  have hr : parseR s.data.toList = signed (isNeg (Lib.trimSuffix s.data.toList [112, 116])) (valZ' (amtOf (Lib.trimSuffix s.data.toList [112, 116]))) := by rw [parseR, if_neg (by rw [size_list]; omega), if_pos h]
  rw [hr]
  clear hr
  rw [Bool.and_eq_true] at h
  obtain ⟨h1, h⟩ := h
  obtain ⟨b, hb⟩ : ∃ b, Lib.trimSuffix s.data.toList [112, 116] = b := ⟨_, rfl⟩
  have hbs : b.length ≤ 65536 := by rw [← hb]; exact Nat.le_trans (num_size _) (by rw [size_list]; exact hs)
  rw [hb] at h ⊢
  have C1 := Lib.hid (suffix_at s (baL b) true (by rw [baL_list, hb]) h1 hs)
  obtain ⟨ng, h2⟩ : ∃ ng, isNeg b = ng := ⟨_, rfl⟩
  obtain ⟨a, ha⟩ : ∃ a, amtOf b = a := ⟨_, rfl⟩
  have has : a.length ≤ 65536 := by rw [← ha]; exact Nat.le_trans (amt_size _) hbs
  have C2 := Lib.hid (prefix_at (baL b) (baL a) ng (by rw [baL_list, baL_list, ha]) (by rw [baL_list, h2]))
  obtain ⟨hp, h3⟩ : ∃ hp, (cutP a).isEmpty = hp := ⟨_, rfl⟩
  obtain ⟨wh, hw⟩ : ∃ wh, cutW a = wh := ⟨_, rfl⟩
  obtain ⟨fr, hf⟩ : ∃ fr, (cutP a).tail = fr := ⟨_, rfl⟩
  have hws : wh.length ≤ 65536 := by rw [← hw]; exact Nat.le_trans (cut_size _).1 has
  have C3 := Lib.hid (cut_any (baL a) (baL wh) (baL fr) (!hp) (by rw [baL_list, baL_list, hw]) (by rw [baL_list, baL_list, hf]) (by rw [baL_list, h3]) (by rw [baL_size]; exact has))
  have hform := h
  rw [formB, Bool.and_eq_true, Bool.and_eq_true] at hform
  obtain ⟨⟨g1, g2⟩, g3⟩ := hform
  rw [ha] at g1 g2 g3
  obtain ⟨hfs, hfd⟩ := frac_len g2
  rw [hw] at g1
  rw [hf] at hfs hfd
  have hwd := ((wholeB_iff wh).1 g1).2.1
  rw [h3, hf] at g2
  rw [h2] at g3 ⊢
  have C4 := Lib.hid (whole_at (baL wh) wh true rfl g1 (by rw [baL_size]; exact hws))
  obtain ⟨fb, h5⟩ : ∃ fb, fracB fr = fb := ⟨_, rfl⟩
  rw [h5] at g2
  have C5 := Lib.hid (frac_at (baL fr) fr fb rfl h5 (by rw [baL_size]; omega))
  obtain ⟨z, h6⟩ : ∃ z, (a == [48]) = z := ⟨_, rfl⟩
  rw [h6] at g3
  have H6 := Lib.hid (show ((baL a).toList == [48]) = z by rw [ByteArray.toList_eq]; exact h6)
  obtain ⟨c, hc⟩ : ∃ c : Nat, c = 3 - fr.length := ⟨_, rfl⟩
  have hc3 : (3 : Int) - (baL fr).size = c := by rw [baL_size]; omega
  have C6 := Lib.hid (repeat_at c (baL (List.replicate c 48)) (baL_list _) (by omega))
  obtain ⟨v, hv⟩ : ∃ v, valZ' a = v := ⟨_, rfl⟩
  have hx : numV (wh ++ fr ++ List.replicate c 48) = v := by rw [← hv, valZ', hw, hf, pad3, hc, List.append_assoc]
  have hxd : allDig (wh ++ fr ++ List.replicate c 48) = true := by
    have := allDig_pad hfd
    rw [pad3, ← hc] at this
    rw [List.append_assoc, allDig_append, hwd, this]; rfl
  have v0 : 0 ≤ v := by rw [← hx]; exact numV_nonneg hxd
  have hcz : (List.replicate c (48 : UInt8)).length ≤ 3 := by simp; omega
  obtain ⟨zr, hzr⟩ : ∃ zr, List.replicate c (48 : UInt8) = zr := ⟨_, rfl⟩
  rw [hzr] at C6 hx hxd hcz
  have hX : (baL wh ++ baL fr ++ baL zr).data.toList = wh ++ fr ++ zr := by simp [baL]
  have hXs : (baL wh ++ baL fr ++ baL zr).size ≤ 1000000 := by rw [← size_list, hX]; simp; omega
  have D1 := Lib.hid (fun hbig : 1073741824 < v => digits_big (baL wh ++ baL fr ++ baL zr) _ hX hxd (by rw [hx]; exact hbig) hXs)
  have D2 := Lib.hid (fun hfit : v ≤ 1073741824 => digits_fit (baL wh ++ baL fr ++ baL zr) _ v hX hxd hx hfit hXs)
  rw [ha, hv]
  have S1 : (baL wh).size ≤ 65536 := by rw [baL_size]; exact hws
  have S2 : (baL fr).size ≤ 3 := by rw [baL_size]; exact hfs
  have S3 : (baL zr).size ≤ 3 := by rw [baL_size]; exact hcz
  obtain ⟨sn, hsn⟩ : ∃ x, baL b = x := ⟨_, rfl⟩
  obtain ⟨sa, hsa⟩ : ∃ x, baL a = x := ⟨_, rfl⟩
  obtain ⟨sw, hsw⟩ : ∃ x, baL wh = x := ⟨_, rfl⟩
  obtain ⟨sf, hsf⟩ : ∃ x, baL fr = x := ⟨_, rfl⟩
  obtain ⟨sz, hsz⟩ : ∃ x, baL zr = x := ⟨_, rfl⟩
  rw [hsn] at C1 C2
  rw [hsa] at C2 C3 H6
  rw [hsw] at C3 C4 D1 D2 S1
  rw [hsf] at C3 C5 D1 D2 S2 hc3
  rw [hsz] at C6 D1 D2 S3
  clear h h1 h2 h3 h5 h6 hb ha hw hf hsn hsa hsw hsf hsz hbs has hws hfs hfd hwd g1 hc hv hx hxd hcz hzr hX hXs
  have hcases : (hp = true ∨ (hp = false ∧ fb = true)) ∧ (ng = false ∨ (ng = true ∧ z = false)) := by
    revert g2 g3
    cases hp <;> cases fb <;> cases ng <;> cases z <;> simp
  clear g2 g3
  have hvs : 1073741824 < v ∨ v ≤ 1073741824 := by omega
  obtain ⟨k1, k2⟩ := hcases
  rcases k1 with rfl | ⟨rfl, rfl⟩ <;> rcases k2 with rfl | ⟨rfl, rfl⟩ <;> rcases hvs with hv | hv
  all_goals
    have h6 := H6.out
    go_enter Tryd.func11, Tryd.ntmps11
    go_wp2_with (first
      | (go_at_call 30; refine (C1.out _).mono ?_; rintro e w' ⟨rfl, rfl⟩)
      | (go_at_call 31; refine (C2.out _).mono ?_; rintro e w' ⟨rfl, rfl⟩)
      | (go_at_call 32; refine (C3.out _).mono ?_; rintro e w1 ⟨rfl, hb1⟩; have HB1 := Lib.hid hb1; clear hb1)
      | (go_at_call 33; refine (C4.out _).mono ?_; rintro e w2 ⟨rfl, hb2⟩; have HB2 := Lib.hid (below_seq HB1.out hb2 (Nat.le_refl _)); clear hb2)
      | (go_at_call 34; refine (C5.out _).mono ?_; rintro e w3 ⟨rfl, hb3⟩; have HB3 := Lib.hid (below_seq HB2.out hb3 (Nat.le_refl _)); clear hb3)
      | (go_at_call 36; refine (C6.out _).mono ?_; rintro e w4 ⟨rfl, hb4⟩; have HB4 := Lib.hid (show Below w.heap.size w w4 from by first | exact below_seq HB3.out hb4 (Nat.le_refl _) | exact below_seq HB2.out hb4 (Nat.le_refl _)); clear hb4))
    first
      | (refine (D2.out hv _).mono ?_
         rintro e w5 ⟨rfl, hb5⟩
         have HB5 := Lib.hid (below_seq HB4.out hb5 (Nat.le_refl _))
         clear hb5
         go_wp2
         go_ret2
         exact ⟨ret_pair (by rw [signed, if_neg (by omega)]; simp), HB5.out⟩)
      | (refine (D1.out hv _).mono ?_
         rintro e w5 ⟨r, rfl, r1, r2, hb5⟩
         have HB5 := Lib.hid (below_seq HB4.out hb5 (Nat.le_refl _))
         clear hb5
         go_wp2
         go_ret2
         exact ⟨ret_pair (by rw [signed, if_pos hv]), HB5.out⟩)

theorem parse_any (s : ByteArray) (hs : s.size ≤ maxLen) (w : World) :
    Calls Tryd.prog 11 #[.string s] w fun e w' => e = .returned (pairV (parseR s.data.toList)) ∧ Below w.heap.size w w' := by
  by_cases h1 : 65536 < s.size
  · exact parse_big s h1 hs w
  · by_cases h : (Lib.hasSuffix s.data.toList [112, 116] && formB (Lib.trimSuffix s.data.toList [112, 116])) = true
    · exact parse_good s (by omega) h w
    · exact parse_bad s (by omega) (by simpa using h) w
theorem parse_at (s : ByteArray) (r : Int × Int) (h : parseR s.data.toList = r) (hs : s.size ≤ maxLen) (w : World) :
    Calls Tryd.prog 11 #[.string s] w fun e w' => e = .returned (pairV r) ∧ Below w.heap.size w w' := by subst h; exact parse_any s hs w
end Go.Proofs.YtkiaiiepfphllaaDoor
