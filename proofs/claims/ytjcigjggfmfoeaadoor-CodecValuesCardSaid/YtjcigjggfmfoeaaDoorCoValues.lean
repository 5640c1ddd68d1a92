/- CodecValues: the law's walk. Written by tools/gen_covalues.py. -/
import Derived.Test.YtjcigjggfmfoeaaDoorCoTwo
import Derived.Test.YtjcigjggfmfoeaaDoorCoRefE2
namespace Go.Proofs.YtjcigjggfmfoeaaDoor
set_option linter.unusedSimpArgs false
set_option linter.unusedVariables false
set_option maxRecDepth 100000
open Go.RowKit Go.Deep

theorem small_len {W : World} {P : Nat → Prop} {x : Val} {v : Value} (hv : VAt W P v x) (h : SmallV x) : tot x ≤ 65536 ∧ (enc x).length ≤ 1048576 := by
  obtain ⟨h1, h2⟩ := h
  have := enc_len.1 x (vat_rng.1 x v hv) h1
  omega
set_option maxHeartbeats 4000000 in
theorem values_law (a b : Val) (va vb : Value) (P Q : Nat → Prop) (w : World) (hva : VAt w P va a) (hvb : VAt w Q vb b) (hT : Tab w) :
    Calls Tryd.prog 3 #[va, vb] w fun e w' => e = .returned (.bool true) ∧ Below w.heap.size w w' := by
  obtain ⟨so, sc, rfl, _⟩ := hva.agg
  obtain ⟨ro, rc, rfl, _⟩ := hvb.agg
  obtain ⟨w1, hw1⟩ : ∃ X, w.alloc (.cells #[intV a.kd, intV a.nm, .string a.tx, .slice so a.its.length sc] 24) = X := ⟨_, rfl⟩
  obtain ⟨w2, hw2⟩ : ∃ X, w1.alloc (.cells #[intV b.kd, intV b.nm, .string b.tx, .slice ro b.its.length rc] 24) = X := ⟨_, rfl⟩
  have hb1 : Below w.heap.size w w1 := by rw [← hw1]; exact below_box0 w _
  have hb2 : Below w1.heap.size w1 w2 := by rw [← hw2]; exact below_box0 w1 _
  have hx1 := heap_alloc_new w (.cells #[intV a.kd, intV a.nm, .string a.tx, .slice so a.its.length sc] 24)
  rw [hw1] at hx1
  have hx2 := heap_alloc_new w1 (.cells #[intV b.kd, intV b.nm, .string b.tx, .slice ro b.its.length rc] 24)
  rw [hw2] at hx2
  have hs1 : w1.heap.size = w.heap.size + 1 := by rw [← hw1]; simp
  rw [hs1] at hx2
  have HB2 := Lib.hid (below_seq hb1 hb2 hb1.size)
  have HXa2 := Lib.hid ((hb2.block _ (heap_lt hx1)).trans hx1)
  have HXb2 := Lib.hid hx2
  have HVa2 := Lib.hid ((hva.below hb1).below hb2)
  have HVb2 := Lib.hid ((hvb.below hb1).below hb2)
  have hw12 : (w.alloc (.cells #[intV a.kd, intV a.nm, .string a.tx, .slice so a.its.length sc] 24)).alloc (.cells #[intV b.kd, intV b.nm, .string b.tx, .slice ro b.its.length rc] 24) = w2 := by rw [hw1, hw2]
  have HW := Lib.hid hw12
  have HT := Lib.hid hT
  clear hva hvb hw1 hw2 hb1 hb2 hx1 hx2 hs1 hT hw12
  obtain ⟨c0, c1, c2, c3⟩ := heap4 HXa2.out
  go_enter Tryd.func3, Tryd.ntmps3
  go_upto_region 1 with fail
  rw [HW.out]
  go_wp2_with fail
  refine (great_any a _ _ w2 HVa2.out).mono ?_
  rintro e w3 ⟨ba, rfl, hga, h3⟩
  have HB3 := Lib.hid (below_seq HB2.out h3 HB2.out.size)
  have HXa3 := Lib.hid ((h3.block _ (heap_lt HXa2.out)).trans HXa2.out)
  have HXb3 := Lib.hid ((h3.block _ (heap_lt HXb2.out)).trans HXb2.out)
  have HVa3 := Lib.hid (HVa2.out.below h3)
  have HVb3 := Lib.hid (HVb2.out.below h3)
  have HGA := Lib.hid hga
  clear h3 hga c0 c1 c2 c3
  cases ba with
  | true =>
    go_wp2_with fail
    refine (awake_any w3 (HT.out.below HB3.out)).mono ?_
    rintro e wz ⟨rfl, hz⟩
    have HBZ := Lib.hid (below_seq HB3.out hz HB3.out.size)
    clear hz
    go_wp2_with fail
    go_ret
    exact ⟨rfl, HBZ.out⟩
  | false =>
    obtain ⟨e0, e1, e2, e3⟩ := heap4 HXb3.out
    go_wp2_with fail
    refine (great_any b _ _ w3 HVb3.out).mono ?_
    rintro e w4 ⟨bb, rfl, hgb, h4⟩
    have HB4 := Lib.hid (below_seq HB3.out h4 HB3.out.size)
    have HXa4 := Lib.hid ((h4.block _ (heap_lt HXa3.out)).trans HXa3.out)
    have HXb4 := Lib.hid ((h4.block _ (heap_lt HXb3.out)).trans HXb3.out)
    have HVa4 := Lib.hid (HVa3.out.below h4)
    have HVb4 := Lib.hid (HVb3.out.below h4)
    clear h4 hgb e0 e1 e2 e3
    obtain rfl | rfl : bb = true ∨ bb = false := by cases bb <;> simp
    · skip
      go_wp2_with fail
      refine (awake_any w4 (HT.out.below HB4.out)).mono ?_
      rintro e wz ⟨rfl, hz⟩
      have HBZ := Lib.hid (below_seq HB4.out hz HB4.out.size)
      clear hz
      go_wp2_with fail
      go_ret
      exact ⟨rfl, HBZ.out⟩
    obtain ⟨hta, hla⟩ := small_len HVa4.out (HGA.out (by simp))
    obtain ⟨r, hr⟩ : ∃ r, chk a = r := ⟨_, rfl⟩
    obtain ⟨n, hn⟩ : ∃ n : Int, (if chk a = 0 then (cnt a : Int) else 0) = n := ⟨_, rfl⟩
    obtain ⟨st, hst⟩ : ∃ st : ByteArray, st = if r = 0 then ⟨(enc a).toArray⟩ else ⟨#[]⟩ := ⟨_, rfl⟩
    obtain ⟨q, hq⟩ : ∃ q, sameB a b = q := ⟨_, rfl⟩
    have HTA := Lib.hid hta
    have HLA := Lib.hid hla
    have HR := Lib.hid hr
    have HN := Lib.hid hn
    have HST := Lib.hid hst
    have HQ := Lib.hid hq
    have hss : st.size ≤ 1048576 := by
      rw [hst]
      split
      · show (enc a).toArray.size ≤ _; simpa using hla
      · decide
    clear hta hla hr hn hst hq
    obtain ⟨c0, c1, c2, c3⟩ := heap4 HXa4.out
    go_wp2_with fail
    refine (encode_at a _ _ w4 HVa4.out HTA.out HLA.out (HT.out.below HB4.out) r HR.out st HST.out).mono ?_
    rintro e w5 ⟨rfl, h5⟩
    have HB5 := Lib.hid (below_seq HB4.out h5 HB4.out.size)
    have HXa5 := Lib.hid ((h5.block _ (heap_lt HXa4.out)).trans HXa4.out)
    have HXb5 := Lib.hid ((h5.block _ (heap_lt HXb4.out)).trans HXb4.out)
    have HVa5 := Lib.hid (HVa4.out.below h5)
    have HVb5 := Lib.hid (HVb4.out.below h5)
    clear h5 c0 c1 c2 c3
    obtain ⟨c0, c1, c2, c3⟩ := heap4 HXa5.out
    go_wp2_with fail
    refine (refEnc_at a _ _ w5 HVa5.out HTA.out HLA.out (HT.out.below HB5.out) r HR.out st HST.out).mono ?_
    rintro e w6 ⟨rfl, h6⟩
    have HB6 := Lib.hid (below_seq HB5.out h6 HB5.out.size)
    have HXa6 := Lib.hid ((h6.block _ (heap_lt HXa5.out)).trans HXa5.out)
    have HXb6 := Lib.hid ((h6.block _ (heap_lt HXb5.out)).trans HXb5.out)
    have HVa6 := Lib.hid (HVa5.out.below h6)
    have HVb6 := Lib.hid (HVb5.out.below h6)
    clear h6 c0 c1 c2 c3
    obtain ⟨c0, c1, c2, c3⟩ := heap4 HXa6.out
    go_wp2_with fail
    refine (size_at a _ _ w6 HVa6.out HTA.out n r HR.out HN.out).mono ?_
    rintro e w7 ⟨rfl, h7⟩
    have HB7 := Lib.hid (below_seq HB6.out h7 HB6.out.size)
    have HXa7 := Lib.hid ((h7.block _ (heap_lt HXa6.out)).trans HXa6.out)
    have HXb7 := Lib.hid ((h7.block _ (heap_lt HXb6.out)).trans HXb6.out)
    have HVa7 := Lib.hid (HVa6.out.below h7)
    have HVb7 := Lib.hid (HVb6.out.below h7)
    clear h7 c0 c1 c2 c3
    obtain ⟨c0, c1, c2, c3⟩ := heap4 HXa7.out
    go_wp2_with fail
    refine (refSize_at a _ _ w7 HVa7.out HTA.out n r HR.out HN.out).mono ?_
    rintro e w8 ⟨rfl, h8⟩
    have HB8 := Lib.hid (below_seq HB7.out h8 HB7.out.size)
    have HXa8 := Lib.hid ((h8.block _ (heap_lt HXa7.out)).trans HXa7.out)
    have HXb8 := Lib.hid ((h8.block _ (heap_lt HXb7.out)).trans HXb7.out)
    have HVa8 := Lib.hid (HVa7.out.below h8)
    have HVb8 := Lib.hid (HVb7.out.below h8)
    clear h8 c0 c1 c2 c3
    go_wp2
    refine wp_region_noPanic ?_
    refine wp_region_any (by kernel_rfl) (wpAny_of_k (S := fun _ => True) (S' := fun w' => Below w8.heap.size w8 w') (k := 99) _ _ _ _ ?_)
    change wpAnyK _ _ _ _ _ _ _ 38 _ _ w8.drew
    have HBK := Lib.hid (show Below w8.heap.size w8 w8.drew from Below.drew (Below.refl _ _))
    refine wpAnyK_takeD (i := 0) (v := .agg #[intV a.kd, intV a.nm, .string a.tx, .slice so a.its.length sc]) (some 40) rfl rfl (by kernel_rfl) (by kernel_rfl) (by kernel_rfl) (by decide) (fun _ _ _ h => h) (Or.inl ⟨by rfl, fun w' hw' => ?_⟩) (fun h => (nomatch (h.symm.trans (show _ = true by kernel_rfl)))) HBK.out ?_
    · obtain ⟨b0, b1, b2, b3⟩ := heap4 ((hw'.block _ (heap_lt HXa8.out)).trans HXa8.out)
      go_simp
    (try simp only [Act.put, List.setIfInBounds_toArray, List.set_cons_zero, List.set_cons_succ])
    refine wpAnyK_takeD (i := 2) (v := .agg #[intV a.kd, intV a.nm, .string a.tx, .slice so a.its.length sc]) (some 42) rfl rfl (by kernel_rfl) (by kernel_rfl) (by kernel_rfl) (by decide) (fun _ _ _ h => h) (Or.inl ⟨by rfl, fun w' hw' => ?_⟩) (fun h => (nomatch (h.symm.trans (show _ = true by kernel_rfl)))) HBK.out ?_
    · obtain ⟨b0, b1, b2, b3⟩ := heap4 ((hw'.block _ (heap_lt HXa8.out)).trans HXa8.out)
      go_simp
    (try simp only [Act.put, List.setIfInBounds_toArray, List.set_cons_zero, List.set_cons_succ])
    (try simp only [Act.put, List.setIfInBounds_toArray, List.set_cons_zero, List.set_cons_succ])
    refine wpAnyK_all (rs := [1]) (by kernel_rfl) (by simp) ?_
    intro i hi
    obtain rfl := List.mem_singleton.1 hi
    clear hi
    refine wpOp_step rfl fun K hK => ?_
    go_simp
    refine (check_at a _ _ _ (HVa8.out.below HBK.out) HTA.out r HR.out).mono ?_
    rintro e w9 ⟨rfl, h9⟩
    have HK1 := Lib.hid (HBK.out.trans (h9.mono HBK.out.size))
    clear h9
    refine hK _ _ ⟨fun h => (nomatch (h.symm.trans (show _ = true by kernel_rfl))), HK1.out, ?_⟩
    clear hK K
    (try simp only [Act.put, List.setIfInBounds_toArray, List.set_cons_zero, List.set_cons_succ])
    refine wpAnyK_all (rs := [3]) (by kernel_rfl) (by simp) ?_
    intro i hi
    obtain rfl := List.mem_singleton.1 hi
    clear hi
    refine wpOp_step rfl fun K hK => ?_
    go_simp
    refine (refCheck_at a _ _ _ (HVa8.out.below HK1.out) HTA.out r HR.out).mono ?_
    rintro e w10 ⟨rfl, h9⟩
    have HK2 := Lib.hid (HK1.out.trans (h9.mono HK1.out.size))
    clear h9
    refine hK _ _ ⟨fun h => (nomatch (h.symm.trans (show _ = true by kernel_rfl))), HK2.out, ?_⟩
    clear hK K
    refine wpAnyK_takeD (i := 4) (v := .bool true) (some 44) rfl rfl (by kernel_rfl) (by kernel_rfl) (by kernel_rfl) (by decide) (fun _ _ _ h => h) (Or.inl ⟨by rfl, fun w' hw' => ?_⟩) (fun h => (nomatch (h.symm.trans (show _ = true by kernel_rfl)))) HK2.out ?_
    · go_simp
    (try simp only [Act.put, List.setIfInBounds_toArray, List.set_cons_zero, List.set_cons_succ])
    refine wpAnyK_takeD (i := 5) (v := .bool true) (some 45) rfl rfl (by kernel_rfl) (by kernel_rfl) (by kernel_rfl) (by decide) (fun _ _ _ h => h) (Or.inl ⟨by rfl, fun w' hw' => ?_⟩) (fun h => (nomatch (h.symm.trans (show _ = true by kernel_rfl)))) HK2.out ?_
    · go_simp
    (try simp only [Act.put, List.setIfInBounds_toArray, List.set_cons_zero, List.set_cons_succ])
    refine wpAnyK_takeD (i := 6) (v := .string st) (some 46) rfl rfl (by kernel_rfl) (by kernel_rfl) (by kernel_rfl) (by decide) (fun _ _ _ h => h) (Or.inl ⟨by rfl, fun w' hw' => ?_⟩) (fun h => (nomatch (h.symm.trans (show _ = true by kernel_rfl)))) HK2.out ?_
    · go_simp
    (try simp only [Act.put, List.setIfInBounds_toArray, List.set_cons_zero, List.set_cons_succ])
    refine wpAnyK_takeD (i := 7) (v := .string st) (some 47) rfl rfl (by kernel_rfl) (by kernel_rfl) (by kernel_rfl) (by decide) (fun _ _ _ h => h) (Or.inl ⟨by rfl, fun w' hw' => ?_⟩) (fun h => (nomatch (h.symm.trans (show _ = true by kernel_rfl)))) HK2.out ?_
    · go_simp
    (try simp only [Act.put, List.setIfInBounds_toArray, List.set_cons_zero, List.set_cons_succ])
    refine wpAnyK_takeD (i := 8) (v := .bool true) (some 48) rfl rfl (by kernel_rfl) (by kernel_rfl) (by kernel_rfl) (by decide) (fun _ _ _ h => h) (Or.inl ⟨by rfl, fun w' hw' => ?_⟩) (fun h => (nomatch (h.symm.trans (show _ = true by kernel_rfl)))) HK2.out ?_
    · go_simp
    (try simp only [Act.put, List.setIfInBounds_toArray, List.set_cons_zero, List.set_cons_succ])
    refine wpAnyK_takeD (i := 9) (v := .bool true) (some 49) rfl rfl (by kernel_rfl) (by kernel_rfl) (by kernel_rfl) (by decide) (fun _ _ _ h => h) (Or.inl ⟨by rfl, fun w' hw' => ?_⟩) (fun h => (nomatch (h.symm.trans (show _ = true by kernel_rfl)))) HK2.out ?_
    · go_simp
    (try simp only [Act.put, List.setIfInBounds_toArray, List.set_cons_zero, List.set_cons_succ])
    refine wpAnyK_takeD (i := 10) (v := .bool true) (some 50) rfl rfl (by kernel_rfl) (by kernel_rfl) (by kernel_rfl) (by decide) (fun _ _ _ h => h) (Or.inl ⟨by rfl, fun w' hw' => ?_⟩) (fun h => (nomatch (h.symm.trans (show _ = true by kernel_rfl)))) HK2.out ?_
    · go_simp
    (try simp only [Act.put, List.setIfInBounds_toArray, List.set_cons_zero, List.set_cons_succ])
    refine wpAnyK_takeD (i := 11) (v := .int .i64 r) (some 51) rfl rfl (by kernel_rfl) (by kernel_rfl) (by kernel_rfl) (by decide) (fun _ _ _ h => h) (Or.inl ⟨by rfl, fun w' hw' => ?_⟩) (fun h => (nomatch (h.symm.trans (show _ = true by kernel_rfl)))) HK2.out ?_
    · go_simp
    (try simp only [Act.put, List.setIfInBounds_toArray, List.set_cons_zero, List.set_cons_succ])
    refine wpAnyK_takeD (i := 12) (v := .int .i64 r) (some 52) rfl rfl (by kernel_rfl) (by kernel_rfl) (by kernel_rfl) (by decide) (fun _ _ _ h => h) (Or.inl ⟨by rfl, fun w' hw' => ?_⟩) (fun h => (nomatch (h.symm.trans (show _ = true by kernel_rfl)))) HK2.out ?_
    · go_simp
    (try simp only [Act.put, List.setIfInBounds_toArray, List.set_cons_zero, List.set_cons_succ])
    refine wpAnyK_takeD (i := 13) (v := .bool true) (some 53) rfl rfl (by kernel_rfl) (by kernel_rfl) (by kernel_rfl) (by decide) (fun _ _ _ h => h) (Or.inl ⟨by rfl, fun w' hw' => ?_⟩) (fun h => (nomatch (h.symm.trans (show _ = true by kernel_rfl)))) HK2.out ?_
    · go_simp
    (try simp only [Act.put, List.setIfInBounds_toArray, List.set_cons_zero, List.set_cons_succ])
    refine wpAnyK_takeD (i := 14) (v := .bool true) (some 54) rfl rfl (by kernel_rfl) (by kernel_rfl) (by kernel_rfl) (by decide) (fun _ _ _ h => h) (Or.inl ⟨by rfl, fun w' hw' => ?_⟩) (fun h => (nomatch (h.symm.trans (show _ = true by kernel_rfl)))) HK2.out ?_
    · go_simp
    (try simp only [Act.put, List.setIfInBounds_toArray, List.set_cons_zero, List.set_cons_succ])
    refine wpAnyK_takeD (i := 15) (v := .bool true) (some 55) rfl rfl (by kernel_rfl) (by kernel_rfl) (by kernel_rfl) (by decide) (fun _ _ _ h => h) (Or.inl ⟨by rfl, fun w' hw' => ?_⟩) (fun h => (nomatch (h.symm.trans (show _ = true by kernel_rfl)))) HK2.out ?_
    · go_simp
    (try simp only [Act.put, List.setIfInBounds_toArray, List.set_cons_zero, List.set_cons_succ])
    refine wpAnyK_takeD (i := 16) (v := .int .i64 n) (some 56) rfl rfl (by kernel_rfl) (by kernel_rfl) (by kernel_rfl) (by decide) (fun _ _ _ h => h) (Or.inl ⟨by rfl, fun w' hw' => ?_⟩) (fun h => (nomatch (h.symm.trans (show _ = true by kernel_rfl)))) HK2.out ?_
    · go_simp
    (try simp only [Act.put, List.setIfInBounds_toArray, List.set_cons_zero, List.set_cons_succ])
    refine wpAnyK_takeD (i := 17) (v := .int .i64 n) (some 57) rfl rfl (by kernel_rfl) (by kernel_rfl) (by kernel_rfl) (by decide) (fun _ _ _ h => h) (Or.inl ⟨by rfl, fun w' hw' => ?_⟩) (fun h => (nomatch (h.symm.trans (show _ = true by kernel_rfl)))) HK2.out ?_
    · go_simp
    (try simp only [Act.put, List.setIfInBounds_toArray, List.set_cons_zero, List.set_cons_succ])
    refine wpAnyK_takeD (i := 18) (v := .bool true) (some 58) rfl rfl (by kernel_rfl) (by kernel_rfl) (by kernel_rfl) (by decide) (fun _ _ _ h => h) (Or.inl ⟨by rfl, fun w' hw' => ?_⟩) (fun h => (nomatch (h.symm.trans (show _ = true by kernel_rfl)))) HK2.out ?_
    · go_simp
    (try simp only [Act.put, List.setIfInBounds_toArray, List.set_cons_zero, List.set_cons_succ])
    refine wpAnyK_takeD (i := 19) (v := .bool true) (some 59) rfl rfl (by kernel_rfl) (by kernel_rfl) (by kernel_rfl) (by decide) (fun _ _ _ h => h) (Or.inl ⟨by rfl, fun w' hw' => ?_⟩) (fun h => (nomatch (h.symm.trans (show _ = true by kernel_rfl)))) HK2.out ?_
    · go_simp
    (try simp only [Act.put, List.setIfInBounds_toArray, List.set_cons_zero, List.set_cons_succ])
    refine wpAnyK_takeD (i := 20) (v := .bool true) (some 60) rfl rfl (by kernel_rfl) (by kernel_rfl) (by kernel_rfl) (by decide) (fun _ _ _ h => h) (Or.inl ⟨by rfl, fun w' hw' => ?_⟩) (fun h => (nomatch (h.symm.trans (show _ = true by kernel_rfl)))) HK2.out ?_
    · go_simp
    (try simp only [Act.put, List.setIfInBounds_toArray, List.set_cons_zero, List.set_cons_succ])
    refine wpAnyK_takeD (i := 21) (v := .int .i64 r) (some 61) rfl rfl (by kernel_rfl) (by kernel_rfl) (by kernel_rfl) (by decide) (fun _ _ _ h => h) (Or.inl ⟨by rfl, fun w' hw' => ?_⟩) (fun h => (nomatch (h.symm.trans (show _ = true by kernel_rfl)))) HK2.out ?_
    · go_simp
    (try simp only [Act.put, List.setIfInBounds_toArray, List.set_cons_zero, List.set_cons_succ])
    refine wpAnyK_takeD (i := 22) (v := .int .i64 r) (some 62) rfl rfl (by kernel_rfl) (by kernel_rfl) (by kernel_rfl) (by decide) (fun _ _ _ h => h) (Or.inl ⟨by rfl, fun w' hw' => ?_⟩) (fun h => (nomatch (h.symm.trans (show _ = true by kernel_rfl)))) HK2.out ?_
    · go_simp
    (try simp only [Act.put, List.setIfInBounds_toArray, List.set_cons_zero, List.set_cons_succ])
    refine wpAnyK_takeD (i := 23) (v := .bool true) (some 63) rfl rfl (by kernel_rfl) (by kernel_rfl) (by kernel_rfl) (by decide) (fun _ _ _ h => h) (Or.inl ⟨by rfl, fun w' hw' => ?_⟩) (fun h => (nomatch (h.symm.trans (show _ = true by kernel_rfl)))) HK2.out ?_
    · go_simp
    (try simp only [Act.put, List.setIfInBounds_toArray, List.set_cons_zero, List.set_cons_succ])
    refine wpAnyK_takeD (i := 24) (v := .bool true) (some 64) rfl rfl (by kernel_rfl) (by kernel_rfl) (by kernel_rfl) (by decide) (fun _ _ _ h => h) (Or.inl ⟨by rfl, fun w' hw' => ?_⟩) (fun h => (nomatch (h.symm.trans (show _ = true by kernel_rfl)))) HK2.out ?_
    · go_simp
    (try simp only [Act.put, List.setIfInBounds_toArray, List.set_cons_zero, List.set_cons_succ])
    refine wpAnyK_takeD (i := 25) (v := .bool true) (some 65) rfl rfl (by kernel_rfl) (by kernel_rfl) (by kernel_rfl) (by decide) (fun _ _ _ h => h) (Or.inl ⟨by rfl, fun w' hw' => ?_⟩) (fun h => (nomatch (h.symm.trans (show _ = true by kernel_rfl)))) HK2.out ?_
    · go_simp
    (try simp only [Act.put, List.setIfInBounds_toArray, List.set_cons_zero, List.set_cons_succ])
    refine wpAnyK_takeD (i := 26) (v := .agg #[intV a.kd, intV a.nm, .string a.tx, .slice so a.its.length sc]) (some 66) rfl rfl (by kernel_rfl) (by kernel_rfl) (by kernel_rfl) (by decide) (fun _ _ _ h => h) (Or.inl ⟨by rfl, fun w' hw' => ?_⟩) (fun h => (nomatch (h.symm.trans (show _ = true by kernel_rfl)))) HK2.out ?_
    · obtain ⟨b0, b1, b2, b3⟩ := heap4 ((hw'.block _ (heap_lt HXa8.out)).trans HXa8.out)
      go_simp
    (try simp only [Act.put, List.setIfInBounds_toArray, List.set_cons_zero, List.set_cons_succ])
    refine wpAnyK_takeD (i := 27) (v := .agg #[intV b.kd, intV b.nm, .string b.tx, .slice ro b.its.length rc]) (some 67) rfl rfl (by kernel_rfl) (by kernel_rfl) (by kernel_rfl) (by decide) (fun _ _ _ h => h) (Or.inl ⟨by rfl, fun w' hw' => ?_⟩) (fun h => (nomatch (h.symm.trans (show _ = true by kernel_rfl)))) HK2.out ?_
    · obtain ⟨b0, b1, b2, b3⟩ := heap4 ((hw'.block _ (heap_lt HXb8.out)).trans HXb8.out)
      go_simp
    (try simp only [Act.put, List.setIfInBounds_toArray, List.set_cons_zero, List.set_cons_succ])
    refine wpAnyK_takeD (i := 29) (v := .agg #[intV a.kd, intV a.nm, .string a.tx, .slice so a.its.length sc]) (some 69) rfl rfl (by kernel_rfl) (by kernel_rfl) (by kernel_rfl) (by decide) (fun _ _ _ h => h) (Or.inl ⟨by rfl, fun w' hw' => ?_⟩) (fun h => (nomatch (h.symm.trans (show _ = true by kernel_rfl)))) HK2.out ?_
    · obtain ⟨b0, b1, b2, b3⟩ := heap4 ((hw'.block _ (heap_lt HXa8.out)).trans HXa8.out)
      go_simp
    (try simp only [Act.put, List.setIfInBounds_toArray, List.set_cons_zero, List.set_cons_succ])
    refine wpAnyK_takeD (i := 30) (v := .agg #[intV b.kd, intV b.nm, .string b.tx, .slice ro b.its.length rc]) (some 70) rfl rfl (by kernel_rfl) (by kernel_rfl) (by kernel_rfl) (by decide) (fun _ _ _ h => h) (Or.inl ⟨by rfl, fun w' hw' => ?_⟩) (fun h => (nomatch (h.symm.trans (show _ = true by kernel_rfl)))) HK2.out ?_
    · obtain ⟨b0, b1, b2, b3⟩ := heap4 ((hw'.block _ (heap_lt HXb8.out)).trans HXb8.out)
      go_simp
    (try simp only [Act.put, List.setIfInBounds_toArray, List.set_cons_zero, List.set_cons_succ])
    (try simp only [Act.put, List.setIfInBounds_toArray, List.set_cons_zero, List.set_cons_succ])
    refine wpAnyK_all (rs := [28]) (by kernel_rfl) (by simp) ?_
    intro i hi
    obtain rfl := List.mem_singleton.1 hi
    clear hi
    refine wpOp_step rfl fun K hK => ?_
    go_simp
    refine (same_at a b _ _ _ _ _ (HVa8.out.below HK2.out) (HVb8.out.below HK2.out) q HQ.out).mono ?_
    rintro e w11 ⟨rfl, h9⟩
    have HK3 := Lib.hid (HK2.out.trans (h9.mono HK2.out.size))
    clear h9
    refine hK _ _ ⟨fun h => (nomatch (h.symm.trans (show _ = true by kernel_rfl))), HK3.out, ?_⟩
    clear hK K
    (try simp only [Act.put, List.setIfInBounds_toArray, List.set_cons_zero, List.set_cons_succ])
    refine wpAnyK_all (rs := [31]) (by kernel_rfl) (by simp) ?_
    intro i hi
    obtain rfl := List.mem_singleton.1 hi
    clear hi
    refine wpOp_step rfl fun K hK => ?_
    go_simp
    refine (refSame_at a b _ _ _ _ _ (HVa8.out.below HK3.out) (HVb8.out.below HK3.out) q HQ.out).mono ?_
    rintro e w12 ⟨rfl, h9⟩
    have HK4 := Lib.hid (HK3.out.trans (h9.mono HK3.out.size))
    clear h9
    refine hK _ _ ⟨fun h => (nomatch (h.symm.trans (show _ = true by kernel_rfl))), HK4.out, ?_⟩
    clear hK K
    refine wpAnyK_takeD (i := 32) (v := .bool true) (some 72) rfl rfl (by kernel_rfl) (by kernel_rfl) (by kernel_rfl) (by decide) (fun _ _ _ h => h) (Or.inl ⟨by rfl, fun w' hw' => ?_⟩) (fun h => (nomatch (h.symm.trans (show _ = true by kernel_rfl)))) HK4.out ?_
    · go_simp
    (try simp only [Act.put, List.setIfInBounds_toArray, List.set_cons_zero, List.set_cons_succ])
    refine wpAnyK_takeD (i := 33) (v := .bool true) (some 73) rfl rfl (by kernel_rfl) (by kernel_rfl) (by kernel_rfl) (by decide) (fun _ _ _ h => h) (Or.inl ⟨by rfl, fun w' hw' => ?_⟩) (fun h => (nomatch (h.symm.trans (show _ = true by kernel_rfl)))) HK4.out ?_
    · go_simp
    (try simp only [Act.put, List.setIfInBounds_toArray, List.set_cons_zero, List.set_cons_succ])
    refine wpAnyK_takeD (i := 34) (v := .bool true) (some 74) rfl rfl (by kernel_rfl) (by kernel_rfl) (by kernel_rfl) (by decide) (fun _ _ _ h => h) (Or.inl ⟨by rfl, fun w' hw' => ?_⟩) (fun h => (nomatch (h.symm.trans (show _ = true by kernel_rfl)))) HK4.out ?_
    · go_simp
    (try simp only [Act.put, List.setIfInBounds_toArray, List.set_cons_zero, List.set_cons_succ])
    (try simp only [Act.put, List.setIfInBounds_toArray, List.set_cons_zero, List.set_cons_succ])
    refine wpAnyK_all (rs := [35]) (by kernel_rfl) (by simp) ?_
    intro i hi
    obtain rfl := List.mem_singleton.1 hi
    clear hi
    refine wpOp_step rfl fun K hK => ?_
    go_simp
    refine (awake_any _ (HT.out.below (below_seq HB8.out HK4.out HB8.out.size))).mono ?_
    rintro e w13 ⟨rfl, h9⟩
    have HK5 := Lib.hid (HK4.out.trans (h9.mono HK4.out.size))
    clear h9
    refine hK _ _ ⟨fun h => (nomatch (h.symm.trans (show _ = true by kernel_rfl))), HK5.out, ?_⟩
    clear hK K
    refine wpAnyK_takeD (i := 36) (v := .bool true) (some 76) rfl rfl (by kernel_rfl) (by kernel_rfl) (by kernel_rfl) (by decide) (fun _ _ _ h => h) (Or.inl ⟨by rfl, fun w' hw' => ?_⟩) (fun h => (nomatch (h.symm.trans (show _ = true by kernel_rfl)))) HK5.out ?_
    · go_simp
    (try simp only [Act.put, List.setIfInBounds_toArray, List.set_cons_zero, List.set_cons_succ])
    refine wpAnyK_takeD (i := 37) (v := .bool true) (some 4) rfl rfl (by kernel_rfl) (by kernel_rfl) (by kernel_rfl) (by decide) (fun _ _ _ h => h) (Or.inl ⟨by rfl, fun w' hw' => ?_⟩) (fun h => (nomatch (h.symm.trans (show _ = true by kernel_rfl)))) HK5.out ?_
    · go_simp
    (try simp only [Act.put, List.setIfInBounds_toArray, List.set_cons_zero, List.set_cons_succ])
    (try simp only [Act.put, List.setIfInBounds_toArray, List.set_cons_zero, List.set_cons_succ])
    refine wpAnyK_done (by kernel_rfl) ?_ _
    refine NoPanic.normal ?_
    go_wp2
    go_ret
    exact ⟨rfl, below_seq HB8.out HK5.out HB8.out.size⟩
end Go.Proofs.YtjcigjggfmfoeaaDoor
