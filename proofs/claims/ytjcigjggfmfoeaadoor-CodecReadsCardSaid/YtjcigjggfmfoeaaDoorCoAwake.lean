/- The anchor of the laws: the chapter's examples. Written by tools/gen_coawake.py. -/
import Derived.Test.YtjcigjggfmfoeaaDoorCoLawM
import Derived.Test.YtjcigjggfmfoeaaDoorCoSize
import Derived.Test.YtjcigjggfmfoeaaDoorCoHold
import Derived.Deep.Cut
namespace Go.Proofs.YtjcigjggfmfoeaaDoor
set_option linter.unusedSimpArgs false
set_option linter.unusedVariables false
set_option maxRecDepth 100000
open Go.RowKit Go.Deep

abbrev row0 : Obj := .cells #[.int .i64 1, .int .i64 7, .string ⟨#[]⟩, .slice none 0 0, .int .i64 2, .int .i64 0, .string ⟨#[97, 98, 99]⟩, .slice none 0 0, .int .i64 3, .int .i64 0, .string ⟨#[]⟩, .slice none 0 0] 24
theorem row_heap {W : World} {N : Nat} (h : W.heap[N]? = some row0) : ∀ j u, [Value.int .i64 1, .int .i64 7, .string ⟨#[]⟩, .slice none 0 0, .int .i64 2, .int .i64 0, .string ⟨#[97, 98, 99]⟩, .slice none 0 0, .int .i64 3, .int .i64 0, .string ⟨#[]⟩, .slice none 0 0][j]? = some u → W.cell? ⟨N, 0 + j, none⟩ = some u := fun j u hu => by
  rw [Nat.zero_add, cell_of_row W N j _ _ _ h]
  simpa using hu
theorem vat_x0 {W : World} {N : Nat} (h : W.heap[N]? = some row0) : VAt W (fun b => b = N) (.agg #[intV 3, intV 0, .string ⟨#[]⟩, .slice (some ⟨N, 0, none⟩) 3 3]) x0 := by
  refine vat_list (l := [mkI 7, mkT ⟨#[97, 98, 99]⟩, mkL []]) (by decide) ⟨some ⟨N, 0, none⟩, 3, rfl, fun _ => ⟨N, 0, rfl, rfl, heap_lt h, its_of_cs (cs := _) ?_ (row_heap h)⟩⟩
  rw [CsOf]
  refine ⟨.slice none 0 0, _, rfl, vat_int ⟨by decide, by decide⟩, ?_⟩
  rw [CsOf]
  refine ⟨.slice none 0 0, _, rfl, vat_text (by decide), ?_⟩
  rw [CsOf]
  refine ⟨.slice none 0 0, [], rfl, vat_list (by decide) (VsAt.nil _ _ _ _), ?_⟩
  rw [CsOf]
set_option maxHeartbeats 4000000 in
theorem awake_any (w : World) (hT : Tab w) : Calls Tryd.prog 11 #[] w fun e w' => e = .returned (.bool true) ∧ Below w.heap.size w w' := by
  obtain ⟨sv, hsv⟩ : ∃ s : ByteArray, s = s0 := ⟨_, rfl⟩
  have HSV := Lib.hid hsv
  obtain ⟨wA, hwA⟩ : ∃ X, (w.alloc row0).alloc (.cells #[intV 3, intV 0, .string ⟨#[]⟩, .slice (some ⟨w.heap.size, 0, none⟩) 3 3] 24) = X := ⟨_, rfl⟩
  have hbA : Below w.heap.size w wA := by rw [← hwA]; exact below_box2 w _ _
  have hsA : wA.heap.size = w.heap.size + 2 := by rw [← hwA]; simp
  have hrA : wA.heap[w.heap.size]? = some row0 := by
    rw [← hwA]
    exact (Below.heap_alloc _ _ _ (by simp)).trans (heap_alloc_new _ _)
  have hxA : wA.heap[w.heap.size + 1]? = some (.cells #[intV 3, intV 0, .string ⟨#[]⟩, .slice (some ⟨w.heap.size, 0, none⟩) 3 3] 24 (0, 0)) := by
    rw [← hwA]
    have := heap_alloc_new (w.alloc row0) (.cells #[intV 3, intV 0, .string ⟨#[]⟩, .slice (some ⟨w.heap.size, 0, none⟩) 3 3] 24)
    rwa [World.size_alloc] at this
  have HVX := Lib.hid (vat_x0 hrA)
  have HXA := Lib.hid hxA
  have HRA := Lib.hid hrA
  have HBA := Lib.hid hbA
  have HSA := Lib.hid hsA
  have HWA := Lib.hid hwA
  have HTA := Lib.hid (hT.below hbA)
  obtain ⟨c0, c1, c2, c3⟩ := heap4 hxA
  have HENC := Lib.hid (encode_at x0 _ _ wA HVX.out (by rw [tot_x0]; decide) (by rw [enc_x0]; decide) HTA.out 0 chk_x0 sv (by rw [if_pos rfl, hsv, enc_x0]))
  clear hwA hbA hsA hrA hxA hT hsv
  go_enter Tryd.func11, Tryd.ntmps11
  go_upto_region 2 with fail
  rw [HWA.out]
  go_wp2_with fail
  refine HENC.out.mono ?_
  rintro e w1 ⟨rfl, h1⟩
  have HB1 := Lib.hid (show Below wA.heap.size wA w1 from h1)
  clear h1 c0 c1 c2 c3 HENC
  have HD1 := Lib.hid (decode_any s0 (.inl (by decide)) w1 (HTA.out.below HB1.out) x0 0 dec_s0)
  go_wp2_with fail
  refine HD1.out.mono ?_
  rintro e w2 ⟨so, sc, P2, rfl, hv2, h2⟩
  have HB2 := Lib.hid (HB1.out.trans (h2.mono HB1.out.size))
  obtain ⟨w3, hw3⟩ : ∃ X, w2.alloc (.cells #[intV x0.kd, intV x0.nm, .string x0.tx, .slice so x0.its.length sc] 24) = X := ⟨_, rfl⟩
  have hb3 : Below w2.heap.size w2 w3 := by rw [← hw3]; exact below_box0 w2 _
  have HX3 := Lib.hid (show w3.heap[w2.heap.size]? = some (.cells #[intV x0.kd, intV x0.nm, .string x0.tx, .slice so x0.its.length sc] 24 (0, 0)) by rw [← hw3]; exact heap_alloc_new _ _)
  have HV3 := Lib.hid (hv2.below hb3)
  have HB3 := Lib.hid (HB2.out.trans (hb3.mono HB2.out.size))
  have HW3 := Lib.hid hw3
  clear hw3 hb3 hv2 h2 HD1 HB1
  go_upto_region 4 with fail
  rw [HW3.out]
  obtain ⟨c0, c1, c2, c3⟩ := heap4 ((HB3.out.block _ (heap_lt HXA.out)).trans HXA.out)
  have HSZ := Lib.hid (size_at x0 _ _ w3 (HVX.out.below HB3.out) (by rw [tot_x0]; decide) 4 0 chk_x0 (by rw [if_pos chk_x0, cnt_x0]; rfl))
  go_wp2_with fail
  refine HSZ.out.mono ?_
  rintro e w4 ⟨rfl, h4⟩
  have HB4 := Lib.hid (HB3.out.trans (h4.mono HB3.out.size))
  have HX4 := Lib.hid ((h4.block _ (heap_lt HX3.out)).trans HX3.out)
  have HV4 := Lib.hid (HV3.out.below h4)
  have HD2 := Lib.hid (decode_any ⟨#[105, 48, 55, 59]⟩ (.inl (by decide)) w4 (HTA.out.below HB4.out) mkZ 3 dec_bad)
  clear h4 c0 c1 c2 c3 HSZ HX3 HV3 HB3 HB2
  go_wp2_with fail
  refine HD2.out.mono ?_
  rintro e w5 ⟨so', sc', P5, rfl, _, h5⟩
  obtain ⟨w6, hw6⟩ : ∃ X, w5.alloc (.cells #[intV mkZ.kd, intV mkZ.nm, .string mkZ.tx, .slice so' mkZ.its.length sc'] 24) = X := ⟨_, rfl⟩
  have hb6 : Below w5.heap.size w5 w6 := by rw [← hw6]; exact below_box0 w5 _
  have h6 := below_seq h5 hb6 h5.size
  have HB6 := Lib.hid (HB4.out.trans (h6.mono HB4.out.size))
  have HX6 := Lib.hid ((h6.block _ (heap_lt HX4.out)).trans HX4.out)
  have HV6 := Lib.hid (HV4.out.below h6)
  have HW6 := Lib.hid hw6
  clear hw6 hb6 h5 h6 HD2 HX4 HV4 HB4
  go_upto_region 6 with fail
  rw [HW6.out]
  have HX1 := Lib.hid ((HB6.out.block _ (heap_lt HXA.out)).trans HXA.out)
  have HR1 := Lib.hid ((HB6.out.block _ (heap_lt HRA.out)).trans HRA.out)
  have HV1 := Lib.hid (HVX.out.below HB6.out)
  have HBW := Lib.hid (below_seq HBA.out HB6.out HBA.out.size)
  clear HB6 HXA HRA HVX HTA HWA HW3 HW6
  go_wp2
  refine wp_region_noPanic ?_
  refine wp_region_any (by kernel_rfl) (wpAny_of_k (S := fun _ => True) (S' := fun w' => Below w6.heap.size w6 w') (k := 99) _ _ _ _ ?_)
  change wpAnyK _ _ _ _ _ _ _ 37 _ _ w6.drew
  have HBK := Lib.hid (show Below w6.heap.size w6 w6.drew from Below.drew (Below.refl _ _))
  refine wpAnyK_takeD (i := 0) (v := .int .i64 0) (some 33) rfl rfl (by kernel_rfl) (by kernel_rfl) (by kernel_rfl) (by decide) (fun _ _ _ h => h) (Or.inl ⟨by rfl, fun w' hw' => ?_⟩) (fun h => (nomatch (h.symm.trans (show _ = true by kernel_rfl)))) HBK.out ?_
  · go_simp
  (try simp only [Act.put, List.setIfInBounds_toArray, List.set_cons_zero, List.set_cons_succ])
  refine wpAnyK_takeD (i := 1) (v := .int .i64 0) (some 34) rfl rfl (by kernel_rfl) (by kernel_rfl) (by kernel_rfl) (by decide) (fun _ _ _ h => h) (Or.inl ⟨by rfl, fun w' hw' => ?_⟩) (fun h => (nomatch (h.symm.trans (show _ = true by kernel_rfl)))) HBK.out ?_
  · go_simp
  (try simp only [Act.put, List.setIfInBounds_toArray, List.set_cons_zero, List.set_cons_succ])
  refine wpAnyK_takeD (i := 2) (v := .int .i64 0) (some 35) rfl rfl (by kernel_rfl) (by kernel_rfl) (by kernel_rfl) (by decide) (fun _ _ _ h => h) (Or.inl ⟨by rfl, fun w' hw' => ?_⟩) (fun h => (nomatch (h.symm.trans (show _ = true by kernel_rfl)))) HBK.out ?_
  · go_simp
  (try simp only [Act.put, List.setIfInBounds_toArray, List.set_cons_zero, List.set_cons_succ])
  refine wpAnyK_takeD (i := 3) (v := .int .i64 0) (some 36) rfl rfl (by kernel_rfl) (by kernel_rfl) (by kernel_rfl) (by decide) (fun _ _ _ h => h) (Or.inl ⟨by rfl, fun w' hw' => ?_⟩) (fun h => (nomatch (h.symm.trans (show _ = true by kernel_rfl)))) HBK.out ?_
  · go_simp
  (try simp only [Act.put, List.setIfInBounds_toArray, List.set_cons_zero, List.set_cons_succ])
  refine wpAnyK_takeD (i := 4) (v := .bool true) (some 37) rfl rfl (by kernel_rfl) (by kernel_rfl) (by kernel_rfl) (by decide) (fun _ _ _ h => h) (Or.inl ⟨by rfl, fun w' hw' => ?_⟩) (fun h => (nomatch (h.symm.trans (show _ = true by kernel_rfl)))) HBK.out ?_
  · go_simp
  (try simp only [Act.put, List.setIfInBounds_toArray, List.set_cons_zero, List.set_cons_succ])
  refine wpAnyK_takeD (i := 5) (v := .bool true) (some 38) rfl rfl (by kernel_rfl) (by kernel_rfl) (by kernel_rfl) (by decide) (fun _ _ _ h => h) (Or.inl ⟨by rfl, fun w' hw' => ?_⟩) (fun h => (nomatch (h.symm.trans (show _ = true by kernel_rfl)))) HBK.out ?_
  · go_simp
  (try simp only [Act.put, List.setIfInBounds_toArray, List.set_cons_zero, List.set_cons_succ])
  refine wpAnyK_takeD (i := 6) (v := .string sv) (some 39) rfl rfl (by kernel_rfl) (by kernel_rfl) (by kernel_rfl) (by decide) (fun _ _ _ h => h) (Or.inl ⟨by rfl, fun w' hw' => ?_⟩) (fun h => (nomatch (h.symm.trans (show _ = true by kernel_rfl)))) HBK.out ?_
  · go_simp
  (try simp only [Act.put, List.setIfInBounds_toArray, List.set_cons_zero, List.set_cons_succ])
  refine wpAnyK_takeD (i := 7) (v := .bool true) (some 40) rfl rfl (by kernel_rfl) (by kernel_rfl) (by kernel_rfl) (by decide) (fun _ _ _ h => h) (Or.inl ⟨by rfl, fun w' hw' => ?_⟩) (fun h => (nomatch (h.symm.trans (show _ = true by kernel_rfl)))) HBK.out ?_
  · rw [HSV.out]
    go_simp
    rw [ByteArray.toList_eq]
    rfl
  (try simp only [Act.put, List.setIfInBounds_toArray, List.set_cons_zero, List.set_cons_succ])
  refine wpAnyK_takeD (i := 8) (v := .bool true) (some 41) rfl rfl (by kernel_rfl) (by kernel_rfl) (by kernel_rfl) (by decide) (fun _ _ _ h => h) (Or.inl ⟨by rfl, fun w' hw' => ?_⟩) (fun h => (nomatch (h.symm.trans (show _ = true by kernel_rfl)))) HBK.out ?_
  · go_simp
  (try simp only [Act.put, List.setIfInBounds_toArray, List.set_cons_zero, List.set_cons_succ])
  refine wpAnyK_takeD (i := 9) (v := .bool true) (some 42) rfl rfl (by kernel_rfl) (by kernel_rfl) (by kernel_rfl) (by decide) (fun _ _ _ h => h) (Or.inl ⟨by rfl, fun w' hw' => ?_⟩) (fun h => (nomatch (h.symm.trans (show _ = true by kernel_rfl)))) HBK.out ?_
  · go_simp
  (try simp only [Act.put, List.setIfInBounds_toArray, List.set_cons_zero, List.set_cons_succ])
  refine wpAnyK_takeD (i := 10) (v := .agg #[intV x0.kd, intV x0.nm, .string x0.tx, .slice so x0.its.length sc]) (some 43) rfl rfl (by kernel_rfl) (by kernel_rfl) (by kernel_rfl) (by decide) (fun _ _ _ h => h) (Or.inl ⟨by rfl, fun w' hw' => ?_⟩) (fun h => (nomatch (h.symm.trans (show _ = true by kernel_rfl)))) HBK.out ?_
  · obtain ⟨b0, b1, b2, b3⟩ := heap4 ((hw'.block _ (heap_lt HX6.out)).trans HX6.out)
    go_simp
  (try simp only [Act.put, List.setIfInBounds_toArray, List.set_cons_zero, List.set_cons_succ])
  refine wpAnyK_takeD (i := 11) (v := .agg #[intV 3, intV 0, .string ⟨#[]⟩, .slice (some ⟨w.heap.size, 0, none⟩) 3 3]) (some 44) rfl rfl (by kernel_rfl) (by kernel_rfl) (by kernel_rfl) (by decide) (fun _ _ _ h => h) (Or.inl ⟨by rfl, fun w' hw' => ?_⟩) (fun h => (nomatch (h.symm.trans (show _ = true by kernel_rfl)))) HBK.out ?_
  · obtain ⟨b0, b1, b2, b3⟩ := heap4 ((hw'.block _ (heap_lt HX1.out)).trans HX1.out)
    go_simp
  (try simp only [Act.put, List.setIfInBounds_toArray, List.set_cons_zero, List.set_cons_succ])
  (try simp only [Act.put, List.setIfInBounds_toArray, List.set_cons_zero, List.set_cons_succ])
  refine wpAnyK_all (rs := [12]) (by kernel_rfl) (by simp) ?_
  intro i hi
  obtain rfl := List.mem_singleton.1 hi
  clear hi
  refine wpOp_step rfl fun K hK => ?_
  go_simp
  refine (same_at x0 x0 _ _ _ _ _ (HV6.out.below HBK.out) (HV1.out.below HBK.out) true (same_refl.1 x0)).mono ?_
  rintro e w7 ⟨rfl, h9⟩
  have HK2 := Lib.hid (HBK.out.trans (h9.mono HBK.out.size))
  clear h9
  refine hK _ _ ⟨fun h => (nomatch (h.symm.trans (show _ = true by kernel_rfl))), HK2.out, ?_⟩
  clear hK K
  refine wpAnyK_takeD (i := 13) (v := .bool true) (some 46) rfl rfl (by kernel_rfl) (by kernel_rfl) (by kernel_rfl) (by decide) (fun _ _ _ h => h) (Or.inl ⟨by rfl, fun w' hw' => ?_⟩) (fun h => (nomatch (h.symm.trans (show _ = true by kernel_rfl)))) HK2.out ?_
  · go_simp
  (try simp only [Act.put, List.setIfInBounds_toArray, List.set_cons_zero, List.set_cons_succ])
  refine wpAnyK_takeD (i := 14) (v := .bool true) (some 47) rfl rfl (by kernel_rfl) (by kernel_rfl) (by kernel_rfl) (by decide) (fun _ _ _ h => h) (Or.inl ⟨by rfl, fun w' hw' => ?_⟩) (fun h => (nomatch (h.symm.trans (show _ = true by kernel_rfl)))) HK2.out ?_
  · go_simp
  (try simp only [Act.put, List.setIfInBounds_toArray, List.set_cons_zero, List.set_cons_succ])
  refine wpAnyK_takeD (i := 15) (v := .int .i64 4) (some 48) rfl rfl (by kernel_rfl) (by kernel_rfl) (by kernel_rfl) (by decide) (fun _ _ _ h => h) (Or.inl ⟨by rfl, fun w' hw' => ?_⟩) (fun h => (nomatch (h.symm.trans (show _ = true by kernel_rfl)))) HK2.out ?_
  · go_simp
  (try simp only [Act.put, List.setIfInBounds_toArray, List.set_cons_zero, List.set_cons_succ])
  refine wpAnyK_takeD (i := 16) (v := .bool true) (some 49) rfl rfl (by kernel_rfl) (by kernel_rfl) (by kernel_rfl) (by decide) (fun _ _ _ h => h) (Or.inl ⟨by rfl, fun w' hw' => ?_⟩) (fun h => (nomatch (h.symm.trans (show _ = true by kernel_rfl)))) HK2.out ?_
  · go_simp
  (try simp only [Act.put, List.setIfInBounds_toArray, List.set_cons_zero, List.set_cons_succ])
  refine wpAnyK_takeD (i := 17) (v := .bool true) (some 50) rfl rfl (by kernel_rfl) (by kernel_rfl) (by kernel_rfl) (by decide) (fun _ _ _ h => h) (Or.inl ⟨by rfl, fun w' hw' => ?_⟩) (fun h => (nomatch (h.symm.trans (show _ = true by kernel_rfl)))) HK2.out ?_
  · go_simp
  (try simp only [Act.put, List.setIfInBounds_toArray, List.set_cons_zero, List.set_cons_succ])
  refine wpAnyK_takeD (i := 18) (v := .bool true) (some 51) rfl rfl (by kernel_rfl) (by kernel_rfl) (by kernel_rfl) (by decide) (fun _ _ _ h => h) (Or.inl ⟨by rfl, fun w' hw' => ?_⟩) (fun h => (nomatch (h.symm.trans (show _ = true by kernel_rfl)))) HK2.out ?_
  · go_simp
  (try simp only [Act.put, List.setIfInBounds_toArray, List.set_cons_zero, List.set_cons_succ])
  refine wpAnyK_takeD (i := 19) (v := .int .i64 3) (some 52) rfl rfl (by kernel_rfl) (by kernel_rfl) (by kernel_rfl) (by decide) (fun _ _ _ h => h) (Or.inl ⟨by rfl, fun w' hw' => ?_⟩) (fun h => (nomatch (h.symm.trans (show _ = true by kernel_rfl)))) HK2.out ?_
  · go_simp
  (try simp only [Act.put, List.setIfInBounds_toArray, List.set_cons_zero, List.set_cons_succ])
  refine wpAnyK_takeD (i := 20) (v := .bool true) (some 53) rfl rfl (by kernel_rfl) (by kernel_rfl) (by kernel_rfl) (by decide) (fun _ _ _ h => h) (Or.inl ⟨by rfl, fun w' hw' => ?_⟩) (fun h => (nomatch (h.symm.trans (show _ = true by kernel_rfl)))) HK2.out ?_
  · go_simp
  (try simp only [Act.put, List.setIfInBounds_toArray, List.set_cons_zero, List.set_cons_succ])
  refine wpAnyK_takeD (i := 21) (v := .bool true) (some 54) rfl rfl (by kernel_rfl) (by kernel_rfl) (by kernel_rfl) (by decide) (fun _ _ _ h => h) (Or.inl ⟨by rfl, fun w' hw' => ?_⟩) (fun h => (nomatch (h.symm.trans (show _ = true by kernel_rfl)))) HK2.out ?_
  · go_simp
  (try simp only [Act.put, List.setIfInBounds_toArray, List.set_cons_zero, List.set_cons_succ])
  refine wpAnyK_takeD (i := 22) (v := .bool true) (some 55) rfl rfl (by kernel_rfl) (by kernel_rfl) (by kernel_rfl) (by decide) (fun _ _ _ h => h) (Or.inl ⟨by rfl, fun w' hw' => ?_⟩) (fun h => (nomatch (h.symm.trans (show _ = true by kernel_rfl)))) HK2.out ?_
  · go_simp
  (try simp only [Act.put, List.setIfInBounds_toArray, List.set_cons_zero, List.set_cons_succ])
  refine wpAnyK_takeD (i := 24) (v := .pointer (some ⟨w.heap.size + 1, 3, none⟩)) (some 57) rfl rfl (by kernel_rfl) (by kernel_rfl) (by kernel_rfl) (by decide) (fun _ _ _ h => h) (Or.inl ⟨by rfl, fun w' hw' => ?_⟩) (fun h => (nomatch (h.symm.trans (show _ = true by kernel_rfl)))) HK2.out ?_
  · go_simp
  (try simp only [Act.put, List.setIfInBounds_toArray, List.set_cons_zero, List.set_cons_succ])
  refine wpAnyK_takeD (i := 25) (v := .slice (some ⟨w.heap.size, 0, none⟩) 3 3) (some 58) rfl rfl (by kernel_rfl) (by kernel_rfl) (by kernel_rfl) (by decide) (fun _ _ _ h => h) (Or.inl ⟨by rfl, fun w' hw' => ?_⟩) (fun h => (nomatch (h.symm.trans (show _ = true by kernel_rfl)))) HK2.out ?_
  · obtain ⟨b0, b1, b2, b3⟩ := heap4 ((hw'.block _ (heap_lt HX1.out)).trans HX1.out)
    go_simp
  (try simp only [Act.put, List.setIfInBounds_toArray, List.set_cons_zero, List.set_cons_succ])
  refine wpAnyK_takeD (i := 26) (v := .pointer (some ⟨w.heap.size, 0, none⟩)) (some 59) rfl rfl (by kernel_rfl) (by kernel_rfl) (by kernel_rfl) (by decide) (fun _ _ _ h => h) (Or.inl ⟨by rfl, fun w' hw' => ?_⟩) (fun h => (nomatch (h.symm.trans (show _ = true by kernel_rfl)))) HK2.out ?_
  · go_simp
  (try simp only [Act.put, List.setIfInBounds_toArray, List.set_cons_zero, List.set_cons_succ])
  refine wpAnyK_takeD (i := 27) (v := .agg #[intV 1, intV 7, .string ⟨#[]⟩, .slice none 0 0]) (some 60) rfl rfl (by kernel_rfl) (by kernel_rfl) (by kernel_rfl) (by decide) (fun _ _ _ h => h) (Or.inl ⟨by rfl, fun w' hw' => ?_⟩) (fun h => (nomatch (h.symm.trans (show _ = true by kernel_rfl)))) HK2.out ?_
  · have hr := row_heap ((hw'.block _ (heap_lt HR1.out)).trans HR1.out)
    have r0 := hr 0 _ rfl
    have r1 := hr 1 _ rfl
    have r2 := hr 2 _ rfl
    have r3 := hr 3 _ rfl
    simp only [Nat.zero_add, Nat.add_zero] at r0 r1 r2 r3
    clear hr
    go_simp
  (try simp only [Act.put, List.setIfInBounds_toArray, List.set_cons_zero, List.set_cons_succ])
  (try simp only [Act.put, List.setIfInBounds_toArray, List.set_cons_zero, List.set_cons_succ])
  refine wpAnyK_all (rs := [23]) (by kernel_rfl) (by simp) ?_
  intro i hi
  obtain rfl := List.mem_singleton.1 hi
  clear hi
  refine wpOp_step rfl fun K hK => ?_
  go_simp
  refine (int_any 7 _).mono ?_
  rintro e w8 ⟨rfl, h9⟩
  have HK3 := Lib.hid (HK2.out.trans (h9.mono HK2.out.size))
  clear h9
  refine hK _ _ ⟨fun h => (nomatch (h.symm.trans (show _ = true by kernel_rfl))), HK3.out, ?_⟩
  clear hK K
  (try simp only [Act.put, List.setIfInBounds_toArray, List.set_cons_zero, List.set_cons_succ])
  refine wpAnyK_all (rs := [28]) (by kernel_rfl) (by simp) ?_
  intro i hi
  obtain rfl := List.mem_singleton.1 hi
  clear hi
  refine wpOp_step rfl fun K hK => ?_
  go_simp
  refine (same_at (mkI 7) (mkI 7) _ _ (fun _ => True) (fun _ => True) _ (vat_int ⟨by decide, by decide⟩) (vat_int ⟨by decide, by decide⟩) true (same_refl.1 _)).mono ?_
  rintro e w9 ⟨rfl, h9⟩
  have HK4 := Lib.hid (HK3.out.trans (h9.mono HK3.out.size))
  clear h9
  refine hK _ _ ⟨fun h => (nomatch (h.symm.trans (show _ = true by kernel_rfl))), HK4.out, ?_⟩
  clear hK K
  refine wpAnyK_takeD (i := 29) (v := .bool true) (some 62) rfl rfl (by kernel_rfl) (by kernel_rfl) (by kernel_rfl) (by decide) (fun _ _ _ h => h) (Or.inl ⟨by rfl, fun w' hw' => ?_⟩) (fun h => (nomatch (h.symm.trans (show _ = true by kernel_rfl)))) HK4.out ?_
  · go_simp
  (try simp only [Act.put, List.setIfInBounds_toArray, List.set_cons_zero, List.set_cons_succ])
  refine wpAnyK_takeD (i := 30) (v := .bool true) (some 63) rfl rfl (by kernel_rfl) (by kernel_rfl) (by kernel_rfl) (by decide) (fun _ _ _ h => h) (Or.inl ⟨by rfl, fun w' hw' => ?_⟩) (fun h => (nomatch (h.symm.trans (show _ = true by kernel_rfl)))) HK4.out ?_
  · go_simp
  (try simp only [Act.put, List.setIfInBounds_toArray, List.set_cons_zero, List.set_cons_succ])
  (try simp only [Act.put, List.setIfInBounds_toArray, List.set_cons_zero, List.set_cons_succ])
  refine wpAnyK_all (rs := [31]) (by kernel_rfl) (by simp) ?_
  intro i hi
  obtain rfl := List.mem_singleton.1 hi
  clear hi
  refine wpOp_step rfl fun K hK => ?_
  go_simp
  refine (int_any 7 _).mono ?_
  rintro e w10 ⟨rfl, h9⟩
  have HK5 := Lib.hid (HK4.out.trans (h9.mono HK4.out.size))
  clear h9
  refine hK _ _ ⟨fun h => (nomatch (h.symm.trans (show _ = true by kernel_rfl))), HK5.out, ?_⟩
  clear hK K
  (try simp only [Act.put, List.setIfInBounds_toArray, List.set_cons_zero, List.set_cons_succ])
  refine wpAnyK_all (rs := [32]) (by kernel_rfl) (by simp) ?_
  intro i hi
  obtain rfl := List.mem_singleton.1 hi
  clear hi
  refine wpOp_step rfl fun K hK => ?_
  go_simp
  refine (text_any ⟨#[55]⟩ _).mono ?_
  rintro e w11 ⟨rfl, h9⟩
  have HK6 := Lib.hid (HK5.out.trans (h9.mono HK5.out.size))
  clear h9
  refine hK _ _ ⟨fun h => (nomatch (h.symm.trans (show _ = true by kernel_rfl))), HK6.out, ?_⟩
  clear hK K
  (try simp only [Act.put, List.setIfInBounds_toArray, List.set_cons_zero, List.set_cons_succ])
  refine wpAnyK_all (rs := [33]) (by kernel_rfl) (by simp) ?_
  intro i hi
  obtain rfl := List.mem_singleton.1 hi
  clear hi
  refine wpOp_step rfl fun K hK => ?_
  go_simp
  refine (same_at (mkI 7) (mkT ⟨#[55]⟩) _ _ (fun _ => True) (fun _ => True) _ (vat_int ⟨by decide, by decide⟩) (vat_text (by decide)) false (by decide)).mono ?_
  rintro e w12 ⟨rfl, h9⟩
  have HK7 := Lib.hid (HK6.out.trans (h9.mono HK6.out.size))
  clear h9
  refine hK _ _ ⟨fun h => (nomatch (h.symm.trans (show _ = true by kernel_rfl))), HK7.out, ?_⟩
  clear hK K
  refine wpAnyK_takeD (i := 34) (v := .bool true) (some 67) rfl rfl (by kernel_rfl) (by kernel_rfl) (by kernel_rfl) (by decide) (fun _ _ _ h => h) (Or.inl ⟨by rfl, fun w' hw' => ?_⟩) (fun h => (nomatch (h.symm.trans (show _ = true by kernel_rfl)))) HK7.out ?_
  · go_simp
  (try simp only [Act.put, List.setIfInBounds_toArray, List.set_cons_zero, List.set_cons_succ])
  refine wpAnyK_takeD (i := 35) (v := .bool true) (some 68) rfl rfl (by kernel_rfl) (by kernel_rfl) (by kernel_rfl) (by decide) (fun _ _ _ h => h) (Or.inl ⟨by rfl, fun w' hw' => ?_⟩) (fun h => (nomatch (h.symm.trans (show _ = true by kernel_rfl)))) HK7.out ?_
  · go_simp
  (try simp only [Act.put, List.setIfInBounds_toArray, List.set_cons_zero, List.set_cons_succ])
  refine wpAnyK_takeD (i := 36) (v := .bool true) (some 0) rfl rfl (by kernel_rfl) (by kernel_rfl) (by kernel_rfl) (by decide) (fun _ _ _ h => h) (Or.inl ⟨by rfl, fun w' hw' => ?_⟩) (fun h => (nomatch (h.symm.trans (show _ = true by kernel_rfl)))) HK7.out ?_
  · go_simp
  (try simp only [Act.put, List.setIfInBounds_toArray, List.set_cons_zero, List.set_cons_succ])
  (try simp only [Act.put, List.setIfInBounds_toArray, List.set_cons_zero, List.set_cons_succ])
  refine wpAnyK_done (by kernel_rfl) ?_ _
  refine NoPanic.normal ?_
  go_wp2
  go_ret
  exact ⟨rfl, below_seq HBW.out HK7.out HBW.out.size⟩
end Go.Proofs.YtjcigjggfmfoeaaDoor
