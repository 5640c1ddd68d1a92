/- The walk of the search: what begins behind an index. -/
import Derived.Test.YteceahbnafaeoaaSpHv
namespace Go.Proofs.Yteceahbnafaeoaa
set_option linter.unusedSimpArgs false
set_option linter.unusedVariables false
set_option maxRecDepth 100000
open Go.RowKit Go.Shelf Go.Deep

set_option maxHeartbeats 8000000 in
theorem behind_any (l ws : List Int) (hlen : l.length = ws.length) (hl : l.length ≤ 1024) (hw : ∀ x ∈ ws, 0 ≤ x ∧ x ≤ 1048576) (va vu : Value) (w0 : World) (hv : IntsAt w0 va l) (hu : IntsAt w0 vu ws) (bl bb bh bw G : Nat) :
    ∀ (k m : Nat), l.length - m = k → m ≤ l.length → ∀ (pl : Int), pl = (m : Int) - 1 → ∀ W : World, Hv l.length (its 0 l (toW ws)) w0 bl bb bh bw G va vu W →
      Calls Try.prog 65 #[intV pl, pV bl, pV bb, pV bh, pV bw] W (BhPost l.length (its 0 l (toW ws)) w0 bl bb bh bw G va vu W (fh (bnd l m) ((its 0 l (toW ws)).drop m))) := by
  intro k
  induction k using Nat.strongRecOn with
  | ind k IH => ?_
  intro m hk hm pl hpl W H
  have HI := Lib.hid (fun i (h1 : m ≤ i) (h2 : i < l.length) W (h : Hv l.length (its 0 l (toW ws)) w0 bl bb bh bw G va vu W) => IH (l.length - (i + 1)) (by omega) (i + 1) rfl (by omega) (i : Int) (by omega) W h)
  have HDI := Lib.hid (fun i hi => item_drop l ws hlen i hi)
  have HWB := Lib.hid (fun i c z h => wt_hd_bound l ws hl hlen hw (i := i) (c := c) (z := z) h)
  obtain ⟨a, cap, rfl⟩ := hv.slice
  obtain ⟨au, cu, rfl⟩ := hu.slice
  have HV := Lib.hid hv
  have HU := Lib.hid hu
  have HLEN := Lib.hid hlen
  have HW := Lib.hid hw
  obtain ⟨Z, hZ⟩ : ∃ Z, its 0 l (toW ws) = Z := ⟨_, rfl⟩
  have hZl : Z.length = l.length := by rw [← hZ]; exact its_len 0 l (toW ws) (by rw [toWlen]; exact hlen)
  have HSN := Lib.hid (show scan (bnd l m) [] (Z.drop m) = fh (bnd l m) (Z.drop m) by rw [← hZ]; exact scan_nil _ _ (k := 0) (asc_sub (List.drop_sublist _ _) (asc_its _ _ _)))
  rw [hZ] at HI HDI HWB H ⊢
  have HZL := Lib.hid hZl
  have HH := Lib.hid H
  have hwr : IntKind.i64.wrap (pl + 1) = (m : Int) := by rw [show pl + 1 = (m : Int) by omega]; exact IntWalk.i64_in _ (by omega)
  have HPL := Lib.hid hpl
  clear IH hk hlen hw hv hu hZ hZl H hpl
  go_enter Try.func65, Try.ntmps65
  go_wp2
  go_loopw [7, 8] (fun bv iv wr => ∃ (i : Nat) (q : Option Addr) (acc : List It), m ≤ i ∧ i ≤ l.length ∧ iv = .int .i64 i ∧ bv = .pointer q ∧ SubAt wr q acc ∧ scan (bnd l m) acc (Z.drop i) = fh (bnd l m) (Z.drop m) ∧ Hv l.length Z w0 bl bb bh bw G (.slice a l.length cap) (.slice au ws.length cu) wr ∧ SubKeeps W wr) (fun _ iv _ => l.length - (intOf iv).toNat)
  case atStart => exact ⟨m, none, [], Nat.le_refl _, hm, rfl, rfl, rfl, HSN.out, HH.out, SubKeeps.refl _⟩
  case round =>
    obtain ⟨i, q, acc, hmi, hil, rfl, rfl, hq, hsc, hH, hK⟩ := hrel
    obtain ⟨wk, rfl⟩ : ∃ x, x = wr := ⟨_, rfl⟩
    have HQ := Lib.hid hq
    have HSC := Lib.hid hsc
    have HK := Lib.hid hK
    have HK0 := Lib.hid hH
    have ccl := hH.cl
    by_cases hlt : i < l.length
    · obtain ⟨c, d1, d2, d3, d4⟩ := HDI.out i hlt
      obtain ⟨b, off, rfl, hbb, c0⟩ := HV.out.elem hlt
      have hi2 : i < ws.length := by rw [← HLEN.out]; exact hlt
      obtain ⟨b2, off2, rfl, hbb2, c2⟩ := HU.out.elem hi2
      have hwi := HW.out ws[i] (List.getElem_mem hi2)
      have hgw : ws.getD i 0 = ws[i] := by rw [List.getD_eq_getElem?_getD, List.getElem?_eq_getElem hi2]; rfl
      rw [hgw] at d4
      obtain ⟨wi, hwi2⟩ : ∃ wi : Nat, ws[i] = wi := ⟨(ws[i]).toNat, by omega⟩
      rw [hwi2] at c2 hwi d4
      rw [Int.toNat_natCast] at d4
      have h1 := (hH.B.cell (p := ⟨b, off + i, none⟩) hbb).trans c0
      obtain ⟨x, hx⟩ : ∃ x, l[i] = x := ⟨_, rfl⟩
      rw [hx] at h1
      have hcvx : c.v = x := by rw [d3, at0_get l i hlt, hx]
      have HCV := Lib.hid hcvx
      have HD := Lib.hid (And.intro d1 (And.intro d2 (And.intro d3 d4)))
      have HC := Lib.hid (And.intro hbb2 c2)
      have HST := Lib.hid (show scan (bnd l m) acc (Z.drop i) = if gt (bnd l m) c.v = true ∧ wt acc < wt (hd c (Z.drop (i + 1))) then scan (bnd l m) (hd c (Z.drop (i + 1))) (Z.drop (i + 1)) else scan (bnd l m) acc (Z.drop (i + 1)) by rw [d1, scan_step])
      have HKD := Lib.hid (fun j => HK0.out.below (below_drewN wk j))
      have HQD := Lib.hid (fun j => hq.below (below_drewN wk j))
      have HKK := Lib.hid (fun j => hK.trans (SubKeeps.of_below (below_drewN wk j)))
      have k0 : (0 : Int) ≤ (i : Int) := by omega
      have k1 : (i : Int) < (l.length : Int) := by omega
      have ccb := hH.cb
      have cch := hH.ch
      clear d1 d2 d3 d4 hbb2 c2 hcvx hx hq hsc hK hH hgw hwi2
      by_cases hm0 : m = 0
      · obtain rfl : pl = -1 := by have := HPL.out; omega
        have HGT := Lib.hid (show gt (bnd l m) c.v = true by rw [hm0]; rfl)
        clear hm0
        obtain ⟨pm, hrow, hmemo⟩ := HK0.out.memo
        have hcell := hrow.cell hlt
        have HME := Lib.hid (fun p h => hmemo i hlt p h)
        obtain ⟨an, han⟩ : ∃ an, wt acc = an := ⟨_, rfl⟩
        have HAN := Lib.hid han
        clear hrow hmemo han
        cases hpm : pm i with
        | none =>
          rw [hpm] at hcell
          clear hpm
          go_wp2_with fail
          go_quiet (fail)
          go_wp2_with fail
          refine (HI.out i hmi hlt _ (HKD.out _)).mono ?_
          rintro e w1 ⟨q1, rfl, hH1, hq1, hk1⟩
          have HQ9 := Lib.hid ((HQD.out nq).kept hk1)
          have H1 := Lib.hid hH1
          have hKt := Lib.hid (show ∀ (tt : List It), fh (bnd l (i + 1)) (Z.drop (i + 1)) = tt → hd c (Z.drop (i + 1)) = c :: tt from fun tt h => by rw [← h, bnd_succ, ← HD.out.2.2.1]; rfl)
          have HBD := Lib.hid (HWB.out i c (Z.drop (i + 1)) HD.out.1)
          obtain ⟨tt, htt⟩ : ∃ tt, fh (bnd l (i + 1)) (Z.drop (i + 1)) = tt := ⟨_, rfl⟩
          have HTT := Lib.hid (hKt.out tt htt)
          rw [htt] at hq1
          have hsw : wt (hd c (Z.drop (i + 1))) = wi + wt tt := by rw [HTT.out, ← HD.out.2.2.2]; simp [wt]
          obtain ⟨tn, htn⟩ : ∃ tn, wt tt = tn := ⟨_, rfl⟩
          have hbd := HBD.out
          rw [hsw, htn] at hbd
          obtain ⟨sn, hsn⟩ : ∃ sn, wi + tn = sn := ⟨_, rfl⟩
          have hadd : IntKind.i64.wrap ((wi : Int) + (tn : Int)) = (sn : Int) := by rw [show (wi : Int) + (tn : Int) = (sn : Int) by omega]; exact IntWalk.i64_in _ (by omega)
          have HSW := Lib.hid (show wt (hd c (Z.drop (i + 1))) = sn by rw [hsw, htn, hsn])
          have HQ1 := Lib.hid (And.intro hq1 htn)
          have HK1 := Lib.hid ((HKK.out nq).trans hk1)
          have HSF := Lib.hid (fun W' (h : Hv l.length Z w0 bl bb bh bw G (.slice (some ⟨b, off, none⟩) l.length cap) (.slice (some ⟨b2, off2, none⟩) ws.length cu) W') => (show W'.cell? ⟨bb, 0, none⟩ = some (.slice (some ⟨G, 0, none⟩) l.length l.length) ∧ W'.cell? ⟨bw, 0, none⟩ = some (.slice (some ⟨b2, off2, none⟩) ws.length cu) ∧ W'.cell? ⟨b2, off2 + i, none⟩ = some (intV wi) from ⟨h.cb, h.cw, (h.B.cell (p := ⟨b2, off2 + i, none⟩) HC.out.1).trans HC.out.2⟩))
          have k2 : (i : Int) < (ws.length : Int) := by omega
          clear hH1 hq1 hk1 hcell ccl ccb cch h1 htt hsw htn hbd hKt hwi hsn
          go_wp2_with fail
          have H2 := Lib.hid (H1.out.below (below_drew1 _ w1))
          have HS2 := Lib.hid (HSF.out _ H2.out)
          refine wp_region_noPanic ?_
          refine wp_region_any (by kernel_rfl) (wpAny_of_k (S := fun _ => True) (S' := fun W' => W'.cell? ⟨bb, 0, none⟩ = some (.slice (some ⟨G, 0, none⟩) l.length l.length) ∧ W'.cell? ⟨bw, 0, none⟩ = some (.slice (some ⟨b2, off2, none⟩) ws.length cu) ∧ W'.cell? ⟨b2, off2 + i, none⟩ = some (intV wi)) (k := 99) _ _ _ _ ?_)
          change wpAnyK _ _ _ _ _ _ _ 15 _ _ w1.drew
          refine wpAnyK_takeD (i := 0) (v := .slice (some ⟨G, 0, none⟩) l.length l.length) (some 39) rfl rfl (by kernel_rfl) (by kernel_rfl) (by kernel_rfl) (by decide) (fun _ _ _ h => h) (Or.inl ⟨by rfl, fun w' hw' => ?_⟩) (fun _ => trivial) (HS2.out) ?_
          · obtain ⟨e1, e2, e3⟩ := hw'; go_simp
          (try simp only [Act.put, List.setIfInBounds_toArray, List.set_cons_zero, List.set_cons_succ])
          refine wpAnyK_takeD (i := 1) (v := .int .i64 i) (some 40) rfl rfl (by kernel_rfl) (by kernel_rfl) (by kernel_rfl) (by decide) (fun _ _ _ h => h) (Or.inl ⟨by rfl, fun w' hw' => ?_⟩) (fun _ => trivial) (HS2.out) ?_
          · go_simp
          (try simp only [Act.put, List.setIfInBounds_toArray, List.set_cons_zero, List.set_cons_succ])
          refine wpAnyK_takeD (i := 2) (v := .int .i64 i) (some 41) rfl rfl (by kernel_rfl) (by kernel_rfl) (by kernel_rfl) (by decide) (fun _ _ _ h => h) (Or.inl ⟨by rfl, fun w' hw' => ?_⟩) (fun _ => trivial) (HS2.out) ?_
          · go_simp
          (try simp only [Act.put, List.setIfInBounds_toArray, List.set_cons_zero, List.set_cons_succ])
          refine wpAnyK_takeD (i := 3) (v := .pointer q1) (some 42) rfl rfl (by kernel_rfl) (by kernel_rfl) (by kernel_rfl) (by decide) (fun _ _ _ h => h) (Or.inl ⟨by rfl, fun w' hw' => ?_⟩) (fun _ => trivial) (HS2.out) ?_
          · go_simp
          (try simp only [Act.put, List.setIfInBounds_toArray, List.set_cons_zero, List.set_cons_succ])
          refine wpAnyK_takeD (i := 4) (v := .slice (some ⟨b2, off2, none⟩) ws.length cu) (some 43) rfl rfl (by kernel_rfl) (by kernel_rfl) (by kernel_rfl) (by decide) (fun _ _ _ h => h) (Or.inl ⟨by rfl, fun w' hw' => ?_⟩) (fun _ => trivial) (HS2.out) ?_
          · obtain ⟨e1, e2, e3⟩ := hw'; go_simp
          (try simp only [Act.put, List.setIfInBounds_toArray, List.set_cons_zero, List.set_cons_succ])
          refine wpAnyK_takeD (i := 5) (v := .int .i64 i) (some 44) rfl rfl (by kernel_rfl) (by kernel_rfl) (by kernel_rfl) (by decide) (fun _ _ _ h => h) (Or.inl ⟨by rfl, fun w' hw' => ?_⟩) (fun _ => trivial) (HS2.out) ?_
          · go_simp
          (try simp only [Act.put, List.setIfInBounds_toArray, List.set_cons_zero, List.set_cons_succ])
          refine wpAnyK_takeD (i := 6) (v := .pointer (some ⟨b2, off2 + i, none⟩)) (some 45) rfl rfl (by kernel_rfl) (by kernel_rfl) (by kernel_rfl) (by decide) (fun _ _ _ h => h) (Or.inl ⟨by rfl, fun w' hw' => ?_⟩) (fun _ => trivial) (HS2.out) ?_
          · go_simp
          (try simp only [Act.put, List.setIfInBounds_toArray, List.set_cons_zero, List.set_cons_succ])
          refine wpAnyK_takeD (i := 7) (v := intV wi) (some 46) rfl rfl (by kernel_rfl) (by kernel_rfl) (by kernel_rfl) (by decide) (fun _ _ _ h => h) (Or.inl ⟨by rfl, fun w' hw' => ?_⟩) (fun _ => trivial) (HS2.out) ?_
          · obtain ⟨e1, e2, e3⟩ := hw'; go_simp
          (try simp only [Act.put, List.setIfInBounds_toArray, List.set_cons_zero, List.set_cons_succ])
          refine wpAnyK_takeD (i := 8) (v := .pointer q1) (some 47) rfl rfl (by kernel_rfl) (by kernel_rfl) (by kernel_rfl) (by decide) (fun _ _ _ h => h) (Or.inl ⟨by rfl, fun w' hw' => ?_⟩) (fun _ => trivial) (HS2.out) ?_
          · go_simp
          (try simp only [Act.put, List.setIfInBounds_toArray, List.set_cons_zero, List.set_cons_succ])
          refine wpAnyK_all (rs := [9]) (by kernel_rfl) (by simp) ?_
          intro i' hi'
          obtain rfl := List.mem_singleton.1 hi'
          clear hi'
          refine wpOp_step rfl fun K hK => ?_
          go_simp
          refine (sumP_any q1 tt _ (HQ1.out.1.below (below_drew1 _ _))).mono ?_
          rintro e w9 ⟨rfl, rfl⟩
          rw [HQ1.out.2]
          refine hK _ _ ⟨fun _ => trivial, HS2.out, ?_⟩
          clear hK K
          (try simp only [Act.put, List.setIfInBounds_toArray, List.set_cons_zero, List.set_cons_succ])
          refine wpAnyK_takeD (i := 10) (v := intV sn) (some 49) rfl rfl (by kernel_rfl) (by kernel_rfl) (by kernel_rfl) (by decide) (fun _ _ _ h => h) (Or.inl ⟨by rfl, fun w' hw' => ?_⟩) (fun _ => trivial) (HS2.out) ?_
          · go_simp
          (try simp only [Act.put, List.setIfInBounds_toArray, List.set_cons_zero, List.set_cons_succ])
          refine wpAnyK_takeD (i := 11) (v := .agg #[intV i, .pointer q1, intV sn]) (some 50) rfl rfl (by kernel_rfl) (by kernel_rfl) (by kernel_rfl) (by decide) (fun _ _ _ h => h) (Or.inl ⟨by rfl, fun w' hw' => ?_⟩) (fun _ => trivial) (HS2.out) ?_
          · go_simp
          (try simp only [Act.put, List.setIfInBounds_toArray, List.set_cons_zero, List.set_cons_succ])
          refine wpAnyK_all (rs := [12]) (by kernel_rfl) (by simp) ?_
          intro i' hi'
          obtain rfl := List.mem_singleton.1 hi'
          clear hi'
          refine wpOp_step rfl fun K hK => ?_
          go_simp
          obtain ⟨w3, hw3⟩ : ∃ x, (w1.alloc (.cells #[intV i, .pointer q1, intV sn] 82)).drew = x := ⟨_, rfl⟩
          have hB3 : Below w1.heap.size w1 w3 := by rw [← hw3]; exact ((Below.refl _ w1).alloc (Nat.le_refl _) _).drew
          have HB3 := Lib.hid hB3
          have H3 := Lib.hid (H1.out.below hB3)
          have HSA := Lib.hid (show SubAt w3 (some ⟨w1.heap.size, 0, none⟩) (hd c (Z.drop (i + 1))) from by
            have hb := blk_alloc_new w1 (.cells #[intV i, .pointer q1, intV sn] 82)
            rw [HTT.out]
            refine ⟨w1.heap.size, q1, rfl, ?_, HQ1.out.1.below hB3⟩
            rw [← HTT.out, HSW.out, HD.out.2.1, ← hw3]
            exact hb)
          have H4 := Lib.hid (H3.out.set (i := i) HD.out.1 HSA.out)
          have HK4 := Lib.hid ((HK1.out.trans (SubKeeps.of_below hB3)).trans H4.out.2)
          obtain ⟨pm3, hr3, _⟩ := H3.out.memo
          have hst := hr3.cell hlt
          have HR3 := Lib.hid (hr3.set i (.pointer (some ⟨w1.heap.size, 0, none⟩)))
          have hfr := hr3.frozen i
          rw [hw3]
          obtain ⟨N1, hN1⟩ : ∃ N1, w1.heap.size = N1 := ⟨_, rfl⟩
          rw [hN1] at HSA H4 HK4 HR3 ⊢
          clear hw3 hr3 hB3 hN1
          refine hK _ _ ⟨fun _ => trivial, HSF.out _ H3.out, ?_⟩
          clear hK K
          (try simp only [Act.put, List.setIfInBounds_toArray, List.set_cons_zero, List.set_cons_succ])
          refine wpAnyK_takeD (i := 13) (v := .pointer (some ⟨G, i, none⟩)) (some 52) rfl rfl (by kernel_rfl) (by kernel_rfl) (by kernel_rfl) (by decide) (fun _ _ _ h => h) (Or.inl ⟨by rfl, fun w' hw' => ?_⟩) (fun _ => trivial) (HSF.out _ H3.out) ?_
          · go_simp
          (try simp only [Act.put, List.setIfInBounds_toArray, List.set_cons_zero, List.set_cons_succ])
          refine wpAnyK_all (rs := [14]) (by kernel_rfl) (by simp) ?_
          intro i' hi'
          obtain rfl := List.mem_singleton.1 hi'
          clear hi'
          refine wpOp_step rfl fun K hK => ?_
          go_simp
          obtain ⟨wx, hwx⟩ : ∃ x, w3.setCell ⟨G, i, none⟩ (.pointer (some ⟨N1, 0, none⟩)) = x := ⟨_, rfl⟩
          rw [hwx]
          have hcx : wx.cell? ⟨G, i, none⟩ = some (.pointer (some ⟨N1, 0, none⟩)) := by rw [← hwx]; have h := HR3.out.cell hlt; rw [if_pos rfl] at h; exact h
          rw [hwx] at H4 HK4
          have HX := Lib.hid H4.out.1
          have HKX := HK4
          have HSX := Lib.hid (HSA.out.kept H4.out.2)
          have HQX := Lib.hid (((HQ9.out.below HB3.out).kept H4.out.2))
          have ccb := HX.out.cb
          have SUMX := Lib.hid (show Calls Try.prog 56 #[.pointer (some ⟨N1, 0, none⟩)] wx fun e w' => e = .returned (intV sn) ∧ w' = wx by rw [← HSW.out]; exact sumP_any _ _ _ HSX.out)
          have SUMQ := Lib.hid (show Calls Try.prog 56 #[.pointer q] wx fun e w' => e = .returned (intV an) ∧ w' = wx by rw [← HAN.out]; exact sumP_any _ _ _ HQX.out)
          clear hwx hst hfr
          refine hK _ _ ⟨fun _ => trivial, HSF.out _ HX.out, ?_⟩
          clear hK K
          (try simp only [Act.put, List.setIfInBounds_toArray, List.set_cons_zero, List.set_cons_succ])
          refine wpAnyK_done (by kernel_rfl) ?_ _
          refine NoPanic.normal ?_
          by_cases hb : an < sn
          · have t1 : decide (an < sn) = true := decide_eq_true hb
            have HS9 := Lib.hid (show scan (bnd l m) (hd c (Z.drop (i + 1))) (Z.drop (i + 1)) = fh (bnd l m) (Z.drop m) from by
              have h := HSC.out
              rw [HST.out, if_pos ⟨HGT.out, by rw [HAN.out, HSW.out]; exact hb⟩] at h
              exact h)
            go_wp2_with fail
            refine SUMX.out.mono ?_
            rintro e w5 ⟨rfl, rfl⟩
            go_wp2_with fail
            refine SUMQ.out.mono ?_
            rintro e w6 ⟨rfl, rfl⟩
            go_wp2
            go_roundw
            case rel => exact ⟨i + 1, _, hd c (Z.drop (i + 1)), by omega, by omega, by go_num, rfl, HSX.out, HS9.out, HX.out, HKX.out⟩
            case measure => simp [intOf]; omega
          · have t1 : decide (an < sn) = false := decide_eq_false hb
            have HS9 := Lib.hid (show scan (bnd l m) acc (Z.drop (i + 1)) = fh (bnd l m) (Z.drop m) from by
              have h := HSC.out
              rw [HST.out, if_neg (fun h2 => hb (by have := h2.2; rw [HAN.out, HSW.out] at this; exact this))] at h
              exact h)
            go_wp2_with fail
            refine SUMX.out.mono ?_
            rintro e w5 ⟨rfl, rfl⟩
            go_wp2_with fail
            refine SUMQ.out.mono ?_
            rintro e w6 ⟨rfl, rfl⟩
            go_wp2
            go_roundw
            case rel => exact ⟨i + 1, q, acc, by omega, by omega, by go_num, rfl, HQX.out, HS9.out, HX.out, HKX.out⟩
            case measure => simp [intOf]; omega
        | some p =>
          rw [hpm] at hcell
          obtain ⟨c', z', e1, hsub⟩ := HME.out p hpm
          rw [HD.out.1] at e1
          obtain ⟨rfl, rfl⟩ := List.cons.inj e1
          have HSD := Lib.hid (fun j => hsub.below (below_drewN wk j))
          obtain ⟨sn, hsn⟩ : ∃ sn, wt (hd c (Z.drop (i + 1))) = sn := ⟨_, rfl⟩
          have HSW := Lib.hid hsn
          clear hpm e1 hsub hsn
          go_wp2_with fail
          go_quiet (fail)
          obtain ⟨wx, hwx⟩ : ∃ x, wk.drewN nq = x := ⟨_, rfl⟩
          have hcx : wx.cell? ⟨G, i, none⟩ = some (.pointer (some p)) := by rw [← hwx]; exact hcell
          have HX := Lib.hid (HKD.out nq)
          have HKX := Lib.hid (HKK.out nq)
          have HSX := Lib.hid (HSD.out nq)
          have HQX := Lib.hid (HQD.out nq)
          rw [hwx] at HX HKX HSX HQX ⊢
          have ccb' := HX.out.cb
          have SUMX := Lib.hid (show Calls Try.prog 56 #[.pointer (some p)] wx fun e w' => e = .returned (intV sn) ∧ w' = wx by rw [← HSW.out]; exact sumP_any _ _ _ HSX.out)
          have SUMQ := Lib.hid (show Calls Try.prog 56 #[.pointer q] wx fun e w' => e = .returned (intV an) ∧ w' = wx by rw [← HAN.out]; exact sumP_any _ _ _ HQX.out)
          clear hwx hcell ccb cch ccl
          by_cases hb : an < sn
          · have t1 : decide (an < sn) = true := decide_eq_true hb
            have HS9 := Lib.hid (show scan (bnd l m) (hd c (Z.drop (i + 1))) (Z.drop (i + 1)) = fh (bnd l m) (Z.drop m) from by
              have h := HSC.out
              rw [HST.out, if_pos ⟨HGT.out, by rw [HAN.out, HSW.out]; exact hb⟩] at h
              exact h)
            go_wp2_with fail
            refine SUMX.out.mono ?_
            rintro e w5 ⟨rfl, rfl⟩
            go_wp2_with fail
            refine SUMQ.out.mono ?_
            rintro e w6 ⟨rfl, rfl⟩
            go_wp2
            go_roundw
            case rel => exact ⟨i + 1, _, hd c (Z.drop (i + 1)), by omega, by omega, by go_num, rfl, HSX.out, HS9.out, HX.out, HKX.out⟩
            case measure => simp [intOf]; omega
          · have t1 : decide (an < sn) = false := decide_eq_false hb
            have HS9 := Lib.hid (show scan (bnd l m) acc (Z.drop (i + 1)) = fh (bnd l m) (Z.drop m) from by
              have h := HSC.out
              rw [HST.out, if_neg (fun h2 => hb (by have := h2.2; rw [HAN.out, HSW.out] at this; exact this))] at h
              exact h)
            go_wp2_with fail
            refine SUMX.out.mono ?_
            rintro e w5 ⟨rfl, rfl⟩
            go_wp2_with fail
            refine SUMQ.out.mono ?_
            rintro e w6 ⟨rfl, rfl⟩
            go_wp2
            go_roundw
            case rel => exact ⟨i + 1, q, acc, by omega, by omega, by go_num, rfl, HQX.out, HS9.out, HX.out, HKX.out⟩
            case measure => simp [intOf]; omega
      · obtain ⟨p0, hmp⟩ : ∃ p0, m = p0 + 1 := ⟨m - 1, by omega⟩
        obtain rfl : pl = (p0 : Int) := by have := HPL.out; omega
        have hpl : p0 < l.length := by omega
        have HMP := Lib.hid hmp
        clear hmp hm0
        obtain ⟨b', off', e', hb', cp⟩ := HV.out.elem hpl
        cases e'
        have hp1 := (HK0.out.B.cell (p := ⟨b, off + p0, none⟩) hb').trans cp
        obtain ⟨y, hy⟩ : ∃ y, l[p0] = y := ⟨_, rfl⟩
        rw [hy] at hp1
        have HGE := Lib.hid (show gt (bnd l m) c.v = decide (y < x) by rw [HMP.out, bnd_succ, at0_get l p0 hpl, hy]; show decide (y < c.v) = _; rw [HCV.out])
        have hne : ((p0 : Int) != -1) = true := by rw [bne_iff_ne]; omega
        have p00 : (0 : Int) ≤ (p0 : Int) := by omega
        have p01 : (p0 : Int) < (l.length : Int) := by omega
        clear hb' cp hy
        by_cases hyx : x ≤ y
        · have t0 : decide (x ≤ y) = true := decide_eq_true hyx
          have HS9 := Lib.hid (show scan (bnd l m) acc (Z.drop (i + 1)) = fh (bnd l m) (Z.drop m) from by
            have h := HSC.out
            rw [HST.out, if_neg (fun h2 => by have := h2.1; rw [HGE.out, decide_eq_true_eq] at this; omega)] at h
            exact h)
          go_wp2_with fail
          go_quiet (fail)
          go_wp2
          go_roundw
          case rel => exact ⟨i + 1, q, acc, by omega, by omega, by go_num, rfl, HQD.out _, HS9.out, HKD.out _, HKK.out _⟩
          case measure => simp [intOf]; omega
        have t0 : decide (x ≤ y) = false := decide_eq_false hyx
        have HGT := Lib.hid (show gt (bnd l m) c.v = true by rw [HGE.out, decide_eq_true_eq]; omega)
        obtain ⟨pm, hrow, hmemo⟩ := HK0.out.memo
        have hcell := hrow.cell hlt
        have HME := Lib.hid (fun p h => hmemo i hlt p h)
        obtain ⟨an, han⟩ : ∃ an, wt acc = an := ⟨_, rfl⟩
        have HAN := Lib.hid han
        clear hrow hmemo han
        cases hpm : pm i with
        | none =>
          rw [hpm] at hcell
          clear hpm
          go_wp2_with fail
          go_quiet (fail)
          clear t0 hp1 hne p00 p01
          go_wp2_with fail
          refine (HI.out i hmi hlt _ (HKD.out _)).mono ?_
          rintro e w1 ⟨q1, rfl, hH1, hq1, hk1⟩
          have HQ9 := Lib.hid ((HQD.out nq).kept hk1)
          have H1 := Lib.hid hH1
          have hKt := Lib.hid (show ∀ (tt : List It), fh (bnd l (i + 1)) (Z.drop (i + 1)) = tt → hd c (Z.drop (i + 1)) = c :: tt from fun tt h => by rw [← h, bnd_succ, ← HD.out.2.2.1]; rfl)
          have HBD := Lib.hid (HWB.out i c (Z.drop (i + 1)) HD.out.1)
          obtain ⟨tt, htt⟩ : ∃ tt, fh (bnd l (i + 1)) (Z.drop (i + 1)) = tt := ⟨_, rfl⟩
          have HTT := Lib.hid (hKt.out tt htt)
          rw [htt] at hq1
          have hsw : wt (hd c (Z.drop (i + 1))) = wi + wt tt := by rw [HTT.out, ← HD.out.2.2.2]; simp [wt]
          obtain ⟨tn, htn⟩ : ∃ tn, wt tt = tn := ⟨_, rfl⟩
          have hbd := HBD.out
          rw [hsw, htn] at hbd
          obtain ⟨sn, hsn⟩ : ∃ sn, wi + tn = sn := ⟨_, rfl⟩
          have hadd : IntKind.i64.wrap ((wi : Int) + (tn : Int)) = (sn : Int) := by rw [show (wi : Int) + (tn : Int) = (sn : Int) by omega]; exact IntWalk.i64_in _ (by omega)
          have HSW := Lib.hid (show wt (hd c (Z.drop (i + 1))) = sn by rw [hsw, htn, hsn])
          have HQ1 := Lib.hid (And.intro hq1 htn)
          have HK1 := Lib.hid ((HKK.out nq).trans hk1)
          have HSF := Lib.hid (fun W' (h : Hv l.length Z w0 bl bb bh bw G (.slice (some ⟨b, off, none⟩) l.length cap) (.slice (some ⟨b2, off2, none⟩) ws.length cu) W') => (show W'.cell? ⟨bb, 0, none⟩ = some (.slice (some ⟨G, 0, none⟩) l.length l.length) ∧ W'.cell? ⟨bw, 0, none⟩ = some (.slice (some ⟨b2, off2, none⟩) ws.length cu) ∧ W'.cell? ⟨b2, off2 + i, none⟩ = some (intV wi) from ⟨h.cb, h.cw, (h.B.cell (p := ⟨b2, off2 + i, none⟩) HC.out.1).trans HC.out.2⟩))
          have k2 : (i : Int) < (ws.length : Int) := by omega
          clear hH1 hq1 hk1 hcell ccl ccb cch h1 htt hsw htn hbd hKt hwi hsn
          go_wp2_with fail
          have H2 := Lib.hid (H1.out.below (below_drew1 _ w1))
          have HS2 := Lib.hid (HSF.out _ H2.out)
          refine wp_region_noPanic ?_
          refine wp_region_any (by kernel_rfl) (wpAny_of_k (S := fun _ => True) (S' := fun W' => W'.cell? ⟨bb, 0, none⟩ = some (.slice (some ⟨G, 0, none⟩) l.length l.length) ∧ W'.cell? ⟨bw, 0, none⟩ = some (.slice (some ⟨b2, off2, none⟩) ws.length cu) ∧ W'.cell? ⟨b2, off2 + i, none⟩ = some (intV wi)) (k := 99) _ _ _ _ ?_)
          change wpAnyK _ _ _ _ _ _ _ 15 _ _ w1.drew
          refine wpAnyK_takeD (i := 0) (v := .slice (some ⟨G, 0, none⟩) l.length l.length) (some 39) rfl rfl (by kernel_rfl) (by kernel_rfl) (by kernel_rfl) (by decide) (fun _ _ _ h => h) (Or.inl ⟨by rfl, fun w' hw' => ?_⟩) (fun _ => trivial) (HS2.out) ?_
          · obtain ⟨e1, e2, e3⟩ := hw'; go_simp
          (try simp only [Act.put, List.setIfInBounds_toArray, List.set_cons_zero, List.set_cons_succ])
          refine wpAnyK_takeD (i := 1) (v := .int .i64 i) (some 40) rfl rfl (by kernel_rfl) (by kernel_rfl) (by kernel_rfl) (by decide) (fun _ _ _ h => h) (Or.inl ⟨by rfl, fun w' hw' => ?_⟩) (fun _ => trivial) (HS2.out) ?_
          · go_simp
          (try simp only [Act.put, List.setIfInBounds_toArray, List.set_cons_zero, List.set_cons_succ])
          refine wpAnyK_takeD (i := 2) (v := .int .i64 i) (some 41) rfl rfl (by kernel_rfl) (by kernel_rfl) (by kernel_rfl) (by decide) (fun _ _ _ h => h) (Or.inl ⟨by rfl, fun w' hw' => ?_⟩) (fun _ => trivial) (HS2.out) ?_
          · go_simp
          (try simp only [Act.put, List.setIfInBounds_toArray, List.set_cons_zero, List.set_cons_succ])
          refine wpAnyK_takeD (i := 3) (v := .pointer q1) (some 42) rfl rfl (by kernel_rfl) (by kernel_rfl) (by kernel_rfl) (by decide) (fun _ _ _ h => h) (Or.inl ⟨by rfl, fun w' hw' => ?_⟩) (fun _ => trivial) (HS2.out) ?_
          · go_simp
          (try simp only [Act.put, List.setIfInBounds_toArray, List.set_cons_zero, List.set_cons_succ])
          refine wpAnyK_takeD (i := 4) (v := .slice (some ⟨b2, off2, none⟩) ws.length cu) (some 43) rfl rfl (by kernel_rfl) (by kernel_rfl) (by kernel_rfl) (by decide) (fun _ _ _ h => h) (Or.inl ⟨by rfl, fun w' hw' => ?_⟩) (fun _ => trivial) (HS2.out) ?_
          · obtain ⟨e1, e2, e3⟩ := hw'; go_simp
          (try simp only [Act.put, List.setIfInBounds_toArray, List.set_cons_zero, List.set_cons_succ])
          refine wpAnyK_takeD (i := 5) (v := .int .i64 i) (some 44) rfl rfl (by kernel_rfl) (by kernel_rfl) (by kernel_rfl) (by decide) (fun _ _ _ h => h) (Or.inl ⟨by rfl, fun w' hw' => ?_⟩) (fun _ => trivial) (HS2.out) ?_
          · go_simp
          (try simp only [Act.put, List.setIfInBounds_toArray, List.set_cons_zero, List.set_cons_succ])
          refine wpAnyK_takeD (i := 6) (v := .pointer (some ⟨b2, off2 + i, none⟩)) (some 45) rfl rfl (by kernel_rfl) (by kernel_rfl) (by kernel_rfl) (by decide) (fun _ _ _ h => h) (Or.inl ⟨by rfl, fun w' hw' => ?_⟩) (fun _ => trivial) (HS2.out) ?_
          · go_simp
          (try simp only [Act.put, List.setIfInBounds_toArray, List.set_cons_zero, List.set_cons_succ])
          refine wpAnyK_takeD (i := 7) (v := intV wi) (some 46) rfl rfl (by kernel_rfl) (by kernel_rfl) (by kernel_rfl) (by decide) (fun _ _ _ h => h) (Or.inl ⟨by rfl, fun w' hw' => ?_⟩) (fun _ => trivial) (HS2.out) ?_
          · obtain ⟨e1, e2, e3⟩ := hw'; go_simp
          (try simp only [Act.put, List.setIfInBounds_toArray, List.set_cons_zero, List.set_cons_succ])
          refine wpAnyK_takeD (i := 8) (v := .pointer q1) (some 47) rfl rfl (by kernel_rfl) (by kernel_rfl) (by kernel_rfl) (by decide) (fun _ _ _ h => h) (Or.inl ⟨by rfl, fun w' hw' => ?_⟩) (fun _ => trivial) (HS2.out) ?_
          · go_simp
          (try simp only [Act.put, List.setIfInBounds_toArray, List.set_cons_zero, List.set_cons_succ])
          refine wpAnyK_all (rs := [9]) (by kernel_rfl) (by simp) ?_
          intro i' hi'
          obtain rfl := List.mem_singleton.1 hi'
          clear hi'
          refine wpOp_step rfl fun K hK => ?_
          go_simp
          refine (sumP_any q1 tt _ (HQ1.out.1.below (below_drew1 _ _))).mono ?_
          rintro e w9 ⟨rfl, rfl⟩
          rw [HQ1.out.2]
          refine hK _ _ ⟨fun _ => trivial, HS2.out, ?_⟩
          clear hK K
          (try simp only [Act.put, List.setIfInBounds_toArray, List.set_cons_zero, List.set_cons_succ])
          refine wpAnyK_takeD (i := 10) (v := intV sn) (some 49) rfl rfl (by kernel_rfl) (by kernel_rfl) (by kernel_rfl) (by decide) (fun _ _ _ h => h) (Or.inl ⟨by rfl, fun w' hw' => ?_⟩) (fun _ => trivial) (HS2.out) ?_
          · go_simp
          (try simp only [Act.put, List.setIfInBounds_toArray, List.set_cons_zero, List.set_cons_succ])
          refine wpAnyK_takeD (i := 11) (v := .agg #[intV i, .pointer q1, intV sn]) (some 50) rfl rfl (by kernel_rfl) (by kernel_rfl) (by kernel_rfl) (by decide) (fun _ _ _ h => h) (Or.inl ⟨by rfl, fun w' hw' => ?_⟩) (fun _ => trivial) (HS2.out) ?_
          · go_simp
          (try simp only [Act.put, List.setIfInBounds_toArray, List.set_cons_zero, List.set_cons_succ])
          refine wpAnyK_all (rs := [12]) (by kernel_rfl) (by simp) ?_
          intro i' hi'
          obtain rfl := List.mem_singleton.1 hi'
          clear hi'
          refine wpOp_step rfl fun K hK => ?_
          go_simp
          obtain ⟨w3, hw3⟩ : ∃ x, (w1.alloc (.cells #[intV i, .pointer q1, intV sn] 82)).drew = x := ⟨_, rfl⟩
          have hB3 : Below w1.heap.size w1 w3 := by rw [← hw3]; exact ((Below.refl _ w1).alloc (Nat.le_refl _) _).drew
          have HB3 := Lib.hid hB3
          have H3 := Lib.hid (H1.out.below hB3)
          have HSA := Lib.hid (show SubAt w3 (some ⟨w1.heap.size, 0, none⟩) (hd c (Z.drop (i + 1))) from by
            have hb := blk_alloc_new w1 (.cells #[intV i, .pointer q1, intV sn] 82)
            rw [HTT.out]
            refine ⟨w1.heap.size, q1, rfl, ?_, HQ1.out.1.below hB3⟩
            rw [← HTT.out, HSW.out, HD.out.2.1, ← hw3]
            exact hb)
          have H4 := Lib.hid (H3.out.set (i := i) HD.out.1 HSA.out)
          have HK4 := Lib.hid ((HK1.out.trans (SubKeeps.of_below hB3)).trans H4.out.2)
          obtain ⟨pm3, hr3, _⟩ := H3.out.memo
          have hst := hr3.cell hlt
          have HR3 := Lib.hid (hr3.set i (.pointer (some ⟨w1.heap.size, 0, none⟩)))
          have hfr := hr3.frozen i
          rw [hw3]
          obtain ⟨N1, hN1⟩ : ∃ N1, w1.heap.size = N1 := ⟨_, rfl⟩
          rw [hN1] at HSA H4 HK4 HR3 ⊢
          clear hw3 hr3 hB3 hN1
          refine hK _ _ ⟨fun _ => trivial, HSF.out _ H3.out, ?_⟩
          clear hK K
          (try simp only [Act.put, List.setIfInBounds_toArray, List.set_cons_zero, List.set_cons_succ])
          refine wpAnyK_takeD (i := 13) (v := .pointer (some ⟨G, i, none⟩)) (some 52) rfl rfl (by kernel_rfl) (by kernel_rfl) (by kernel_rfl) (by decide) (fun _ _ _ h => h) (Or.inl ⟨by rfl, fun w' hw' => ?_⟩) (fun _ => trivial) (HSF.out _ H3.out) ?_
          · go_simp
          (try simp only [Act.put, List.setIfInBounds_toArray, List.set_cons_zero, List.set_cons_succ])
          refine wpAnyK_all (rs := [14]) (by kernel_rfl) (by simp) ?_
          intro i' hi'
          obtain rfl := List.mem_singleton.1 hi'
          clear hi'
          refine wpOp_step rfl fun K hK => ?_
          go_simp
          obtain ⟨wx, hwx⟩ : ∃ x, w3.setCell ⟨G, i, none⟩ (.pointer (some ⟨N1, 0, none⟩)) = x := ⟨_, rfl⟩
          rw [hwx]
          have hcx : wx.cell? ⟨G, i, none⟩ = some (.pointer (some ⟨N1, 0, none⟩)) := by rw [← hwx]; have h := HR3.out.cell hlt; rw [if_pos rfl] at h; exact h
          rw [hwx] at H4 HK4
          have HX := Lib.hid H4.out.1
          have HKX := HK4
          have HSX := Lib.hid (HSA.out.kept H4.out.2)
          have HQX := Lib.hid (((HQ9.out.below HB3.out).kept H4.out.2))
          have ccb := HX.out.cb
          have SUMX := Lib.hid (show Calls Try.prog 56 #[.pointer (some ⟨N1, 0, none⟩)] wx fun e w' => e = .returned (intV sn) ∧ w' = wx by rw [← HSW.out]; exact sumP_any _ _ _ HSX.out)
          have SUMQ := Lib.hid (show Calls Try.prog 56 #[.pointer q] wx fun e w' => e = .returned (intV an) ∧ w' = wx by rw [← HAN.out]; exact sumP_any _ _ _ HQX.out)
          clear hwx hst hfr
          refine hK _ _ ⟨fun _ => trivial, HSF.out _ HX.out, ?_⟩
          clear hK K
          (try simp only [Act.put, List.setIfInBounds_toArray, List.set_cons_zero, List.set_cons_succ])
          refine wpAnyK_done (by kernel_rfl) ?_ _
          refine NoPanic.normal ?_
          by_cases hb : an < sn
          · have t1 : decide (an < sn) = true := decide_eq_true hb
            have HS9 := Lib.hid (show scan (bnd l m) (hd c (Z.drop (i + 1))) (Z.drop (i + 1)) = fh (bnd l m) (Z.drop m) from by
              have h := HSC.out
              rw [HST.out, if_pos ⟨HGT.out, by rw [HAN.out, HSW.out]; exact hb⟩] at h
              exact h)
            go_wp2_with fail
            refine SUMX.out.mono ?_
            rintro e w5 ⟨rfl, rfl⟩
            go_wp2_with fail
            refine SUMQ.out.mono ?_
            rintro e w6 ⟨rfl, rfl⟩
            go_wp2
            go_roundw
            case rel => exact ⟨i + 1, _, hd c (Z.drop (i + 1)), by omega, by omega, by go_num, rfl, HSX.out, HS9.out, HX.out, HKX.out⟩
            case measure => simp [intOf]; omega
          · have t1 : decide (an < sn) = false := decide_eq_false hb
            have HS9 := Lib.hid (show scan (bnd l m) acc (Z.drop (i + 1)) = fh (bnd l m) (Z.drop m) from by
              have h := HSC.out
              rw [HST.out, if_neg (fun h2 => hb (by have := h2.2; rw [HAN.out, HSW.out] at this; exact this))] at h
              exact h)
            go_wp2_with fail
            refine SUMX.out.mono ?_
            rintro e w5 ⟨rfl, rfl⟩
            go_wp2_with fail
            refine SUMQ.out.mono ?_
            rintro e w6 ⟨rfl, rfl⟩
            go_wp2
            go_roundw
            case rel => exact ⟨i + 1, q, acc, by omega, by omega, by go_num, rfl, HQX.out, HS9.out, HX.out, HKX.out⟩
            case measure => simp [intOf]; omega
        | some p =>
          rw [hpm] at hcell
          obtain ⟨c', z', e1, hsub⟩ := HME.out p hpm
          rw [HD.out.1] at e1
          obtain ⟨rfl, rfl⟩ := List.cons.inj e1
          have HSD := Lib.hid (fun j => hsub.below (below_drewN wk j))
          obtain ⟨sn, hsn⟩ : ∃ sn, wt (hd c (Z.drop (i + 1))) = sn := ⟨_, rfl⟩
          have HSW := Lib.hid hsn
          clear hpm e1 hsub hsn
          go_wp2_with fail
          go_quiet (fail)
          clear t0 hp1 hne p00 p01
          obtain ⟨wx, hwx⟩ : ∃ x, wk.drewN nq = x := ⟨_, rfl⟩
          have hcx : wx.cell? ⟨G, i, none⟩ = some (.pointer (some p)) := by rw [← hwx]; exact hcell
          have HX := Lib.hid (HKD.out nq)
          have HKX := Lib.hid (HKK.out nq)
          have HSX := Lib.hid (HSD.out nq)
          have HQX := Lib.hid (HQD.out nq)
          rw [hwx] at HX HKX HSX HQX ⊢
          have ccb' := HX.out.cb
          have SUMX := Lib.hid (show Calls Try.prog 56 #[.pointer (some p)] wx fun e w' => e = .returned (intV sn) ∧ w' = wx by rw [← HSW.out]; exact sumP_any _ _ _ HSX.out)
          have SUMQ := Lib.hid (show Calls Try.prog 56 #[.pointer q] wx fun e w' => e = .returned (intV an) ∧ w' = wx by rw [← HAN.out]; exact sumP_any _ _ _ HQX.out)
          clear hwx hcell ccb cch ccl
          by_cases hb : an < sn
          · have t1 : decide (an < sn) = true := decide_eq_true hb
            have HS9 := Lib.hid (show scan (bnd l m) (hd c (Z.drop (i + 1))) (Z.drop (i + 1)) = fh (bnd l m) (Z.drop m) from by
              have h := HSC.out
              rw [HST.out, if_pos ⟨HGT.out, by rw [HAN.out, HSW.out]; exact hb⟩] at h
              exact h)
            go_wp2_with fail
            refine SUMX.out.mono ?_
            rintro e w5 ⟨rfl, rfl⟩
            go_wp2_with fail
            refine SUMQ.out.mono ?_
            rintro e w6 ⟨rfl, rfl⟩
            go_wp2
            go_roundw
            case rel => exact ⟨i + 1, _, hd c (Z.drop (i + 1)), by omega, by omega, by go_num, rfl, HSX.out, HS9.out, HX.out, HKX.out⟩
            case measure => simp [intOf]; omega
          · have t1 : decide (an < sn) = false := decide_eq_false hb
            have HS9 := Lib.hid (show scan (bnd l m) acc (Z.drop (i + 1)) = fh (bnd l m) (Z.drop m) from by
              have h := HSC.out
              rw [HST.out, if_neg (fun h2 => hb (by have := h2.2; rw [HAN.out, HSW.out] at this; exact this))] at h
              exact h)
            go_wp2_with fail
            refine SUMX.out.mono ?_
            rintro e w5 ⟨rfl, rfl⟩
            go_wp2_with fail
            refine SUMQ.out.mono ?_
            rintro e w6 ⟨rfl, rfl⟩
            go_wp2
            go_roundw
            case rel => exact ⟨i + 1, q, acc, by omega, by omega, by go_num, rfl, HQX.out, HS9.out, HX.out, HKX.out⟩
            case measure => simp [intOf]; omega
    · obtain rfl : i = l.length := by omega
      have HF := Lib.hid (show acc = fh (bnd l m) (Z.drop m) from by rw [← hsc, List.drop_eq_nil_of_le (by rw [HZL.out]; exact Nat.le_refl _)]; rfl)
      clear hq hsc hH hK
      go_wp2
      go_ret
      exact ⟨q, rfl, HK0.out, by rw [← HF.out]; exact HQ.out, HK.out⟩
end Go.Proofs.Yteceahbnafaeoaa
