/- Stage 10 (transcript): TrWraps, put together by merge10.py. -/
import Derived.Test.YtmfcepfagbkceaaGreatDoorOx
import Derived.Test.YtmfcepfagbkceaaGreatDoorOx1
import Derived.Test.YtmfcepfagbkceaaGreatDoorOy
namespace Go.Proofs.YtmfcepfagbkceaaGreatDoor
set_option linter.unusedSimpArgs false
set_option linter.unusedVariables false
set_option maxRecDepth 100000
open Go.RowKit Go.Deep
def wrapT : Nat → Int × Bs × Int
  | 0 => (7, [], 0)
  | 1 => (8, [], 8)
  | 2 => (9, [], 1)
  | 3 => (10, [113], 0)
  | _ => (11, [82, 111, 109, 97], 0)
abbrev rowW (s : Value) : Obj := .cells #[.int .i64 7, .string ⟨#[]⟩, .int .i64 0, s, .int .i64 8, .string ⟨#[]⟩, .int .i64 8, s, .int .i64 9, .string ⟨#[]⟩, .int .i64 1, s, .int .i64 10, .string ⟨#[113]⟩, .int .i64 0, s, .int .i64 11, .string ⟨#[82, 111, 109, 97]⟩, .int .i64 0, s] nT
theorem wrap_fine {m : Nat} (hm : m < 5) {k : Int} {t : Bs} {nn : Int} (h : wrapT m = (k, t, nn)) : sgl k t nn false false false = 0 ∧ partsK k = true ∧ t.length ≤ 60 ∧ (-9223372036854775808 ≤ nn ∧ nn ≤ 9223372036854775807) ∧ k ≠ 1 := by
  have hj : m = 0 ∨ m = 1 ∨ m = 2 ∨ m = 3 ∨ m = 4 := by omega
  rcases hj with rfl | rfl | rfl | rfl | rfl <;> cases h <;> decide
theorem wrap_row {m : Nat} (hm : m < 5) {k : Int} {t : Bs} {nn : Int} (h : wrapT m = (k, t, nn)) (s : Value) (w : World) :
    (w.alloc (rowW s)).cell? ⟨w.heap.size, m * 4, none⟩ = some (intV k) ∧ (w.alloc (rowW s)).cell? ⟨w.heap.size, m * 4 + 1, none⟩ = some (sV t) ∧ (w.alloc (rowW s)).cell? ⟨w.heap.size, m * 4 + 2, none⟩ = some (intV nn) ∧ (w.alloc (rowW s)).cell? ⟨w.heap.size, m * 4 + 3, none⟩ = some s := by
  have hj : m = 0 ∨ m = 1 ∨ m = 2 ∨ m = 3 ∨ m = 4 := by omega
  rcases hj with rfl | rfl | rfl | rfl | rfl <;> cases h <;> (rw [World.cell?_alloc_new, World.cell?_alloc_new, World.cell?_alloc_new, World.cell?_alloc_new]; exact ⟨rfl, rfl, rfl, rfl⟩)
theorem max3 (W : World) : (Builtin.max_ #[25, 25, 25] 25 #[.int .i64 0, .int .i64 0, .int .i64 0]).run Tryz.prog W = .ok (.int .i64 0) W := by rfl
theorem isSec_any (xk : Int) (xt : Bs) (xn : Int) (s : Value) (r : Bool) (hr : (xk == 4) = r) (w : World) :
    Calls Tryz.prog 37 #[.agg #[intV xk, sV xt, intV xn, s]] w fun e w' => e = .returned (.bool r) ∧ Below w.heap.size w w' := by
  go_enter Tryz.func37, Tryz.ntmps37
  go_wp2
  go_ret
  exact ⟨rfl, below_alloc _ _⟩
set_option maxHeartbeats 8000000 in
theorem wraps_law (l : List Nd) (kd : Int) (v : Value) (P : Nat → Prop) (w : World) [T w] (hv : VsAt w P v l) (hl : l.length ≤ maxLen) (hkd : 0 ≤ kd ∧ kd < 256) :
    Calls Tryz.prog 9 #[v, .int .u8 kd] w fun e w' => e = .returned (.bool true) ∧ Below w.heap.size w w' := by
  have V0 := Lib.hid hv
  obtain ⟨a, c, rfl⟩ := vs_slice hv
  obtain ⟨b, hb⟩ : ∃ b, fineR l = b := ⟨_, rfl⟩
  have HF := Lib.hid (fine_any l b hb hl _ P w hv)
  obtain ⟨m, hm, hmk⟩ : ∃ m : Nat, m < 5 ∧ kd % 5 = (m : Int) := ⟨(kd % 5).toNat, by omega, by omega⟩
  clear hv hl
  cases b
  case false =>
    clear hb hm hmk
    go_enter Tryz.func9, Tryz.ntmps9
    go_wp2_with fail
    refine (HF.out).mono ?_
    rintro e1 w1 ⟨rfl, h1⟩
    have B1 := Lib.hid h1
    haveI tt1 : T w1 := T.below B1.out
    have V1 := Lib.hid (V0.out.below h1)
    clear h1 V0
    go_wp2_with fail
    refine (awake_any w1).mono ?_
    rintro e2 w2 ⟨rfl, h2⟩
    have B2 := Lib.hid (below_then B1.out h2)
    haveI tt2 : T w2 := T.below B2.out
    have V2 := Lib.hid (V1.out.below h2)
    clear h2 V1 B1
    go_wp2
    go_ret
    exact ⟨rfl, B2.out⟩
  case true =>
    obtain ⟨g1, g2⟩ := fine_of hb
    have ht := (ck_zero g2).1
    obtain ⟨k, t, nn, hT⟩ : ∃ k t nn, wrapT m = (k, t, nn) := ⟨_, _, _, rfl⟩
    obtain ⟨f1, f2, f3, f4, f5⟩ := wrap_fine hm hT
    have hck := wrap_ck g1 g2 f1 f2 f3
    have hct : tots [.mk k t nn l] ≤ 90000 := by rw [tots, tot, tots]; omega
    obtain ⟨dl, hdl⟩ : ∃ d, deps l = d := ⟨_, rfl⟩
    obtain ⟨s, hs⟩ : ∃ s, chrL l = s := ⟨_, rfl⟩
    rw [hdl] at hck
    have HRW := Lib.hid (fun W => wrap_row hm hT (.slice a l.length c) W)
    have HVW := Lib.hid (fun (W : World) (h : VsAt W P (.slice a l.length c) l) => vs_row (W := W.alloc (.cells #[intV k, sV t, intV nn, .slice a l.length c] nT)) (P := fun _ => True) (c := 1) (World.alloc_heap_new _ _) (cs_one (vat_mk f4.1 f4.2 (by omega) (by have := len_tots l; omega) ((h.below (below_alloc W (.cells #[intV k, sV t, intV nn, .slice a l.length c] nT))).mono fun _ _ _ => trivial)) (cs_nil _ _)) trivial)
    have HDL := Lib.hid (fun W (_ : T W) (h : VsAt W P (.slice a l.length c) l) => depthT_any l _ P W h (by omega) dl 0 (by unfold depthR; rw [if_pos g2, hdl]))
    have HCL := Lib.hid (fun W (_ : T W) (h : VsAt W P (.slice a l.length c) l) => charsT_any l _ P W h (by omega) s 0 (by unfold charR; rw [if_pos g2, hs]))
    have m0 : (0 : Int) ≤ (m : Int) := by omega
    have m1 : (m : Int) < 5 := by omega
    have m2 : (m : Int) < ((5 : Nat) : Int) := by omega
    have HK1 := Lib.hid f5
    have hmax := max3
    have hdb : dl ≤ 16 := by have := (ck_zero g2).2.1; omega
    clear hb g1 f1 f2 f3 f4 f5 hT hm
    by_cases hl0 : l = []
    · rw [if_pos hl0] at hck
      have HCK := Lib.hid (fun W (_ : T W) {u : Value} (h : VsAt W (fun _ => True) u [.mk k t nn l]) => checkT_any [.mk k t nn l] u _ W h hct 5 hck)
      have q0 : ((l.length : Int) == 0) = true := by rw [hl0]; rfl
      clear hl0 hck g2 hdl hs hct ht
      go_enter Tryz.func9, Tryz.ntmps9
      go_wp2_with fail
      refine (HF.out).mono ?_
      rintro e1 w1 ⟨rfl, h1⟩
      have B1 := Lib.hid h1
      haveI tt1 : T w1 := T.below B1.out
      have V1 := Lib.hid (V0.out.below h1)
      clear h1 V0
      obtain ⟨d0, d1, d2, d3⟩ := HRW.out w1
      obtain ⟨w2, hw2⟩ : ∃ X, (w1.alloc (rowW (.slice a l.length c))).alloc (.cells #[intV k, sV t, intV nn, .slice a l.length c] nT (0, 0)) = X := ⟨_, rfl⟩
      have b2 : Below w1.heap.size w1 w2 := by rw [← hw2]; exact ((Below.refl _ w1).alloc (Nat.le_refl _) _).alloc (by simp) _
      have k2 : w2.heap[w1.heap.size + 1]? = some (.cells #[intV k, sV t, intV nn, .slice a l.length c] nT (0, 0)) := by
        rw [← hw2]
        have := World.alloc_heap_new (w1.alloc (rowW (.slice a l.length c))) (.cells #[intV k, sV t, intV nn, .slice a l.length c] nT (0, 0))
        rwa [World.size_alloc] at this
      have V2 := Lib.hid (V1.out.below b2)
      have B2 := Lib.hid (below_then B1.out b2)
      have HW2 := Lib.hid hw2
      have HK2 := Lib.hid k2
      clear hw2 b2 k2
      go_upto_region 4 with fail
      rw [HW2.out]
      clear d0 d1 d2 d3
      obtain ⟨e0, e1, e2, e3⟩ := box4T HK2.out
      obtain ⟨w3, hw3⟩ : ∃ X, w2.alloc (.cells #[intV k, sV t, intV nn, .slice a l.length c] nT) = X := ⟨_, rfl⟩
      have b3 : Below w2.heap.size w2 w3 := by rw [← hw3]; exact below_alloc _ _
      have X3 := Lib.hid (show VsAt w3 (fun _ => True) (.slice (some ⟨w2.heap.size, 0, none⟩) 1 1) [.mk k t nn l] by rw [← hw3]; exact HVW.out w2 V2.out)
      have V3 := Lib.hid (V2.out.below b3)
      have B3 := Lib.hid (below_then B2.out b3)
      haveI tt3 : T w3 := T.below B3.out
      have HW3 := Lib.hid hw3
      clear hw3 b3
      go_upto_region 5 with fail
      rw [HW3.out]
      clear e0 e1 e2 e3 HW2 HK2 HW3 V1 V2 B1 B2
      go_wp2_with fail
      refine (HCK.out w3 inferInstance X3.out).mono ?_
      rintro e4 w4 ⟨rfl, h4⟩
      have B4 := Lib.hid (below_then B3.out h4)
      haveI tt4 : T w4 := T.below B4.out
      have V4 := Lib.hid (V3.out.below h4)
      have X4 := Lib.hid (X3.out.below h4)
      clear h4 V3 X3 B3
      go_wp2_with fail
      refine (HDL.out w4 inferInstance V4.out).mono ?_
      rintro e5 w5 ⟨rfl, h5⟩
      have B5 := Lib.hid (below_then B4.out h5)
      haveI tt5 : T w5 := T.below B5.out
      have V5 := Lib.hid (V4.out.below h5)
      have X5 := Lib.hid (X4.out.below h5)
      clear h5 V4 X4 B4
      go_wp2_with fail
      refine (HCL.out w5 inferInstance V5.out).mono ?_
      rintro e6 w6 ⟨rfl, h6⟩
      have B6 := Lib.hid (below_then B5.out h6)
      haveI tt6 : T w6 := T.below B6.out
      have V6 := Lib.hid (V5.out.below h6)
      have X6 := Lib.hid (X5.out.below h6)
      clear h6 V5 X5 B5
      go_wp2_with fail
      refine (awake_any w6).mono ?_
      rintro e7 w7 ⟨rfl, h7⟩
      have B7 := Lib.hid (below_then B6.out h7)
      haveI tt7 : T w7 := T.below B7.out
      have V7 := Lib.hid (V6.out.below h7)
      have X7 := Lib.hid (X6.out.below h7)
      clear h7 V6 X6 B6
      go_wp2
      go_ret
      exact ⟨rfl, B7.out⟩
    · rw [if_neg hl0] at hck
      have q0 : ((l.length : Int) == 0) = false := by
        have : 0 < l.length := List.length_pos_iff.2 hl0
        rw [beq_eq_false_iff_ne]; omega
      by_cases h16 : dl = 16
      · rw [if_pos h16] at hck
        have HCK := Lib.hid (fun W (_ : T W) {u : Value} (h : VsAt W (fun _ => True) u [.mk k t nn l]) => checkT_any [.mk k t nn l] u _ W h hct 4 hck)
        have q1 : ((dl : Int) == 16) = true := by rw [h16]; rfl
        clear hl0 hck g2 hdl hs hct ht h16
        go_enter Tryz.func9, Tryz.ntmps9
        go_wp2_with fail
        refine (HF.out).mono ?_
        rintro e1 w1 ⟨rfl, h1⟩
        have B1 := Lib.hid h1
        haveI tt1 : T w1 := T.below B1.out
        have V1 := Lib.hid (V0.out.below h1)
        clear h1 V0
        obtain ⟨d0, d1, d2, d3⟩ := HRW.out w1
        obtain ⟨w2, hw2⟩ : ∃ X, (w1.alloc (rowW (.slice a l.length c))).alloc (.cells #[intV k, sV t, intV nn, .slice a l.length c] nT (0, 0)) = X := ⟨_, rfl⟩
        have b2 : Below w1.heap.size w1 w2 := by rw [← hw2]; exact ((Below.refl _ w1).alloc (Nat.le_refl _) _).alloc (by simp) _
        have k2 : w2.heap[w1.heap.size + 1]? = some (.cells #[intV k, sV t, intV nn, .slice a l.length c] nT (0, 0)) := by
          rw [← hw2]
          have := World.alloc_heap_new (w1.alloc (rowW (.slice a l.length c))) (.cells #[intV k, sV t, intV nn, .slice a l.length c] nT (0, 0))
          rwa [World.size_alloc] at this
        have V2 := Lib.hid (V1.out.below b2)
        have B2 := Lib.hid (below_then B1.out b2)
        have HW2 := Lib.hid hw2
        have HK2 := Lib.hid k2
        clear hw2 b2 k2
        go_upto_region 4 with fail
        rw [HW2.out]
        clear d0 d1 d2 d3
        obtain ⟨e0, e1, e2, e3⟩ := box4T HK2.out
        obtain ⟨w3, hw3⟩ : ∃ X, w2.alloc (.cells #[intV k, sV t, intV nn, .slice a l.length c] nT) = X := ⟨_, rfl⟩
        have b3 : Below w2.heap.size w2 w3 := by rw [← hw3]; exact below_alloc _ _
        have X3 := Lib.hid (show VsAt w3 (fun _ => True) (.slice (some ⟨w2.heap.size, 0, none⟩) 1 1) [.mk k t nn l] by rw [← hw3]; exact HVW.out w2 V2.out)
        have V3 := Lib.hid (V2.out.below b3)
        have B3 := Lib.hid (below_then B2.out b3)
        haveI tt3 : T w3 := T.below B3.out
        have HW3 := Lib.hid hw3
        clear hw3 b3
        go_upto_region 5 with fail
        rw [HW3.out]
        clear e0 e1 e2 e3 HW2 HK2 HW3 V1 V2 B1 B2
        go_wp2_with fail
        refine (HCK.out w3 inferInstance X3.out).mono ?_
        rintro e4 w4 ⟨rfl, h4⟩
        have B4 := Lib.hid (below_then B3.out h4)
        haveI tt4 : T w4 := T.below B4.out
        have V4 := Lib.hid (V3.out.below h4)
        have X4 := Lib.hid (X3.out.below h4)
        clear h4 V3 X3 B3
        go_wp2_with fail
        refine (HDL.out w4 inferInstance V4.out).mono ?_
        rintro e5 w5 ⟨rfl, h5⟩
        have B5 := Lib.hid (below_then B4.out h5)
        haveI tt5 : T w5 := T.below B5.out
        have V5 := Lib.hid (V4.out.below h5)
        have X5 := Lib.hid (X4.out.below h5)
        clear h5 V4 X4 B4
        go_wp2_with fail
        refine (HCL.out w5 inferInstance V5.out).mono ?_
        rintro e6 w6 ⟨rfl, h6⟩
        have B6 := Lib.hid (below_then B5.out h6)
        haveI tt6 : T w6 := T.below B6.out
        have V6 := Lib.hid (V5.out.below h6)
        have X6 := Lib.hid (X5.out.below h6)
        clear h6 V5 X5 B5
        go_wp2_with fail
        refine (awake_any w6).mono ?_
        rintro e7 w7 ⟨rfl, h7⟩
        have B7 := Lib.hid (below_then B6.out h7)
        haveI tt7 : T w7 := T.below B7.out
        have V7 := Lib.hid (V6.out.below h7)
        have X7 := Lib.hid (X6.out.below h7)
        clear h7 V6 X6 B6
        go_wp2
        go_ret
        exact ⟨rfl, B7.out⟩
      · rw [if_neg h16] at hck
        have q1 : ((dl : Int) == 16) = false := by rw [beq_eq_false_iff_ne]; omega
        have HCF := Lib.hid (fun r (hr : hasSec l = r) W (h : VsAt W P (.slice a l.length c) l) => containsN_any 37 Tryz.call37 (fun x => decide (x.kd = 4)) l r hr _ P W (src_of_vs h) (by have := len_tots l; omega) (fun j hj s W' _ _ => isSec_any _ _ _ _ _ (beq_dec _ _) W'))
        by_cases hsec : hasSec l = true
        · rw [if_pos hsec] at hck
          have HCK := Lib.hid (fun W (_ : T W) {u : Value} (h : VsAt W (fun _ => True) u [.mk k t nn l]) => checkT_any [.mk k t nn l] u _ W h hct 12 hck)
          have HCS := Lib.hid (HCF.out true hsec)
          clear hl0 hck g2 hdl hs hct ht h16 hsec HCF
          go_enter Tryz.func9, Tryz.ntmps9
          go_wp2_with fail
          refine (HF.out).mono ?_
          rintro e1 w1 ⟨rfl, h1⟩
          have B1 := Lib.hid h1
          haveI tt1 : T w1 := T.below B1.out
          have V1 := Lib.hid (V0.out.below h1)
          clear h1 V0
          obtain ⟨d0, d1, d2, d3⟩ := HRW.out w1
          obtain ⟨w2, hw2⟩ : ∃ X, (w1.alloc (rowW (.slice a l.length c))).alloc (.cells #[intV k, sV t, intV nn, .slice a l.length c] nT (0, 0)) = X := ⟨_, rfl⟩
          have b2 : Below w1.heap.size w1 w2 := by rw [← hw2]; exact ((Below.refl _ w1).alloc (Nat.le_refl _) _).alloc (by simp) _
          have k2 : w2.heap[w1.heap.size + 1]? = some (.cells #[intV k, sV t, intV nn, .slice a l.length c] nT (0, 0)) := by
            rw [← hw2]
            have := World.alloc_heap_new (w1.alloc (rowW (.slice a l.length c))) (.cells #[intV k, sV t, intV nn, .slice a l.length c] nT (0, 0))
            rwa [World.size_alloc] at this
          have V2 := Lib.hid (V1.out.below b2)
          have B2 := Lib.hid (below_then B1.out b2)
          have HW2 := Lib.hid hw2
          have HK2 := Lib.hid k2
          clear hw2 b2 k2
          go_upto_region 4 with fail
          rw [HW2.out]
          clear d0 d1 d2 d3
          obtain ⟨e0, e1, e2, e3⟩ := box4T HK2.out
          obtain ⟨w3, hw3⟩ : ∃ X, w2.alloc (.cells #[intV k, sV t, intV nn, .slice a l.length c] nT) = X := ⟨_, rfl⟩
          have b3 : Below w2.heap.size w2 w3 := by rw [← hw3]; exact below_alloc _ _
          have X3 := Lib.hid (show VsAt w3 (fun _ => True) (.slice (some ⟨w2.heap.size, 0, none⟩) 1 1) [.mk k t nn l] by rw [← hw3]; exact HVW.out w2 V2.out)
          have V3 := Lib.hid (V2.out.below b3)
          have B3 := Lib.hid (below_then B2.out b3)
          haveI tt3 : T w3 := T.below B3.out
          have HW3 := Lib.hid hw3
          clear hw3 b3
          go_upto_region 5 with fail
          rw [HW3.out]
          clear e0 e1 e2 e3 HW2 HK2 HW3 V1 V2 B1 B2
          go_wp2_with fail
          refine (HCK.out w3 inferInstance X3.out).mono ?_
          rintro e4 w4 ⟨rfl, h4⟩
          have B4 := Lib.hid (below_then B3.out h4)
          haveI tt4 : T w4 := T.below B4.out
          have V4 := Lib.hid (V3.out.below h4)
          have X4 := Lib.hid (X3.out.below h4)
          clear h4 V3 X3 B3
          go_wp2_with fail
          refine (HDL.out w4 inferInstance V4.out).mono ?_
          rintro e5 w5 ⟨rfl, h5⟩
          have B5 := Lib.hid (below_then B4.out h5)
          haveI tt5 : T w5 := T.below B5.out
          have V5 := Lib.hid (V4.out.below h5)
          have X5 := Lib.hid (X4.out.below h5)
          clear h5 V4 X4 B4
          go_wp2_with fail
          refine (HCL.out w5 inferInstance V5.out).mono ?_
          rintro e6 w6 ⟨rfl, h6⟩
          have B6 := Lib.hid (below_then B5.out h6)
          haveI tt6 : T w6 := T.below B6.out
          have V6 := Lib.hid (V5.out.below h6)
          have X6 := Lib.hid (X5.out.below h6)
          clear h6 V5 X5 B5
          go_wp2_with fail
          refine (HCS.out w6 V6.out).mono ?_
          rintro e7 w7 ⟨rfl, h7⟩
          have B7 := Lib.hid (below_then B6.out h7)
          haveI tt7 : T w7 := T.below B7.out
          have V7 := Lib.hid (V6.out.below h7)
          have X7 := Lib.hid (X6.out.below h7)
          clear h7 V6 X6 B6
          go_wp2_with fail
          refine (awake_any w7).mono ?_
          rintro e8 w8 ⟨rfl, h8⟩
          have B8 := Lib.hid (below_then B7.out h8)
          haveI tt8 : T w8 := T.below B8.out
          have V8 := Lib.hid (V7.out.below h8)
          have X8 := Lib.hid (X7.out.below h8)
          clear h8 V7 X7 B7
          go_wp2
          go_ret
          exact ⟨rfl, B8.out⟩
        · rw [if_neg hsec] at hck
          have HCK := Lib.hid (fun W (_ : T W) {u : Value} (h : VsAt W (fun _ => True) u [.mk k t nn l]) => checkT_any [.mk k t nn l] u _ W h hct 0 hck)
          have HCS := Lib.hid (HCF.out false (by simpa using hsec))
          have HDW := Lib.hid (fun W (_ : T W) {u : Value} (h : VsAt W (fun _ => True) u [.mk k t nn l]) => depthT_any [.mk k t nn l] u _ W h hct ((dl + 1 : Nat) : Int) 0 (by unfold depthR; rw [if_pos hck, wrap_dep hl0, hdl]))
          have HCW := Lib.hid (fun W (_ : T W) {u : Value} (h : VsAt W (fun _ => True) u [.mk k t nn l]) => charsT_any [.mk k t nn l] u _ W h hct s 0 (by unfold charR; rw [if_pos hck, wrap_chr HK1.out, hs]))
          have wd : IntKind.i64.wrap ((dl : Int) + 1) = ((dl + 1 : Nat) : Int) := by rw [show (dl : Int) + 1 = ((dl + 1 : Nat) : Int) by omega]; exact IntWalk.i64_in _ (by omega)
          clear hl0 hck g2 hdl hs hct ht h16 hsec HCF
          go_enter Tryz.func9, Tryz.ntmps9
          go_wp2_with fail
          refine (HF.out).mono ?_
          rintro e1 w1 ⟨rfl, h1⟩
          have B1 := Lib.hid h1
          haveI tt1 : T w1 := T.below B1.out
          have V1 := Lib.hid (V0.out.below h1)
          clear h1 V0
          obtain ⟨d0, d1, d2, d3⟩ := HRW.out w1
          obtain ⟨w2, hw2⟩ : ∃ X, (w1.alloc (rowW (.slice a l.length c))).alloc (.cells #[intV k, sV t, intV nn, .slice a l.length c] nT (0, 0)) = X := ⟨_, rfl⟩
          have b2 : Below w1.heap.size w1 w2 := by rw [← hw2]; exact ((Below.refl _ w1).alloc (Nat.le_refl _) _).alloc (by simp) _
          have k2 : w2.heap[w1.heap.size + 1]? = some (.cells #[intV k, sV t, intV nn, .slice a l.length c] nT (0, 0)) := by
            rw [← hw2]
            have := World.alloc_heap_new (w1.alloc (rowW (.slice a l.length c))) (.cells #[intV k, sV t, intV nn, .slice a l.length c] nT (0, 0))
            rwa [World.size_alloc] at this
          have V2 := Lib.hid (V1.out.below b2)
          have B2 := Lib.hid (below_then B1.out b2)
          have HW2 := Lib.hid hw2
          have HK2 := Lib.hid k2
          clear hw2 b2 k2
          go_upto_region 4 with fail
          rw [HW2.out]
          clear d0 d1 d2 d3
          obtain ⟨e0, e1, e2, e3⟩ := box4T HK2.out
          obtain ⟨w3, hw3⟩ : ∃ X, w2.alloc (.cells #[intV k, sV t, intV nn, .slice a l.length c] nT) = X := ⟨_, rfl⟩
          have b3 : Below w2.heap.size w2 w3 := by rw [← hw3]; exact below_alloc _ _
          have X3 := Lib.hid (show VsAt w3 (fun _ => True) (.slice (some ⟨w2.heap.size, 0, none⟩) 1 1) [.mk k t nn l] by rw [← hw3]; exact HVW.out w2 V2.out)
          have V3 := Lib.hid (V2.out.below b3)
          have B3 := Lib.hid (below_then B2.out b3)
          haveI tt3 : T w3 := T.below B3.out
          have HW3 := Lib.hid hw3
          clear hw3 b3
          go_upto_region 5 with fail
          rw [HW3.out]
          clear e0 e1 e2 e3 HW2 HK2 HW3 V1 V2 B1 B2
          go_wp2_with fail
          refine (HCK.out w3 inferInstance X3.out).mono ?_
          rintro e4 w4 ⟨rfl, h4⟩
          have B4 := Lib.hid (below_then B3.out h4)
          haveI tt4 : T w4 := T.below B4.out
          have V4 := Lib.hid (V3.out.below h4)
          have X4 := Lib.hid (X3.out.below h4)
          clear h4 V3 X3 B3
          go_wp2_with fail
          refine (HDL.out w4 inferInstance V4.out).mono ?_
          rintro e5 w5 ⟨rfl, h5⟩
          have B5 := Lib.hid (below_then B4.out h5)
          haveI tt5 : T w5 := T.below B5.out
          have V5 := Lib.hid (V4.out.below h5)
          have X5 := Lib.hid (X4.out.below h5)
          clear h5 V4 X4 B4
          go_wp2_with fail
          refine (HCL.out w5 inferInstance V5.out).mono ?_
          rintro e6 w6 ⟨rfl, h6⟩
          have B6 := Lib.hid (below_then B5.out h6)
          haveI tt6 : T w6 := T.below B6.out
          have V6 := Lib.hid (V5.out.below h6)
          have X6 := Lib.hid (X5.out.below h6)
          clear h6 V5 X5 B5
          go_wp2_with fail
          refine (HCS.out w6 V6.out).mono ?_
          rintro e7 w7 ⟨rfl, h7⟩
          have B7 := Lib.hid (below_then B6.out h7)
          haveI tt7 : T w7 := T.below B7.out
          have V7 := Lib.hid (V6.out.below h7)
          have X7 := Lib.hid (X6.out.below h7)
          clear h7 V6 X6 B6
          go_wp2_with fail
          refine (HDW.out w7 inferInstance X7.out).mono ?_
          rintro e8 w8 ⟨rfl, h8⟩
          have B8 := Lib.hid (below_then B7.out h8)
          haveI tt8 : T w8 := T.below B8.out
          have V8 := Lib.hid (V7.out.below h8)
          have X8 := Lib.hid (X7.out.below h8)
          clear h8 V7 X7 B7
          go_wp2_with fail
          refine (HCW.out w8 inferInstance X8.out).mono ?_
          rintro e9 w9 ⟨rfl, h9⟩
          have B9 := Lib.hid (below_then B8.out h9)
          haveI tt9 : T w9 := T.below B9.out
          have V9 := Lib.hid (V8.out.below h9)
          have X9 := Lib.hid (X8.out.below h9)
          clear h9 V8 X8 B8
          go_wp2_with fail
          refine (awake_any w9).mono ?_
          rintro e10 w10 ⟨rfl, h10⟩
          have B10 := Lib.hid (below_then B9.out h10)
          haveI tt10 : T w10 := T.below B10.out
          have V10 := Lib.hid (V9.out.below h10)
          have X10 := Lib.hid (X9.out.below h10)
          clear h10 V9 X9 B9
          go_wp2
          go_ret
          exact ⟨rfl, B10.out⟩
theorem wraps_w (w : World) [T w] (v : Value) (l : List Nd) (kd : Int) (hv : NdIn w v l) (hl : l.length ≤ maxLen) (hk : (Lit.int .u8 kd).wf = true) :
    Calls Tryz.prog 9 #[v, .int .u8 kd] w fun e w' => e = .returned (.bool true) ∧ Below w.heap.size w w' :=
  wraps_law l kd v _ w hv hl (wf_u8 hk)
end Go.Proofs.YtmfcepfagbkceaaGreatDoor
