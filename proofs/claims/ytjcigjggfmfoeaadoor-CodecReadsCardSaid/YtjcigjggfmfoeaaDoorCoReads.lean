/- CodecReads: the law's walk. -/
import Derived.Test.YtjcigjggfmfoeaaDoorCoTwo
import Derived.Test.YtjcigjggfmfoeaaDoorCoRefDec
import Derived.Deep.Cut
namespace Go.Proofs.YtjcigjggfmfoeaaDoor
set_option linter.unusedSimpArgs false
set_option linter.unusedVariables false
set_option maxRecDepth 100000
open Go.RowKit Go.Deep

set_option maxHeartbeats 4000000 in
theorem reads_law (s : ByteArray) (n : Int) (l : List Val) (v : Value) (P : Nat → Prop) (w : World) (hsm : s.size ≤ 9223372036854775807) (hi : I64 n) (hlm : l.length ≤ 9223372036854775807) (hv : VsAt w P v l) (hT : Tab w) :
    Calls Tryd.prog 4 #[.string s, intV n, v] w fun e w' => e = .returned (.bool true) ∧ Below w.heap.size w w' := by
  have HV := Lib.hid hv
  obtain ⟨a, c, rfl, _⟩ := id hv
  have HT := Lib.hid hT
  have HSM := Lib.hid hsm
  have HI := Lib.hid hi
  clear hv hT hi hsm
  go_enter Tryd.func4, Tryd.ntmps4
  go_upto_region 1 with fail
  go_cut [32] from 11 (fun s32 W2 => ∃ b : Bool, s32 = .bool b ∧ Below w.heap.size w W2 ∧ (b = false → ((s.size ≤ 65536 ∨ 1048576 < s.size) ∧ s.size ≤ 1048580) ∧ l.length ≤ 8))
  case first =>
    by_cases h1 : 300 < s.size
    · have q1 : decide ((300 : Int) < s.size) = true := by simp; omega
      by_cases h2 : s.size ≤ 1048576
      · have q2 : decide ((s.size : Int) ≤ 1048576) = true := by simp; omega
        go_wp2_with fail
        go_meet
        case rel => exact ⟨true, rfl, Below.refl _ _, fun h => (nomatch h)⟩
      · have q2 : decide ((s.size : Int) ≤ 1048576) = false := by simp; omega
        by_cases h3 : 1048580 < s.size
        · have q3 : decide ((1048580 : Int) < s.size) = true := by simp; omega
          go_wp2_with fail
          go_meet
          case rel => exact ⟨true, rfl, Below.refl _ _, fun h => (nomatch h)⟩
        · have q3 : decide ((1048580 : Int) < s.size) = false := by simp; omega
          by_cases h4 : 8 < l.length
          · have q4 : decide ((8 : Int) < l.length) = true := by simp; omega
            go_wp2_with fail
            go_meet
            case rel => exact ⟨true, rfl, Below.refl _ _, fun h => (nomatch h)⟩
          · have q4 : decide ((8 : Int) < l.length) = false := by simp; omega
            have HC := Lib.hid (containsFunc_any 10 SmallV l _ P w HV.out (by omega) ⟨Tryd.call10, fun x _ v P W h => great_any x v P W h⟩)
            go_wp2_with fail
            refine HC.out.mono ?_
            rintro e w1 ⟨b, rfl, hg, hB⟩
            have HB := Lib.hid hB
            clear hg hB HC
            go_wp2_with fail
            go_meet
            case rel => exact ⟨b, rfl, HB.out, fun _ => ⟨⟨.inr (by omega), by omega⟩, by omega⟩⟩
    · have q1 : decide ((300 : Int) < s.size) = false := by simp; omega
      have q3 : decide ((1048580 : Int) < s.size) = false := by simp; omega
      by_cases h4 : 8 < l.length
      · have q4 : decide ((8 : Int) < l.length) = true := by simp; omega
        go_wp2_with fail
        go_meet
        case rel => exact ⟨true, rfl, Below.refl _ _, fun h => (nomatch h)⟩
      · have q4 : decide ((8 : Int) < l.length) = false := by simp; omega
        have HC := Lib.hid (containsFunc_any 10 SmallV l _ P w HV.out (by omega) ⟨Tryd.call10, fun x _ v P W h => great_any x v P W h⟩)
        go_wp2_with fail
        refine HC.out.mono ?_
        rintro e w1 ⟨b, rfl, hg, hB⟩
        have HB := Lib.hid hB
        clear hg hB HC
        go_wp2_with fail
        go_meet
        case rel => exact ⟨b, rfl, HB.out, fun _ => ⟨⟨.inl (by omega), by omega⟩, by omega⟩⟩
  case rest =>
    obtain ⟨b, rfl, hB, hsl⟩ := hcut
    have HB := Lib.hid hB
    have HSL := Lib.hid hsl
    clear hB hsl
    cases b with
    | true =>
      go_wp2_with fail
      refine (awake_any wc (HT.out.below HB.out)).mono ?_
      rintro e w4 ⟨rfl, h4⟩
      have HB4 := Lib.hid (below_seq HB.out h4 HB.out.size)
      clear h4
      go_wp2_with fail
      go_ret
      exact ⟨rfl, HB4.out⟩
    | false =>
      obtain ⟨⟨hs1, hs2⟩, hl8⟩ := HSL.out (by simp)
      obtain ⟨⟨x, r⟩, hd⟩ : ∃ p, dec s.data.toList = p := ⟨_, rfl⟩
      have HD := Lib.hid hd
      have HS1 := Lib.hid hs1
      have HS2 := Lib.hid (And.intro hs2 hl8)
      have HVC := Lib.hid (HV.out.below HB.out)
      clear hd hs1 hs2 hl8 HSL
      go_wp2_with fail
      refine (decode_any s HS1.out wc (HT.out.below HB.out) x r HD.out).mono ?_
      rintro e w1 ⟨so, sc, P1, rfl, hx, h1⟩
      obtain ⟨w2, hw2⟩ : ∃ X, w1.alloc (.cells #[intV x.kd, intV x.nm, .string x.tx, .slice so x.its.length sc] 24) = X := ⟨_, rfl⟩
      have hb2 : Below w1.heap.size w1 w2 := by rw [← hw2]; exact below_box0 w1 _
      have HX2 := Lib.hid (show w2.heap[w1.heap.size]? = some (.cells #[intV x.kd, intV x.nm, .string x.tx, .slice so x.its.length sc] 24 (0, 0)) by rw [← hw2]; exact heap_alloc_new _ _)
      have HVX2 := Lib.hid (hx.below hb2)
      have HB2 := Lib.hid (below_seq HB.out (below_seq h1 hb2 h1.size) HB.out.size)
      have HVC2 := Lib.hid (HVC.out.below (below_seq h1 hb2 h1.size))
      have HW2 := Lib.hid hw2
      clear hw2 hb2 hx h1
      go_upto_region 4 with fail
      rw [HW2.out]
      go_wp2_with fail
      refine (refDecode_any s HS1.out w2 (HT.out.below HB2.out) x r HD.out).mono ?_
      rintro e w3 ⟨ro, rc, P3, rfl, hy, h3⟩
      obtain ⟨w4, hw4⟩ : ∃ X, w3.alloc (.cells #[intV x.kd, intV x.nm, .string x.tx, .slice ro x.its.length rc] 24) = X := ⟨_, rfl⟩
      have hb4 : Below w3.heap.size w3 w4 := by rw [← hw4]; exact below_box0 w3 _
      have h24 := below_seq h3 hb4 h3.size
      have HY4 := Lib.hid (show w4.heap[w3.heap.size]? = some (.cells #[intV x.kd, intV x.nm, .string x.tx, .slice ro x.its.length rc] 24 (0, 0)) by rw [← hw4]; exact heap_alloc_new _ _)
      have HVY4 := Lib.hid (hy.below hb4)
      have HX4 := Lib.hid ((h24.block _ (heap_lt HX2.out)).trans HX2.out)
      have HVX4 := Lib.hid (HVX2.out.below h24)
      have HB4 := Lib.hid (below_seq HB2.out h24 HB2.out.size)
      have HVC4 := Lib.hid (HVC2.out.below h24)
      have HW4 := Lib.hid hw4
      clear hw4 hb4 hy h3 h24
      go_upto_region 5 with fail
      rw [HW4.out]
      obtain ⟨c0, c1, c2, c3⟩ := heap4 HX4.out
      obtain ⟨e0, e1, e2, e3⟩ := heap4 HY4.out
      go_wp2_with fail
      refine (refSame_at x x _ _ _ _ w4 HVX4.out HVY4.out true (same_refl.1 x)).mono ?_
      rintro e w5 ⟨rfl, h5⟩
      have HB5 := Lib.hid (below_seq HB4.out h5 HB4.out.size)
      have HVC5 := Lib.hid (HVC4.out.below h5)
      clear h5 c0 c1 c2 c3 e0 e1 e2 e3
      go_wp2_with fail
      refine (int_any n w5).mono ?_
      rintro e w6 ⟨rfl, h6⟩
      have HB6 := Lib.hid (below_seq HB5.out h6 HB5.out.size)
      have HVC6 := Lib.hid (HVC5.out.below h6)
      clear h6
      go_wp2_with fail
      refine (refInt_any n w6).mono ?_
      rintro e w7 ⟨rfl, h7⟩
      have HB7 := Lib.hid (below_seq HB6.out h7 HB6.out.size)
      have HVC7 := Lib.hid (HVC6.out.below h7)
      clear h7
      go_wp2_with fail
      refine (refSame_at (mkI n) (mkI n) _ _ (fun _ => True) (fun _ => True) w7 (vat_int HI.out) (vat_int HI.out) true (same_refl.1 _)).mono ?_
      rintro e w8 ⟨rfl, h8⟩
      have HB8 := Lib.hid (below_seq HB7.out h8 HB7.out.size)
      have HVC8 := Lib.hid (HVC7.out.below h8)
      clear h8
      go_wp2_with fail
      refine (text_any s w8).mono ?_
      rintro e w9 ⟨rfl, h9⟩
      have HB9 := Lib.hid (below_seq HB8.out h9 HB8.out.size)
      have HVC9 := Lib.hid (HVC8.out.below h9)
      clear h9
      go_wp2_with fail
      refine (refText_any s w9).mono ?_
      rintro e w10 ⟨rfl, h10⟩
      have HB10 := Lib.hid (below_seq HB9.out h10 HB9.out.size)
      have HVC10 := Lib.hid (HVC9.out.below h10)
      clear h10
      go_wp2_with fail
      refine (refSame_at (mkT s) (mkT s) _ _ (fun _ => True) (fun _ => True) w10 (vat_text HSM.out) (vat_text HSM.out) true (same_refl.1 _)).mono ?_
      rintro e w11 ⟨rfl, h11⟩
      have HB11 := Lib.hid (below_seq HB10.out h11 HB10.out.size)
      have HVC11 := Lib.hid (HVC10.out.below h11)
      clear h11
      go_wp2_with fail
      refine (list_any l _ P (fun _ => True) w11 HVC11.out (by have := HS2.out.2; omega) (fun _ _ _ => trivial) (fun _ _ => trivial)).mono ?_
      rintro e w12 ⟨u, rfl, hu, h12⟩
      have HB12 := Lib.hid (below_seq HB11.out h12 HB11.out.size)
      have HVC12 := Lib.hid (HVC11.out.below h12)
      have HU12 := Lib.hid (vat_list (by have := HS2.out.2; omega) hu)
      clear h12 hu
      go_wp2_with fail
      refine (refList_any l _ P (fun _ => True) w12 HVC12.out (by have := HS2.out.2; omega) (fun _ _ _ => trivial) (fun _ _ => trivial)).mono ?_
      rintro e w13 ⟨u', rfl, hu, h13⟩
      have HB13 := Lib.hid (below_seq HB12.out h13 HB12.out.size)
      have HU13 := Lib.hid (HU12.out.below h13)
      have HU13' := Lib.hid (vat_list (by have := HS2.out.2; omega) hu)
      clear h13 hu
      go_wp2_with fail
      refine (refSame_at (mkL l) (mkL l) _ _ _ _ w13 HU13.out HU13'.out true (same_refl.1 _)).mono ?_
      rintro e w14 ⟨rfl, h14⟩
      have HB14 := Lib.hid (below_seq HB13.out h14 HB13.out.size)
      clear h14
      go_wp2_with fail
      refine (awake_any w14 (HT.out.below HB14.out)).mono ?_
      rintro e w15 ⟨rfl, h15⟩
      have HB15 := Lib.hid (below_seq HB14.out h15 HB14.out.size)
      clear h15
      go_wp2_with fail
      go_ret
      exact ⟨rfl, HB15.out⟩
end Go.Proofs.YtjcigjggfmfoeaaDoor
