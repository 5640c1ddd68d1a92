/- CodecCanonical: the law's walk. Written by tools/gen_colaws.py. -/
import Derived.Test.YtjcigjggfmfoeaaDoorCoBack
namespace Go.Proofs.YtjcigjggfmfoeaaDoor
set_option linter.unusedSimpArgs false
set_option linter.unusedVariables false
set_option maxRecDepth 100000
open Go.RowKit Go.Deep

set_option maxHeartbeats 4000000 in
theorem canonical_law (s : ByteArray) (hs0 : s.size ≤ 9223372036854775807) (w : World) (hT : Tab w) :
    Calls Tryd.prog 6 #[.string s] w fun e w' => e = .returned (.bool true) ∧ Below w.heap.size w w' := by
  have HT := Lib.hid hT
  have HB0 := Lib.hid (Below.refl w.heap.size w)
  clear hT
  by_cases hbig : 300 < s.size
  · have hb : (300 : Int) < s.size := by omega
    go_enter Tryd.func6, Tryd.ntmps6
    go_wp2_with fail
    refine (awake_any w (HT.out.below HB0.out)).mono ?_
    rintro e w1 ⟨rfl, h1⟩
    have HB1 := Lib.hid (below_seq HB0.out h1 HB0.out.size)
    clear h1
    go_wp2_with fail
    go_ret
    exact ⟨rfl, HB1.out⟩
  · have hb : decide ((300 : Int) < s.size) = false := by simp; omega
    have hb' : (s.size : Int) ≤ 300 := by omega
    obtain ⟨⟨x, r⟩, hd⟩ : ∃ p, dec s.data.toList = p := ⟨_, rfl⟩
    have HD := Lib.hid hd
    have HDEC := Lib.hid (decode_any s (.inl (by omega)) w HT.out x r hd)
    clear hd hbig
    go_enter Tryd.func6, Tryd.ntmps6
    go_wp2_with fail
    refine HDEC.out.mono ?_
    rintro e w1 ⟨yo, yc, P5, rfl, hv1, h1⟩
    obtain ⟨w2, hw2⟩ : ∃ X, w1.alloc (.cells #[intV x.kd, intV x.nm, .string x.tx, .slice yo x.its.length yc] 24) = X := ⟨_, rfl⟩
    have hb2 : Below w1.heap.size w1 w2 := by rw [← hw2]; exact below_box0 w1 _
    have HB2 := Lib.hid (below_seq h1 hb2 h1.size)
    have HXx2 := Lib.hid (show w2.heap[w1.heap.size]? = some (.cells #[intV x.kd, intV x.nm, .string x.tx, .slice yo x.its.length yc] 24 (0, 0)) by rw [← hw2]; exact heap_alloc_new _ _)
    have HVx2 := Lib.hid (hv1.below hb2)
    have HW2 := Lib.hid hw2
    clear hw2 hb2 h1 hv1 HDEC
    go_upto_region 4 with fail
    rw [HW2.out]
    obtain ⟨c0, c1, c2, c3⟩ := heap4 HXx2.out
    rcases dec_cases (by rw [size_list]; omega) HD.out with ⟨hr, hx, htot, hchk⟩ | ⟨hr, hx⟩
    · have HR := Lib.hid (And.intro hx (And.intro htot hchk))
      subst hr
      clear hx htot hchk
      have HENC := Lib.hid (encode_at x _ _ w2 HVx2.out (by have := HR.out.2.1; rw [size_list] at this; omega) (by rw [HR.out.1, size_list]; omega) (HT.out.below HB2.out) 0 HR.out.2.2 s (by rw [if_pos rfl, HR.out.1]))
      go_wp2_with fail
      refine (HENC.out).mono ?_
      rintro e w3 ⟨rfl, h3⟩
      have HB3 := Lib.hid (below_seq HB2.out h3 HB2.out.size)
      clear h3
      clear c0 c1 c2 c3
      go_wp2_with fail
      refine (awake_any w3 (HT.out.below HB3.out)).mono ?_
      rintro e w4 ⟨rfl, h4⟩
      have HB4 := Lib.hid (below_seq HB3.out h4 HB3.out.size)
      clear h4
      go_wp2_with fail
      go_ret
      exact ⟨rfl, HB4.out⟩
    · subst hx
      rcases hr with rfl | rfl
      · clear HD
        go_wp2_with fail
        refine (refSame_at mkZ mkZ _ _ _ (fun _ => True) w2 HVx2.out (vat_zero _ _) true (same_refl.1 mkZ)).mono ?_
        rintro e w3 ⟨rfl, h3⟩
        have HB3 := Lib.hid (below_seq HB2.out h3 HB2.out.size)
        clear h3
        clear c0 c1 c2 c3
        go_wp2_with fail
        refine (awake_any w3 (HT.out.below HB3.out)).mono ?_
        rintro e w4 ⟨rfl, h4⟩
        have HB4 := Lib.hid (below_seq HB3.out h4 HB3.out.size)
        clear h4
        go_wp2_with fail
        go_ret
        exact ⟨rfl, HB4.out⟩
      · clear HD
        go_wp2_with fail
        refine (refSame_at mkZ mkZ _ _ _ (fun _ => True) w2 HVx2.out (vat_zero _ _) true (same_refl.1 mkZ)).mono ?_
        rintro e w3 ⟨rfl, h3⟩
        have HB3 := Lib.hid (below_seq HB2.out h3 HB2.out.size)
        clear h3
        clear c0 c1 c2 c3
        go_wp2_with fail
        refine (awake_any w3 (HT.out.below HB3.out)).mono ?_
        rintro e w4 ⟨rfl, h4⟩
        have HB4 := Lib.hid (below_seq HB3.out h4 HB3.out.size)
        clear h4
        go_wp2_with fail
        go_ret
        exact ⟨rfl, HB4.out⟩
end Go.Proofs.YtjcigjggfmfoeaaDoor
