/- Stage 10 (transcript): TrMerges, put together by merge10.py. -/
import Derived.Test.YtmfcepfagbkceaaGreatDoorOx
import Derived.Test.YtmfcepfagbkceaaGreatDoorOy7
namespace Go.Proofs.YtmfcepfagbkceaaGreatDoor
set_option linter.unusedSimpArgs false
set_option linter.unusedVariables false
set_option maxRecDepth 100000
open Go.RowKit Go.Deep
def SomePostM (L : List Nd) (w : World) (e : Ending) (w' : World) : Prop := ∃ u, e = .returned u ∧ (∃ P, VsAt w' P u L) ∧ Below w.heap.size w w'
theorem some_postM {L : List Nd} {w : World} {e : Ending} {w' : World} (h : MergePost L w e w') : SomePostM (mrgL [] L) w e w' := by
  obtain ⟨u, he, hv, hb⟩ := h
  exact ⟨u, he, ⟨_, hv⟩, hb⟩
set_option maxHeartbeats 8000000 in
theorem merges_law (l : List Nd) (v : Value) (P : Nat → Prop) (w : World) [T w] (hv : VsAt w P v l) (hl : l.length ≤ maxLen) :
    Calls Tryz.prog 6 #[v] w fun e w' => e = .returned (.bool true) ∧ Below w.heap.size w w' := by
  obtain ⟨a, c, rfl⟩ := vs_slice hv
  obtain ⟨g, hg⟩ : ∃ g, greatR l = g := ⟨_, rfl⟩
  have HG := Lib.hid (great10_any l g hg (Nat.le_trans hl (by unfold maxLen; decide)) _ P w hv)
  have V0 := Lib.hid hv
  clear hl hv
  cases g with
  | true =>
    clear hg
    go_enter Tryz.func6, Tryz.ntmps6
    go_wp2_with fail
    refine (HG.out).mono ?_
    rintro e1 w1 ⟨rfl, h1⟩
    have B1 := Lib.hid h1
    haveI tt1 : T w1 := T.below B1.out
    clear h1
    go_wp2_with fail
    refine (awake_any w1).mono ?_
    rintro e2 w2 ⟨rfl, h2⟩
    have B2 := Lib.hid (below_then B1.out h2)
    haveI tt2 : T w2 := T.below B2.out
    clear h2 B1
    go_wp2
    go_ret
    exact ⟨rfl, B2.out⟩
  | false =>
    obtain ⟨ht, hj, hc⟩ := great_jn hg
    obtain ⟨kr, hkr⟩ : ∃ r, ckR l = r := ⟨_, rfl⟩
    obtain ⟨f, hf⟩ : ∃ f, flatL l = f := ⟨_, rfl⟩
    obtain ⟨m, hm⟩ : ∃ m, mrgL [] l = m := ⟨_, rfl⟩
    have hmt := mrg_tots.2 l []
    rw [tots, Nat.zero_add, hm] at hmt
    have hjm := mrg_ok hj
    rw [hm] at hjm
    have hmd := mrg_mgd.2 l [] rfl
    rw [hm] at hmd
    have hmm : mrgL [] m = m := by
      have := mrg_same.2 m false [] hmd rfl
      simpa using this
    have HK := Lib.hid (fun W (h : VsAt W P (.slice a l.length c) l) => check10_any l kr hkr _ P W h)
    have HM := Lib.hid (fun W (h : VsAt W P (.slice a l.length c) l) => (mergeT_any _ l (Nat.le_refl _) (by omega) hj _ P W h).mono fun _ _ => some_postM)
    rw [hm] at HM
    have HN := Lib.hid (fun W (h : VsAt W P (.slice a l.length c) l) => nested_anyL _ l (Nat.le_refl _) (by omega) (!f) (by rw [hf]) _ P W h)
    have HMM := Lib.hid (fun u Q W (h : VsAt W Q u m) => (mergeT_any _ m (Nat.le_refl _) (by omega) hjm u Q W h).mono fun _ _ => some_postM)
    rw [hmm] at HMM
    have HD := Lib.hid (fun u Q W (h : VsAt W Q u m) => merged_any _ m (Nat.le_refl _) (by omega) true hmd u Q W h)
    have HS := Lib.hid (fun u v P Q (W : World) (h1 : VsAt W P u m) (h2 : VsAt W Q v m) => same_any _ m (Nat.le_refl _) (by omega) m true (by simp) u v P Q W h1 h2)
    have HSL := Lib.hid (fun (q : kr = 0) u Q (W : World) (h1 : VsAt W Q u m) (h2 : VsAt W P (.slice a l.length c) l) => same_any _ m (Nat.le_refl _) (by omega) l true (by subst q; rw [← hm, mrg_valid (ck_zero hkr).2.2.1]; simp) u _ Q P W h1 h2)
    have HPL := Lib.hid (fun W (h : VsAt W P (.slice a l.length c) l) => plain_any _ l (Nat.le_refl _) (by omega) hc (chrL l) rfl _ P W h)
    have HPM := Lib.hid (fun (q : f = true) u Q W (h : VsAt W Q u m) => plain_any _ m (Nat.le_refl _) (by omega) (by subst q; have := mrg_chr.2 l [] hf (by simp); rw [hm, chrL, List.nil_append] at this; rw [this]; exact hc) (chrL l) (by subst q; have := mrg_chr.2 l [] hf (by simp); rw [hm, chrL, List.nil_append] at this; exact this) u Q W h)
    obtain ⟨tx, htx⟩ : ∃ t, chrL l = t := ⟨_, rfl⟩
    rw [htx] at HPL HPM
    clear hg ht hj hc hkr hf hmt hjm hmd hmm htx
    by_cases hk : kr = 0
    · subst hk
      have HSK := Lib.hid (HSL.out rfl)
      clear hm HSL
      cases f with
      | false =>
        clear HPM HPL HMM HS HD
        go_enter Tryz.func6, Tryz.ntmps6
        go_wp2_with fail
        refine (HG.out).mono ?_
        rintro e1 w1 ⟨rfl, h1⟩
        have B1 := Lib.hid h1
        haveI tt1 : T w1 := T.below B1.out
        have V1 := Lib.hid (V0.out.below h1)
        clear h1 V0
        go_wp2_with fail
        refine (HK.out w1 V1.out).mono ?_
        rintro e2 w2 ⟨rfl, h2⟩
        have B2 := Lib.hid (below_then B1.out h2)
        haveI tt2 : T w2 := T.below B2.out
        have V2 := Lib.hid (V1.out.below h2)
        clear h2 V1 B1
        go_wp2_with fail
        refine (HM.out w2 V2.out).mono ?_
        rintro e3 w3 ⟨u, rfl, ⟨Pu, ku⟩, h3⟩
        have B3 := Lib.hid (below_then B2.out h3)
        haveI tt3 : T w3 := T.below B3.out
        have V3 := Lib.hid (V2.out.below h3)
        clear h3 V2 B2
        obtain ⟨ua, uc, rfl⟩ := vs_slice ku
        have M3 := Lib.hid ku
        clear ku
        go_wp2_with fail
        refine (HSK.out _ _ w3 M3.out V3.out).mono ?_
        rintro e4 w4 ⟨rfl, h4⟩
        have B4 := Lib.hid (below_then B3.out h4)
        haveI tt4 : T w4 := T.below B4.out
        have V4 := Lib.hid (V3.out.below h4)
        have M4 := Lib.hid (M3.out.below h4)
        clear h4 V3 M3 B3
        go_wp2_with fail
        refine (HN.out w4 V4.out).mono ?_
        rintro e5 w5 ⟨rfl, h5⟩
        have B5 := Lib.hid (below_then B4.out h5)
        haveI tt5 : T w5 := T.below B5.out
        have V5 := Lib.hid (V4.out.below h5)
        clear h5 V4 B4
        go_wp2_with fail
        refine (awake_any w5).mono ?_
        rintro e6 w6 ⟨rfl, h6⟩
        have B6 := Lib.hid (below_then B5.out h6)
        haveI tt6 : T w6 := T.below B6.out
        have V6 := Lib.hid (V5.out.below h6)
        clear h6 V5 B5
        go_wp2
        go_ret
        exact ⟨rfl, B6.out⟩
      | true =>
        have HPN := Lib.hid (HPM.out rfl)
        clear HPM
        go_enter Tryz.func6, Tryz.ntmps6
        go_wp2_with fail
        refine (HG.out).mono ?_
        rintro e1 w1 ⟨rfl, h1⟩
        have B1 := Lib.hid h1
        haveI tt1 : T w1 := T.below B1.out
        have V1 := Lib.hid (V0.out.below h1)
        clear h1 V0
        go_wp2_with fail
        refine (HK.out w1 V1.out).mono ?_
        rintro e2 w2 ⟨rfl, h2⟩
        have B2 := Lib.hid (below_then B1.out h2)
        haveI tt2 : T w2 := T.below B2.out
        have V2 := Lib.hid (V1.out.below h2)
        clear h2 V1 B1
        go_wp2_with fail
        refine (HM.out w2 V2.out).mono ?_
        rintro e3 w3 ⟨u, rfl, ⟨Pu, ku⟩, h3⟩
        have B3 := Lib.hid (below_then B2.out h3)
        haveI tt3 : T w3 := T.below B3.out
        have V3 := Lib.hid (V2.out.below h3)
        clear h3 V2 B2
        obtain ⟨ua, uc, rfl⟩ := vs_slice ku
        have M3 := Lib.hid ku
        clear ku
        go_wp2_with fail
        refine (HSK.out _ _ w3 M3.out V3.out).mono ?_
        rintro e4 w4 ⟨rfl, h4⟩
        have B4 := Lib.hid (below_then B3.out h4)
        haveI tt4 : T w4 := T.below B4.out
        have V4 := Lib.hid (V3.out.below h4)
        have M4 := Lib.hid (M3.out.below h4)
        clear h4 V3 M3 B3
        go_wp2_with fail
        refine (HN.out w4 V4.out).mono ?_
        rintro e5 w5 ⟨rfl, h5⟩
        have B5 := Lib.hid (below_then B4.out h5)
        haveI tt5 : T w5 := T.below B5.out
        have V5 := Lib.hid (V4.out.below h5)
        clear h5 V4 B4
        go_wp2_with fail
        refine (HM.out w5 V5.out).mono ?_
        rintro e6 w6 ⟨x, rfl, ⟨Px, kx⟩, h6⟩
        have B6 := Lib.hid (below_then B5.out h6)
        haveI tt6 : T w6 := T.below B6.out
        have V6 := Lib.hid (V5.out.below h6)
        clear h6 V5 B5
        obtain ⟨xa, xc, rfl⟩ := vs_slice kx
        have X6 := Lib.hid kx
        clear kx
        go_wp2_with fail
        refine (HPN.out _ _ w6 X6.out).mono ?_
        rintro e7 w7 ⟨rfl, h7⟩
        have B7 := Lib.hid (below_then B6.out h7)
        haveI tt7 : T w7 := T.below B7.out
        have V7 := Lib.hid (V6.out.below h7)
        have X7 := Lib.hid (X6.out.below h7)
        clear h7 V6 X6 B6
        go_wp2_with fail
        refine (HPL.out w7 V7.out).mono ?_
        rintro e8 w8 ⟨rfl, h8⟩
        have B8 := Lib.hid (below_then B7.out h8)
        haveI tt8 : T w8 := T.below B8.out
        have V8 := Lib.hid (V7.out.below h8)
        have X8 := Lib.hid (X7.out.below h8)
        clear h8 V7 X7 B7
        go_wp2_with fail
        refine (HD.out _ _ w8 X8.out).mono ?_
        rintro e9 w9 ⟨rfl, h9⟩
        have B9 := Lib.hid (below_then B8.out h9)
        haveI tt9 : T w9 := T.below B9.out
        have V9 := Lib.hid (V8.out.below h9)
        have X9 := Lib.hid (X8.out.below h9)
        clear h9 V8 X8 B8
        go_wp2_with fail
        refine (HMM.out _ _ w9 X9.out).mono ?_
        rintro e10 w10 ⟨y, rfl, ⟨Py, ky⟩, h10⟩
        have B10 := Lib.hid (below_then B9.out h10)
        haveI tt10 : T w10 := T.below B10.out
        have V10 := Lib.hid (V9.out.below h10)
        have X10 := Lib.hid (X9.out.below h10)
        clear h10 V9 X9 B9
        obtain ⟨ya, yc, rfl⟩ := vs_slice ky
        have Y10 := Lib.hid ky
        clear ky
        go_wp2_with fail
        refine (HS.out _ _ _ _ w10 Y10.out X10.out).mono ?_
        rintro e11 w11 ⟨rfl, h11⟩
        have B11 := Lib.hid (below_then B10.out h11)
        haveI tt11 : T w11 := T.below B11.out
        have V11 := Lib.hid (V10.out.below h11)
        have X11 := Lib.hid (X10.out.below h11)
        have Y11 := Lib.hid (Y10.out.below h11)
        clear h11 V10 X10 Y10 B10
        go_wp2_with fail
        refine (awake_any w11).mono ?_
        rintro e12 w12 ⟨rfl, h12⟩
        have B12 := Lib.hid (below_then B11.out h12)
        haveI tt12 : T w12 := T.below B12.out
        have V12 := Lib.hid (V11.out.below h12)
        have X12 := Lib.hid (X11.out.below h12)
        have Y12 := Lib.hid (Y11.out.below h12)
        clear h12 V11 X11 Y11 B11
        go_wp2
        go_ret
        exact ⟨rfl, B12.out⟩
    · have q1 : (kr == 0) = false := by simpa using hk
      clear hm HSL hk
      cases f with
      | false =>
        clear HPM HPL HMM HS HD HM
        go_enter Tryz.func6, Tryz.ntmps6
        go_wp2_with fail
        refine (HG.out).mono ?_
        rintro e1 w1 ⟨rfl, h1⟩
        have B1 := Lib.hid h1
        haveI tt1 : T w1 := T.below B1.out
        have V1 := Lib.hid (V0.out.below h1)
        clear h1 V0
        go_wp2_with fail
        refine (HK.out w1 V1.out).mono ?_
        rintro e2 w2 ⟨rfl, h2⟩
        have B2 := Lib.hid (below_then B1.out h2)
        haveI tt2 : T w2 := T.below B2.out
        have V2 := Lib.hid (V1.out.below h2)
        clear h2 V1 B1
        go_wp2_with fail
        refine (HN.out w2 V2.out).mono ?_
        rintro e3 w3 ⟨rfl, h3⟩
        have B3 := Lib.hid (below_then B2.out h3)
        haveI tt3 : T w3 := T.below B3.out
        have V3 := Lib.hid (V2.out.below h3)
        clear h3 V2 B2
        go_wp2_with fail
        refine (awake_any w3).mono ?_
        rintro e4 w4 ⟨rfl, h4⟩
        have B4 := Lib.hid (below_then B3.out h4)
        haveI tt4 : T w4 := T.below B4.out
        have V4 := Lib.hid (V3.out.below h4)
        clear h4 V3 B3
        go_wp2
        go_ret
        exact ⟨rfl, B4.out⟩
      | true =>
        have HPN := Lib.hid (HPM.out rfl)
        clear HPM
        go_enter Tryz.func6, Tryz.ntmps6
        go_wp2_with fail
        refine (HG.out).mono ?_
        rintro e1 w1 ⟨rfl, h1⟩
        have B1 := Lib.hid h1
        haveI tt1 : T w1 := T.below B1.out
        have V1 := Lib.hid (V0.out.below h1)
        clear h1 V0
        go_wp2_with fail
        refine (HK.out w1 V1.out).mono ?_
        rintro e2 w2 ⟨rfl, h2⟩
        have B2 := Lib.hid (below_then B1.out h2)
        haveI tt2 : T w2 := T.below B2.out
        have V2 := Lib.hid (V1.out.below h2)
        clear h2 V1 B1
        go_wp2_with fail
        refine (HN.out w2 V2.out).mono ?_
        rintro e3 w3 ⟨rfl, h3⟩
        have B3 := Lib.hid (below_then B2.out h3)
        haveI tt3 : T w3 := T.below B3.out
        have V3 := Lib.hid (V2.out.below h3)
        clear h3 V2 B2
        go_wp2_with fail
        refine (HM.out w3 V3.out).mono ?_
        rintro e4 w4 ⟨x, rfl, ⟨Px, kx⟩, h4⟩
        have B4 := Lib.hid (below_then B3.out h4)
        haveI tt4 : T w4 := T.below B4.out
        have V4 := Lib.hid (V3.out.below h4)
        clear h4 V3 B3
        obtain ⟨xa, xc, rfl⟩ := vs_slice kx
        have X4 := Lib.hid kx
        clear kx
        go_wp2_with fail
        refine (HPN.out _ _ w4 X4.out).mono ?_
        rintro e5 w5 ⟨rfl, h5⟩
        have B5 := Lib.hid (below_then B4.out h5)
        haveI tt5 : T w5 := T.below B5.out
        have V5 := Lib.hid (V4.out.below h5)
        have X5 := Lib.hid (X4.out.below h5)
        clear h5 V4 X4 B4
        go_wp2_with fail
        refine (HPL.out w5 V5.out).mono ?_
        rintro e6 w6 ⟨rfl, h6⟩
        have B6 := Lib.hid (below_then B5.out h6)
        haveI tt6 : T w6 := T.below B6.out
        have V6 := Lib.hid (V5.out.below h6)
        have X6 := Lib.hid (X5.out.below h6)
        clear h6 V5 X5 B5
        go_wp2_with fail
        refine (HD.out _ _ w6 X6.out).mono ?_
        rintro e7 w7 ⟨rfl, h7⟩
        have B7 := Lib.hid (below_then B6.out h7)
        haveI tt7 : T w7 := T.below B7.out
        have V7 := Lib.hid (V6.out.below h7)
        have X7 := Lib.hid (X6.out.below h7)
        clear h7 V6 X6 B6
        go_wp2_with fail
        refine (HMM.out _ _ w7 X7.out).mono ?_
        rintro e8 w8 ⟨y, rfl, ⟨Py, ky⟩, h8⟩
        have B8 := Lib.hid (below_then B7.out h8)
        haveI tt8 : T w8 := T.below B8.out
        have V8 := Lib.hid (V7.out.below h8)
        have X8 := Lib.hid (X7.out.below h8)
        clear h8 V7 X7 B7
        obtain ⟨ya, yc, rfl⟩ := vs_slice ky
        have Y8 := Lib.hid ky
        clear ky
        go_wp2_with fail
        refine (HS.out _ _ _ _ w8 Y8.out X8.out).mono ?_
        rintro e9 w9 ⟨rfl, h9⟩
        have B9 := Lib.hid (below_then B8.out h9)
        haveI tt9 : T w9 := T.below B9.out
        have V9 := Lib.hid (V8.out.below h9)
        have X9 := Lib.hid (X8.out.below h9)
        have Y9 := Lib.hid (Y8.out.below h9)
        clear h9 V8 X8 Y8 B8
        go_wp2_with fail
        refine (awake_any w9).mono ?_
        rintro e10 w10 ⟨rfl, h10⟩
        have B10 := Lib.hid (below_then B9.out h10)
        haveI tt10 : T w10 := T.below B10.out
        have V10 := Lib.hid (V9.out.below h10)
        have X10 := Lib.hid (X9.out.below h10)
        have Y10 := Lib.hid (Y9.out.below h10)
        clear h10 V9 X9 Y9 B9
        go_wp2
        go_ret
        exact ⟨rfl, B10.out⟩
theorem merges_w (w : World) [T w] (v : Value) (l : List Nd) (hv : NdIn w v l) (hl : l.length ≤ maxLen) :
    Calls Tryz.prog 6 #[v] w fun e w' => e = .returned (.bool true) ∧ Below w.heap.size w w' :=
  merges_law l v _ w hv hl
end Go.Proofs.YtmfcepfagbkceaaGreatDoor
