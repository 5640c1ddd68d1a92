/- Stage 10 (transcript): TrBackL, put together by merge10.py. -/
import Derived.Test.YtmfcepfagbkceaaGreatDoorOx
import Derived.Test.YtmfcepfagbkceaaGreatDoorOx1
namespace Go.Proofs.YtmfcepfagbkceaaGreatDoor
set_option linter.unusedSimpArgs false
set_option linter.unusedVariables false
set_option maxRecDepth 100000
open Go.RowKit Go.Deep
set_option maxHeartbeats 8000000 in
theorem back_law (l : List Nd) (v : Value) (P : Nat → Prop) (s : Bs) (w : World) [T w] (hv : VsAt w P v l) (hl : l.length ≤ maxLen) (hs : s.length ≤ maxLen) :
    Calls Tryz.prog 5 #[v, sV s] w fun e w' => e = .returned (.bool true) ∧ Below w.heap.size w w' := by
  have V0 := Lib.hid hv
  obtain ⟨a, c, rfl⟩ := vs_slice hv
  obtain ⟨b, hb⟩ : ∃ b, fineR l = b := ⟨_, rfl⟩
  obtain ⟨g, hg⟩ : ∃ g, greatB s.length = g := ⟨_, rfl⟩
  obtain ⟨r, hr⟩ : ∃ r, parseR s = r := ⟨_, rfl⟩
  obtain ⟨N, k⟩ := r
  have HF := Lib.hid (fine_any l b hb hl _ P w hv)
  have HG := Lib.hid (fun W => greatS_any s hs g hg W)
  clear hv hl
  cases b
  rotate_left
  ·
    obtain ⟨hb1, hb2⟩ := fine_of hb
    have ht := (ck_zero hb2).1
    have HPR := Lib.hid (fun W (_ : T W) (h : VsAt W P (.slice a l.length c) l) => printT_any l _ P W h (by omega) (outL l) 0 (by unfold printT; rw [if_pos hb2]))
    have HPA := Lib.hid (fun W (_ : T W) => parse_at (parse_print hb2) (fine_scan hb) (Nat.le_trans (fine_short hb1 hb2).2 (by unfold maxLen; decide)) W)
    have HSM := Lib.hid (fun u Q W (h1 : VsAt W Q u l) (h2 : VsAt W P (.slice a l.length c) l) => same_any (tots l) l (Nat.le_refl _) (by omega) l true (by simp) u _ Q P W h1 h2)
    have HCK := Lib.hid (fun W (_ : T W) (h : VsAt W P (.slice a l.length c) l) => checkT_any l _ P W h (by omega) 0 hb2)
    clear hb1 hb2 ht hb
    cases g
    case true =>
      clear hg hr hs
      go_enter Tryz.func5, Tryz.ntmps5
      go_wp2_with fail
      refine (HF.out).mono ?_
      rintro e1 w1 ⟨rfl, h1⟩
      have B1 := Lib.hid h1
      haveI tt1 : T w1 := T.below B1.out
      have V1 := Lib.hid (V0.out.below h1)
      clear h1 V0
      go_wp2_with fail
      refine (HPR.out w1 inferInstance V1.out).mono ?_
      rintro e2 w2 ⟨rfl, h2⟩
      have B2 := Lib.hid (below_then B1.out h2)
      haveI tt2 : T w2 := T.below B2.out
      have V2 := Lib.hid (V1.out.below h2)
      clear h2 V1 B1
      go_wp2_with fail
      refine (HPA.out w2 inferInstance).mono ?_
      rintro e3 w3 ⟨bk, rfl, ⟨Pbk, kbk⟩, h3⟩
      have B3 := Lib.hid (below_then B2.out h3)
      haveI tt3 : T w3 := T.below B3.out
      have V3 := Lib.hid (V2.out.below h3)
      clear h3 V2 B2
      obtain ⟨bka, bkc, rfl⟩ := vs_slice kbk
      have BK3 := Lib.hid kbk
      clear kbk
      go_wp2_with fail
      refine (HSM.out _ _ w3 BK3.out V3.out).mono ?_
      rintro e4 w4 ⟨rfl, h4⟩
      have B4 := Lib.hid (below_then B3.out h4)
      haveI tt4 : T w4 := T.below B4.out
      have V4 := Lib.hid (V3.out.below h4)
      have BK4 := Lib.hid (BK3.out.below h4)
      clear h4 V3 BK3 B3
      go_wp2_with fail
      refine (HCK.out w4 inferInstance V4.out).mono ?_
      rintro e5 w5 ⟨rfl, h5⟩
      have B5 := Lib.hid (below_then B4.out h5)
      haveI tt5 : T w5 := T.below B5.out
      have V5 := Lib.hid (V4.out.below h5)
      have BK5 := Lib.hid (BK4.out.below h5)
      clear h5 V4 BK4 B4
      go_wp2_with fail
      refine (HG.out w5).mono ?_
      rintro e6 w6 ⟨rfl, h6⟩
      have B6 := Lib.hid (below_then B5.out h6)
      haveI tt6 : T w6 := T.below B6.out
      have V6 := Lib.hid (V5.out.below h6)
      clear h6 V5 B5
      go_wp2_with fail
      refine (awake_any w6).mono ?_
      rintro e7 w7 ⟨rfl, h7⟩
      have B7 := Lib.hid (below_then B6.out h7)
      haveI tt7 : T w7 := T.below B7.out
      have V7 := Lib.hid (V6.out.below h7)
      clear h7 V6 B6
      go_wp2
      go_ret
      exact ⟨rfl, B7.out⟩
    case false =>
      by_cases hk : k = 0
      case neg =>
        obtain rfl := parse_err hr hk
        have q1 : (k != 0) = true := by simpa using hk
        have HP := Lib.hid (fun W (_ : T W) => parse_at hr (great_few hg) hs W)
        clear hg hr hs hk
        go_enter Tryz.func5, Tryz.ntmps5
        go_wp2_with fail
        refine (HF.out).mono ?_
        rintro e1 w1 ⟨rfl, h1⟩
        have B1 := Lib.hid h1
        haveI tt1 : T w1 := T.below B1.out
        have V1 := Lib.hid (V0.out.below h1)
        clear h1 V0
        go_wp2_with fail
        refine (HPR.out w1 inferInstance V1.out).mono ?_
        rintro e2 w2 ⟨rfl, h2⟩
        have B2 := Lib.hid (below_then B1.out h2)
        haveI tt2 : T w2 := T.below B2.out
        have V2 := Lib.hid (V1.out.below h2)
        clear h2 V1 B1
        go_wp2_with fail
        refine (HPA.out w2 inferInstance).mono ?_
        rintro e3 w3 ⟨bk, rfl, ⟨Pbk, kbk⟩, h3⟩
        have B3 := Lib.hid (below_then B2.out h3)
        haveI tt3 : T w3 := T.below B3.out
        have V3 := Lib.hid (V2.out.below h3)
        clear h3 V2 B2
        obtain ⟨bka, bkc, rfl⟩ := vs_slice kbk
        have BK3 := Lib.hid kbk
        clear kbk
        go_wp2_with fail
        refine (HSM.out _ _ w3 BK3.out V3.out).mono ?_
        rintro e4 w4 ⟨rfl, h4⟩
        have B4 := Lib.hid (below_then B3.out h4)
        haveI tt4 : T w4 := T.below B4.out
        have V4 := Lib.hid (V3.out.below h4)
        have BK4 := Lib.hid (BK3.out.below h4)
        clear h4 V3 BK3 B3
        go_wp2_with fail
        refine (HCK.out w4 inferInstance V4.out).mono ?_
        rintro e5 w5 ⟨rfl, h5⟩
        have B5 := Lib.hid (below_then B4.out h5)
        haveI tt5 : T w5 := T.below B5.out
        have V5 := Lib.hid (V4.out.below h5)
        have BK5 := Lib.hid (BK4.out.below h5)
        clear h5 V4 BK4 B4
        go_wp2_with fail
        refine (HG.out w5).mono ?_
        rintro e6 w6 ⟨rfl, h6⟩
        have B6 := Lib.hid (below_then B5.out h6)
        haveI tt6 : T w6 := T.below B6.out
        have V6 := Lib.hid (V5.out.below h6)
        clear h6 V5 B5
        go_wp2_with fail
        refine (HP.out w6 inferInstance).mono ?_
        rintro e7 w7 ⟨m, rfl, ⟨Pm, km⟩, h7⟩
        have B7 := Lib.hid (below_then B6.out h7)
        haveI tt7 : T w7 := T.below B7.out
        have V7 := Lib.hid (V6.out.below h7)
        clear h7 V6 B6
        obtain ⟨ma, mc, rfl⟩ := vs_slice km
        have M7 := Lib.hid km
        clear km
        go_wp2_with fail
        refine (awake_any w7).mono ?_
        rintro e8 w8 ⟨rfl, h8⟩
        have B8 := Lib.hid (below_then B7.out h8)
        haveI tt8 : T w8 := T.below B8.out
        have V8 := Lib.hid (V7.out.below h8)
        have M8 := Lib.hid (M7.out.below h8)
        clear h8 V7 M7 B7
        go_wp2
        go_ret
        exact ⟨rfl, B8.out⟩
      case pos =>
        subst hk
        have n1 := (print_parse hr).1
        have n2 := (print_parse hr).2.1
        have nt := (ck_zero n1).1
        have HP := Lib.hid (fun W (_ : T W) => parse_at hr (great_few hg) hs W)
        have HP2 := Lib.hid (fun u Q W (_ : T W) (h : VsAt W Q u N) => printT_any N u Q W h (by omega) s 0 (by unfold printT; rw [if_pos n1, n2]))
        have HC2 := Lib.hid (fun u Q W (_ : T W) (h : VsAt W Q u N) => checkT_any N u Q W h (by omega) 0 n1)
        clear hg hr hs n1 n2 nt
        go_enter Tryz.func5, Tryz.ntmps5
        go_wp2_with fail
        refine (HF.out).mono ?_
        rintro e1 w1 ⟨rfl, h1⟩
        have B1 := Lib.hid h1
        haveI tt1 : T w1 := T.below B1.out
        have V1 := Lib.hid (V0.out.below h1)
        clear h1 V0
        go_wp2_with fail
        refine (HPR.out w1 inferInstance V1.out).mono ?_
        rintro e2 w2 ⟨rfl, h2⟩
        have B2 := Lib.hid (below_then B1.out h2)
        haveI tt2 : T w2 := T.below B2.out
        have V2 := Lib.hid (V1.out.below h2)
        clear h2 V1 B1
        go_wp2_with fail
        refine (HPA.out w2 inferInstance).mono ?_
        rintro e3 w3 ⟨bk, rfl, ⟨Pbk, kbk⟩, h3⟩
        have B3 := Lib.hid (below_then B2.out h3)
        haveI tt3 : T w3 := T.below B3.out
        have V3 := Lib.hid (V2.out.below h3)
        clear h3 V2 B2
        obtain ⟨bka, bkc, rfl⟩ := vs_slice kbk
        have BK3 := Lib.hid kbk
        clear kbk
        go_wp2_with fail
        refine (HSM.out _ _ w3 BK3.out V3.out).mono ?_
        rintro e4 w4 ⟨rfl, h4⟩
        have B4 := Lib.hid (below_then B3.out h4)
        haveI tt4 : T w4 := T.below B4.out
        have V4 := Lib.hid (V3.out.below h4)
        have BK4 := Lib.hid (BK3.out.below h4)
        clear h4 V3 BK3 B3
        go_wp2_with fail
        refine (HCK.out w4 inferInstance V4.out).mono ?_
        rintro e5 w5 ⟨rfl, h5⟩
        have B5 := Lib.hid (below_then B4.out h5)
        haveI tt5 : T w5 := T.below B5.out
        have V5 := Lib.hid (V4.out.below h5)
        have BK5 := Lib.hid (BK4.out.below h5)
        clear h5 V4 BK4 B4
        go_wp2_with fail
        refine (HG.out w5).mono ?_
        rintro e6 w6 ⟨rfl, h6⟩
        have B6 := Lib.hid (below_then B5.out h6)
        haveI tt6 : T w6 := T.below B6.out
        have V6 := Lib.hid (V5.out.below h6)
        clear h6 V5 B5
        go_wp2_with fail
        refine (HP.out w6 inferInstance).mono ?_
        rintro e7 w7 ⟨m, rfl, ⟨Pm, km⟩, h7⟩
        have B7 := Lib.hid (below_then B6.out h7)
        haveI tt7 : T w7 := T.below B7.out
        have V7 := Lib.hid (V6.out.below h7)
        clear h7 V6 B6
        obtain ⟨ma, mc, rfl⟩ := vs_slice km
        have M7 := Lib.hid km
        clear km
        go_wp2_with fail
        refine (HP2.out _ _ w7 inferInstance M7.out).mono ?_
        rintro e8 w8 ⟨rfl, h8⟩
        have B8 := Lib.hid (below_then B7.out h8)
        haveI tt8 : T w8 := T.below B8.out
        have V8 := Lib.hid (V7.out.below h8)
        have M8 := Lib.hid (M7.out.below h8)
        clear h8 V7 M7 B7
        go_wp2_with fail
        refine (HC2.out _ _ w8 inferInstance M8.out).mono ?_
        rintro e9 w9 ⟨rfl, h9⟩
        have B9 := Lib.hid (below_then B8.out h9)
        haveI tt9 : T w9 := T.below B9.out
        have V9 := Lib.hid (V8.out.below h9)
        have M9 := Lib.hid (M8.out.below h9)
        clear h9 V8 M8 B8
        go_wp2_with fail
        refine (awake_any w9).mono ?_
        rintro e10 w10 ⟨rfl, h10⟩
        have B10 := Lib.hid (below_then B9.out h10)
        haveI tt10 : T w10 := T.below B10.out
        have V10 := Lib.hid (V9.out.below h10)
        have M10 := Lib.hid (M9.out.below h10)
        clear h10 V9 M9 B9
        go_wp2
        go_ret
        exact ⟨rfl, B10.out⟩
  ·
    clear hb
    cases g
    case true =>
      clear hg hr hs
      go_enter Tryz.func5, Tryz.ntmps5
      go_wp2_with fail
      refine (HF.out).mono ?_
      rintro e1 w1 ⟨rfl, h1⟩
      have B1 := Lib.hid h1
      haveI tt1 : T w1 := T.below B1.out
      have V1 := Lib.hid (V0.out.below h1)
      clear h1 V0
      go_wp2_with fail
      refine (HG.out w1).mono ?_
      rintro e2 w2 ⟨rfl, h2⟩
      have B2 := Lib.hid (below_then B1.out h2)
      haveI tt2 : T w2 := T.below B2.out
      have V2 := Lib.hid (V1.out.below h2)
      clear h2 V1 B1
      go_wp2_with fail
      refine (awake_any w2).mono ?_
      rintro e3 w3 ⟨rfl, h3⟩
      have B3 := Lib.hid (below_then B2.out h3)
      haveI tt3 : T w3 := T.below B3.out
      have V3 := Lib.hid (V2.out.below h3)
      clear h3 V2 B2
      go_wp2
      go_ret
      exact ⟨rfl, B3.out⟩
    case false =>
      by_cases hk : k = 0
      case neg =>
        obtain rfl := parse_err hr hk
        have q1 : (k != 0) = true := by simpa using hk
        have HP := Lib.hid (fun W (_ : T W) => parse_at hr (great_few hg) hs W)
        clear hg hr hs hk
        go_enter Tryz.func5, Tryz.ntmps5
        go_wp2_with fail
        refine (HF.out).mono ?_
        rintro e1 w1 ⟨rfl, h1⟩
        have B1 := Lib.hid h1
        haveI tt1 : T w1 := T.below B1.out
        have V1 := Lib.hid (V0.out.below h1)
        clear h1 V0
        go_wp2_with fail
        refine (HG.out w1).mono ?_
        rintro e2 w2 ⟨rfl, h2⟩
        have B2 := Lib.hid (below_then B1.out h2)
        haveI tt2 : T w2 := T.below B2.out
        have V2 := Lib.hid (V1.out.below h2)
        clear h2 V1 B1
        go_wp2_with fail
        refine (HP.out w2 inferInstance).mono ?_
        rintro e3 w3 ⟨m, rfl, ⟨Pm, km⟩, h3⟩
        have B3 := Lib.hid (below_then B2.out h3)
        haveI tt3 : T w3 := T.below B3.out
        have V3 := Lib.hid (V2.out.below h3)
        clear h3 V2 B2
        obtain ⟨ma, mc, rfl⟩ := vs_slice km
        have M3 := Lib.hid km
        clear km
        go_wp2_with fail
        refine (awake_any w3).mono ?_
        rintro e4 w4 ⟨rfl, h4⟩
        have B4 := Lib.hid (below_then B3.out h4)
        haveI tt4 : T w4 := T.below B4.out
        have V4 := Lib.hid (V3.out.below h4)
        have M4 := Lib.hid (M3.out.below h4)
        clear h4 V3 M3 B3
        go_wp2
        go_ret
        exact ⟨rfl, B4.out⟩
      case pos =>
        subst hk
        have n1 := (print_parse hr).1
        have n2 := (print_parse hr).2.1
        have nt := (ck_zero n1).1
        have HP := Lib.hid (fun W (_ : T W) => parse_at hr (great_few hg) hs W)
        have HP2 := Lib.hid (fun u Q W (_ : T W) (h : VsAt W Q u N) => printT_any N u Q W h (by omega) s 0 (by unfold printT; rw [if_pos n1, n2]))
        have HC2 := Lib.hid (fun u Q W (_ : T W) (h : VsAt W Q u N) => checkT_any N u Q W h (by omega) 0 n1)
        clear hg hr hs n1 n2 nt
        go_enter Tryz.func5, Tryz.ntmps5
        go_wp2_with fail
        refine (HF.out).mono ?_
        rintro e1 w1 ⟨rfl, h1⟩
        have B1 := Lib.hid h1
        haveI tt1 : T w1 := T.below B1.out
        have V1 := Lib.hid (V0.out.below h1)
        clear h1 V0
        go_wp2_with fail
        refine (HG.out w1).mono ?_
        rintro e2 w2 ⟨rfl, h2⟩
        have B2 := Lib.hid (below_then B1.out h2)
        haveI tt2 : T w2 := T.below B2.out
        have V2 := Lib.hid (V1.out.below h2)
        clear h2 V1 B1
        go_wp2_with fail
        refine (HP.out w2 inferInstance).mono ?_
        rintro e3 w3 ⟨m, rfl, ⟨Pm, km⟩, h3⟩
        have B3 := Lib.hid (below_then B2.out h3)
        haveI tt3 : T w3 := T.below B3.out
        have V3 := Lib.hid (V2.out.below h3)
        clear h3 V2 B2
        obtain ⟨ma, mc, rfl⟩ := vs_slice km
        have M3 := Lib.hid km
        clear km
        go_wp2_with fail
        refine (HP2.out _ _ w3 inferInstance M3.out).mono ?_
        rintro e4 w4 ⟨rfl, h4⟩
        have B4 := Lib.hid (below_then B3.out h4)
        haveI tt4 : T w4 := T.below B4.out
        have V4 := Lib.hid (V3.out.below h4)
        have M4 := Lib.hid (M3.out.below h4)
        clear h4 V3 M3 B3
        go_wp2_with fail
        refine (HC2.out _ _ w4 inferInstance M4.out).mono ?_
        rintro e5 w5 ⟨rfl, h5⟩
        have B5 := Lib.hid (below_then B4.out h5)
        haveI tt5 : T w5 := T.below B5.out
        have V5 := Lib.hid (V4.out.below h5)
        have M5 := Lib.hid (M4.out.below h5)
        clear h5 V4 M4 B4
        go_wp2_with fail
        refine (awake_any w5).mono ?_
        rintro e6 w6 ⟨rfl, h6⟩
        have B6 := Lib.hid (below_then B5.out h6)
        haveI tt6 : T w6 := T.below B6.out
        have V6 := Lib.hid (V5.out.below h6)
        have M6 := Lib.hid (M5.out.below h6)
        clear h6 V5 M5 B5
        go_wp2
        go_ret
        exact ⟨rfl, B6.out⟩
theorem back_w (w : World) [T w] (v : Value) (l : List Nd) (s : ByteArray) (hv : NdIn w v l) (hl : l.length ≤ maxLen) (hs : s.size ≤ maxLen) :
    Calls Tryz.prog 5 #[v, .string s] w fun e w' => e = .returned (.bool true) ∧ Below w.heap.size w w' := by
  have := back_law l v _ s.data.toList w hv hl hs
  unfold sV at this
  rwa [baL_list] at this
end Go.Proofs.YtmfcepfagbkceaaGreatDoor
