/- Stage 10 (transcript): TrReads, put together by merge10.py. -/
import Derived.Test.YtmfcepfagbkceaaGreatDoorRx
import Derived.Test.YtmfcepfagbkceaaGreatDoorRre2
namespace Go.Proofs.YtmfcepfagbkceaaGreatDoor
set_option linter.unusedSimpArgs false
set_option linter.unusedVariables false
set_option maxRecDepth 100000
open Go.RowKit Go.Deep
set_option maxHeartbeats 4000000 in
theorem reads_law (s : Bs) (w : World) [T w] (hs : s.length ≤ maxLen) :
    Calls Tryz.prog 3 #[sV s] w fun e w' => e = .returned (.bool true) ∧ Below w.heap.size w w' := by
  obtain ⟨g, hg⟩ : ∃ g, greatB s.length = g := ⟨_, rfl⟩
  have HG := Lib.hid (fun W => great_any s hs g hg W)
  cases g with
  | true =>
    clear hs hg
    go_enter Tryz.func3, Tryz.ntmps3
    go_wp2_with fail
    refine (HG.out w).mono ?_
    rintro e' w0 ⟨rfl, rfl⟩
    go_wp2_with fail
    refine (awake_any w0).mono ?_
    rintro e1 w1 ⟨rfl, h1⟩
    have B1 := Lib.hid h1
    haveI tt1 : T w1 := T.below B1.out
    clear h1
    go_wp2
    go_ret
    exact ⟨rfl, B1.out⟩
  | false =>
    obtain ⟨r, hr⟩ : ∃ r, parseR s = r := ⟨_, rfl⟩
    obtain ⟨l, e⟩ := r
    have ht := parse_tots hr
    have HP := Lib.hid (fun (W : World) (_ : T W) => parse_at hr (great_few hg) hs W)
    have HR := Lib.hid (fun (W : World) (_ : T W) => refParse_at hr (great_few hg) hs W)
    have HS := Lib.hid (fun u v P Q (W : World) (h1 : VsAt W P u l) (h2 : VsAt W Q v l) => same_any (tots l) l (Nat.le_refl _) (by omega) l true (by simp) u v P Q W h1 h2)
    clear hs hg hr ht
    go_enter Tryz.func3, Tryz.ntmps3
    go_wp2_with fail
    refine (HG.out w).mono ?_
    rintro e' w0 ⟨rfl, rfl⟩
    go_wp2_with fail
    refine (HP.out w0 inferInstance).mono ?_
    rintro e1 w1 ⟨u, rfl, ⟨Pu, ku⟩, h1⟩
    have B1 := Lib.hid h1
    haveI tt1 : T w1 := T.below B1.out
    clear h1
    obtain ⟨ua, uc, rfl⟩ := vs_slice ku
    have U1 := Lib.hid ku
    clear ku
    go_wp2_with fail
    refine (HR.out w1 inferInstance).mono ?_
    rintro e2 w2 ⟨v, rfl, ⟨Pv, kv⟩, h2⟩
    have B2 := Lib.hid (below_then B1.out h2)
    haveI tt2 : T w2 := T.below B2.out
    have U2 := Lib.hid (U1.out.below h2)
    clear h2 U1 B1
    obtain ⟨va, vc, rfl⟩ := vs_slice kv
    have V2 := Lib.hid kv
    clear kv
    go_wp2_with fail
    refine (HS.out _ _ _ _ w2 U2.out V2.out).mono ?_
    rintro e3 w3 ⟨rfl, h3⟩
    have B3 := Lib.hid (below_then B2.out h3)
    haveI tt3 : T w3 := T.below B3.out
    have U3 := Lib.hid (U2.out.below h3)
    have V3 := Lib.hid (V2.out.below h3)
    clear h3 U2 V2 B2
    go_wp2_with fail
    refine (awake_any w3).mono ?_
    rintro e4 w4 ⟨rfl, h4⟩
    have B4 := Lib.hid (below_then B3.out h4)
    haveI tt4 : T w4 := T.below B4.out
    have U4 := Lib.hid (U3.out.below h4)
    have V4 := Lib.hid (V3.out.below h4)
    clear h4 U3 V3 B3
    go_wp2
    go_ret
    exact ⟨rfl, B4.out⟩
theorem reads_w (w : World) [T w] (s : ByteArray) (hs : s.size ≤ maxLen) :
    Calls Tryz.prog 3 #[.string s] w fun e w' => e = .returned (.bool true) ∧ Below w.heap.size w w' := by
  have := reads_law s.data.toList w hs
  unfold sV at this
  rwa [baL_list] at this
end Go.Proofs.YtmfcepfagbkceaaGreatDoor
