/- Stage 10 (transcript): TrNodes, put together by merge10.py. -/
import Derived.Test.YtmfcepfagbkceaaGreatDoorOx
import Derived.Test.YtmfcepfagbkceaaGreatDoorOy7
import Derived.Test.YtmfcepfagbkceaaGreatDoorOx1
namespace Go.Proofs.YtmfcepfagbkceaaGreatDoor
set_option linter.unusedSimpArgs false
set_option linter.unusedVariables false
set_option maxRecDepth 100000
open Go.RowKit Go.Deep
def SomePost (L : List Nd) (w : World) (e : Ending) (w' : World) : Prop := ∃ u, e = .returned u ∧ (∃ P, VsAt w' P u L) ∧ Below w.heap.size w w'
theorem some_post {L : List Nd} {w : World} {e : Ending} {w' : World} (h : MergePost L w e w') : SomePost (mrgL [] L) w e w' := by
  obtain ⟨u, he, hv, hb⟩ := h
  exact ⟨u, he, ⟨_, hv⟩, hb⟩
set_option maxHeartbeats 8000000 in
theorem nodes_law (la lb : List Nd) (kd : Int) (va vb : Value) (P Q : Nat → Prop) (w : World) [T w] (hva : VsAt w P va la) (hvb : VsAt w Q vb lb) (hla : la.length ≤ maxLen) (hlb : lb.length ≤ maxLen) :
    Calls Tryz.prog 4 #[va, vb, intV kd] w fun e w' => e = .returned (.bool true) ∧ Below w.heap.size w w' := by
  obtain ⟨a, c, rfl⟩ := vs_slice hva
  obtain ⟨a2, c2, rfl⟩ := vs_slice hvb
  obtain ⟨g, hg⟩ : ∃ g, greatR la = g := ⟨_, rfl⟩
  obtain ⟨g2, hg2⟩ : ∃ g, greatR lb = g := ⟨_, rfl⟩
  have HG := Lib.hid (great10_any la g hg (Nat.le_trans hla (by unfold maxLen; decide)) _ P w hva)
  have HG2 := Lib.hid (fun W (h : VsAt W Q (.slice a2 lb.length c2) lb) => great10_any lb g2 hg2 (Nat.le_trans hlb (by unfold maxLen; decide)) _ Q W h)
  have V0 := Lib.hid hva
  have U0 := Lib.hid hvb
  clear hla hlb hva hvb
  cases g with
  | true =>
    clear hg hg2
    go_enter Tryz.func4, Tryz.ntmps4
    go_wp2_with fail
    refine (HG.out).mono ?_
    rintro e1 w1 ⟨rfl, h1⟩
    have B1 := Lib.hid h1
    haveI tt1 : T w1 := T.below B1.out
    clear h1
    go_wp2_with fail
    refine (awake_any w1).mono ?_
    rintro e2 w2 ⟨rfl, h2⟩
    have B2 := Lib.hid (below_then B1.out h2)
    haveI tt2 : T w2 := T.below B2.out
    clear h2 B1
    go_wp2
    go_ret
    exact ⟨rfl, B2.out⟩
  | false =>
    cases g2 with
    | true =>
      clear hg hg2
      go_enter Tryz.func4, Tryz.ntmps4
      go_wp2_with fail
      refine (HG.out).mono ?_
      rintro e1 w1 ⟨rfl, h1⟩
      have B1 := Lib.hid h1
      haveI tt1 : T w1 := T.below B1.out
      have U1 := Lib.hid (U0.out.below h1)
      clear h1 U0
      go_wp2_with fail
      refine (HG2.out w1 U1.out).mono ?_
      rintro e2 w2 ⟨rfl, h2⟩
      have B2 := Lib.hid (below_then B1.out h2)
      haveI tt2 : T w2 := T.below B2.out
      have U2 := Lib.hid (U1.out.below h2)
      clear h2 U1 B1
      go_wp2_with fail
      refine (awake_any w2).mono ?_
      rintro e3 w3 ⟨rfl, h3⟩
      have B3 := Lib.hid (below_then B2.out h3)
      haveI tt3 : T w3 := T.below B3.out
      have U3 := Lib.hid (U2.out.below h3)
      clear h3 U2 B2
      go_wp2
      go_ret
      exact ⟨rfl, B3.out⟩
    | false =>
      obtain ⟨ht, hj, hc⟩ := great_jn hg
      obtain ⟨pr, hpr⟩ : ∃ r, printT la = r := ⟨_, rfl⟩
      obtain ⟨pd, pe⟩ := pr
      obtain ⟨cr, hcr⟩ : ∃ r, charR la = r := ⟨_, rfl⟩
      obtain ⟨cd, ce⟩ := cr
      obtain ⟨nr, hnr⟩ : ∃ r, countR la kd = r := ⟨_, rfl⟩
      obtain ⟨nd, ne⟩ := nr
      obtain ⟨dr, hdr⟩ : ∃ r, depthR la = r := ⟨_, rfl⟩
      obtain ⟨dd, de⟩ := dr
      obtain ⟨kr, hkr⟩ : ∃ r, ckR la = r := ⟨_, rfl⟩
      obtain ⟨br, hbr⟩ : ∃ r : Bool, (r = true ↔ la = lb) := by
        by_cases h : la = lb
        · exact ⟨true, by simp [h]⟩
        · exact ⟨false, by simp [h]⟩
      have HP1 := Lib.hid (fun W (_ : T W) (h : VsAt W P (.slice a la.length c) la) => printT_any la _ P W h (by omega) pd pe hpr)
      have HP2 := Lib.hid (fun W (h : VsAt W P (.slice a la.length c) la) => print10_any la pd pe hpr _ P W h)
      have HC1 := Lib.hid (fun W (_ : T W) (h : VsAt W P (.slice a la.length c) la) => charsT_any la _ P W h (by omega) cd ce hcr)
      have HC2 := Lib.hid (fun W (h : VsAt W P (.slice a la.length c) la) => characters10_any la cd ce hcr _ P W h)
      have HN1 := Lib.hid (fun W (_ : T W) (h : VsAt W P (.slice a la.length c) la) => countT_any la kd _ P W h (by omega) nd ne hnr)
      have HN2 := Lib.hid (fun W (h : VsAt W P (.slice a la.length c) la) => count10_any la kd nd ne hnr _ P W h)
      have HD1 := Lib.hid (fun W (_ : T W) (h : VsAt W P (.slice a la.length c) la) => depthT_any la _ P W h (by omega) dd de hdr)
      have HD2 := Lib.hid (fun W (h : VsAt W P (.slice a la.length c) la) => depth10_any la dd de hdr _ P W h)
      have HK1 := Lib.hid (fun W (_ : T W) (h : VsAt W P (.slice a la.length c) la) => checkT_any la _ P W h (by omega) kr hkr)
      have HK2 := Lib.hid (fun W (h : VsAt W P (.slice a la.length c) la) => check10_any la kr hkr _ P W h)
      have HM1 := Lib.hid (fun W (h : VsAt W P (.slice a la.length c) la) => (mergeT_any _ la (Nat.le_refl _) (by omega) hj _ P W h).mono fun _ _ => some_post)
      have HM2 := Lib.hid (fun W (h : VsAt W P (.slice a la.length c) la) => (merge10_any _ la (Nat.le_refl _) (by omega) hc _ P W h).mono fun _ _ => some_post)
      have hmt := mrg_tots.2 la []
      rw [tots, Nat.zero_add] at hmt
      have HS := Lib.hid (fun u v P Q (W : World) (h1 : VsAt W P u (mrgL [] la)) (h2 : VsAt W Q v (mrgL [] la)) => same_any _ (mrgL [] la) (Nat.le_refl _) (by omega) (mrgL [] la) true (by simp) u v P Q W h1 h2)
      have HS1 := Lib.hid (fun W (h : VsAt W P (.slice a la.length c) la) (h2 : VsAt W Q (.slice a2 lb.length c2) lb) => sameT_any _ la (Nat.lt_succ_self _) (by omega) lb br hbr _ _ P Q W h h2)
      have HS2 := Lib.hid (fun W (h : VsAt W P (.slice a la.length c) la) (h2 : VsAt W Q (.slice a2 lb.length c2) lb) => same_any _ la (Nat.le_refl _) (by omega) lb br hbr _ _ P Q W h h2)
      clear hg hg2 ht hj hc hpr hcr hnr hdr hkr hbr hmt
      go_enter Tryz.func4, Tryz.ntmps4
      go_wp2_with fail
      refine (HG.out).mono ?_
      rintro e1 w1 ⟨rfl, h1⟩
      have B1 := Lib.hid h1
      haveI tt1 : T w1 := T.below B1.out
      have V1 := Lib.hid (V0.out.below h1)
      have U1 := Lib.hid (U0.out.below h1)
      clear h1 V0 U0
      go_wp2_with fail
      refine (HG2.out w1 U1.out).mono ?_
      rintro e2 w2 ⟨rfl, h2⟩
      have B2 := Lib.hid (below_then B1.out h2)
      haveI tt2 : T w2 := T.below B2.out
      have V2 := Lib.hid (V1.out.below h2)
      have U2 := Lib.hid (U1.out.below h2)
      clear h2 V1 U1 B1
      go_wp2_with fail
      refine (HP1.out w2 inferInstance V2.out).mono ?_
      rintro e3 w3 ⟨rfl, h3⟩
      have B3 := Lib.hid (below_then B2.out h3)
      haveI tt3 : T w3 := T.below B3.out
      have V3 := Lib.hid (V2.out.below h3)
      have U3 := Lib.hid (U2.out.below h3)
      clear h3 V2 U2 B2
      go_wp2_with fail
      refine (HP2.out w3 V3.out).mono ?_
      rintro e4 w4 ⟨rfl, h4⟩
      have B4 := Lib.hid (below_then B3.out h4)
      haveI tt4 : T w4 := T.below B4.out
      have V4 := Lib.hid (V3.out.below h4)
      have U4 := Lib.hid (U3.out.below h4)
      clear h4 V3 U3 B3
      go_wp2_with fail
      refine (HC1.out w4 inferInstance V4.out).mono ?_
      rintro e5 w5 ⟨rfl, h5⟩
      have B5 := Lib.hid (below_then B4.out h5)
      haveI tt5 : T w5 := T.below B5.out
      have V5 := Lib.hid (V4.out.below h5)
      have U5 := Lib.hid (U4.out.below h5)
      clear h5 V4 U4 B4
      go_wp2_with fail
      refine (HC2.out w5 V5.out).mono ?_
      rintro e6 w6 ⟨rfl, h6⟩
      have B6 := Lib.hid (below_then B5.out h6)
      haveI tt6 : T w6 := T.below B6.out
      have V6 := Lib.hid (V5.out.below h6)
      have U6 := Lib.hid (U5.out.below h6)
      clear h6 V5 U5 B5
      go_wp2_with fail
      refine (HN1.out w6 inferInstance V6.out).mono ?_
      rintro e7 w7 ⟨rfl, h7⟩
      have B7 := Lib.hid (below_then B6.out h7)
      haveI tt7 : T w7 := T.below B7.out
      have V7 := Lib.hid (V6.out.below h7)
      have U7 := Lib.hid (U6.out.below h7)
      clear h7 V6 U6 B6
      go_wp2_with fail
      refine (HN2.out w7 V7.out).mono ?_
      rintro e8 w8 ⟨rfl, h8⟩
      have B8 := Lib.hid (below_then B7.out h8)
      haveI tt8 : T w8 := T.below B8.out
      have V8 := Lib.hid (V7.out.below h8)
      have U8 := Lib.hid (U7.out.below h8)
      clear h8 V7 U7 B7
      go_wp2_with fail
      refine (HD1.out w8 inferInstance V8.out).mono ?_
      rintro e9 w9 ⟨rfl, h9⟩
      have B9 := Lib.hid (below_then B8.out h9)
      haveI tt9 : T w9 := T.below B9.out
      have V9 := Lib.hid (V8.out.below h9)
      have U9 := Lib.hid (U8.out.below h9)
      clear h9 V8 U8 B8
      go_wp2_with fail
      refine (HD2.out w9 V9.out).mono ?_
      rintro e10 w10 ⟨rfl, h10⟩
      have B10 := Lib.hid (below_then B9.out h10)
      haveI tt10 : T w10 := T.below B10.out
      have V10 := Lib.hid (V9.out.below h10)
      have U10 := Lib.hid (U9.out.below h10)
      clear h10 V9 U9 B9
      go_wp2_with fail
      refine (HK1.out w10 inferInstance V10.out).mono ?_
      rintro e11 w11 ⟨rfl, h11⟩
      have B11 := Lib.hid (below_then B10.out h11)
      haveI tt11 : T w11 := T.below B11.out
      have V11 := Lib.hid (V10.out.below h11)
      have U11 := Lib.hid (U10.out.below h11)
      clear h11 V10 U10 B10
      go_wp2_with fail
      refine (HK2.out w11 V11.out).mono ?_
      rintro e12 w12 ⟨rfl, h12⟩
      have B12 := Lib.hid (below_then B11.out h12)
      haveI tt12 : T w12 := T.below B12.out
      have V12 := Lib.hid (V11.out.below h12)
      have U12 := Lib.hid (U11.out.below h12)
      clear h12 V11 U11 B11
      go_wp2_with fail
      refine (HM1.out w12 V12.out).mono ?_
      rintro e13 w13 ⟨u, rfl, ⟨Pu, ku⟩, h13⟩
      have B13 := Lib.hid (below_then B12.out h13)
      haveI tt13 : T w13 := T.below B13.out
      have V13 := Lib.hid (V12.out.below h13)
      have U13 := Lib.hid (U12.out.below h13)
      clear h13 V12 U12 B12
      obtain ⟨ua, uc, rfl⟩ := vs_slice ku
      have M13 := Lib.hid ku
      clear ku
      go_wp2_with fail
      refine (HM2.out w13 V13.out).mono ?_
      rintro e14 w14 ⟨v, rfl, ⟨Pv, kv⟩, h14⟩
      have B14 := Lib.hid (below_then B13.out h14)
      haveI tt14 : T w14 := T.below B14.out
      have V14 := Lib.hid (V13.out.below h14)
      have U14 := Lib.hid (U13.out.below h14)
      have M14 := Lib.hid (M13.out.below h14)
      clear h14 V13 U13 M13 B13
      obtain ⟨va, vc, rfl⟩ := vs_slice kv
      have N14 := Lib.hid kv
      clear kv
      go_wp2_with fail
      refine (HS.out _ _ _ _ w14 M14.out N14.out).mono ?_
      rintro e15 w15 ⟨rfl, h15⟩
      have B15 := Lib.hid (below_then B14.out h15)
      haveI tt15 : T w15 := T.below B15.out
      have V15 := Lib.hid (V14.out.below h15)
      have U15 := Lib.hid (U14.out.below h15)
      have M15 := Lib.hid (M14.out.below h15)
      have N15 := Lib.hid (N14.out.below h15)
      clear h15 V14 U14 M14 N14 B14
      go_wp2_with fail
      refine (HS1.out w15 V15.out U15.out).mono ?_
      rintro e16 w16 ⟨rfl, h16⟩
      have B16 := Lib.hid (below_then B15.out h16)
      haveI tt16 : T w16 := T.below B16.out
      have V16 := Lib.hid (V15.out.below h16)
      have U16 := Lib.hid (U15.out.below h16)
      have M16 := Lib.hid (M15.out.below h16)
      have N16 := Lib.hid (N15.out.below h16)
      clear h16 V15 U15 M15 N15 B15
      go_wp2_with fail
      refine (HS2.out w16 V16.out U16.out).mono ?_
      rintro e17 w17 ⟨rfl, h17⟩
      have B17 := Lib.hid (below_then B16.out h17)
      haveI tt17 : T w17 := T.below B17.out
      have V17 := Lib.hid (V16.out.below h17)
      have U17 := Lib.hid (U16.out.below h17)
      have M17 := Lib.hid (M16.out.below h17)
      have N17 := Lib.hid (N16.out.below h17)
      clear h17 V16 U16 M16 N16 B16
      go_wp2_with fail
      refine (awake_any w17).mono ?_
      rintro e18 w18 ⟨rfl, h18⟩
      have B18 := Lib.hid (below_then B17.out h18)
      haveI tt18 : T w18 := T.below B18.out
      have V18 := Lib.hid (V17.out.below h18)
      have U18 := Lib.hid (U17.out.below h18)
      have M18 := Lib.hid (M17.out.below h18)
      have N18 := Lib.hid (N17.out.below h18)
      clear h18 V17 U17 M17 N17 B17
      go_wp2
      go_ret
      exact ⟨rfl, B18.out⟩
theorem nodes_w (w : World) [T w] (va : Value) (la : List Nd) (vb : Value) (lb : List Nd) (kd : Int) (hva : NdIn w va la) (hla : la.length ≤ maxLen) (hvb : NdIn w vb lb) (hlb : lb.length ≤ maxLen) (hk : (Lit.int .i64 kd).wf = true) :
    Calls Tryz.prog 4 #[va, vb, .int .i64 kd] w fun e w' => e = .returned (.bool true) ∧ Below w.heap.size w w' :=
  nodes_law la lb kd va vb _ _ w hva hvb hla hlb
end Go.Proofs.YtmfcepfagbkceaaGreatDoor
