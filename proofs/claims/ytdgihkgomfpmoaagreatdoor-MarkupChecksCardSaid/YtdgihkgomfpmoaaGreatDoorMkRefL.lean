/- MarkupScans and MarkupChecks: the laws' walks, the reference's contracts given (written by gen_mkrefl.py). -/
import Derived.Test.YtdgihkgomfpmoaaGreatDoorMkRefS
import Derived.Test.YtdgihkgomfpmoaaGreatDoorMkLossless
namespace Go.Proofs.YtdgihkgomfpmoaaGreatDoor
set_option linter.unusedSimpArgs false
set_option linter.unusedVariables false
set_option maxRecDepth 100000
open Go.RowKit Go.Deep

/-- the reference's Nested -/
def RefNst : Prop := ∀ (L : List Lx) (e : Int) (v : Value) (w : World), nestR L = e → LexAt w v L → LxB L →
  Calls Tryz.prog 23 #[v] w fun en w' => en = .returned (intV e) ∧ Below w.heap.size w w'
/-- the reference's Find -/
def RefFnd : Prop := ∀ (L : List Lx) (i k e : Int) (v : Value) (w : World), findR L i = (k, e) → LexAt w v L → LxB L → I64 i →
  Calls Tryz.prog 19 #[v, intV i] w fun en w' => en = .returned (.tuple #[intV k, intV e]) ∧ Below w.heap.size w w'
set_option maxHeartbeats 4000000 in
theorem scans_law (H : MkOk) (HS : RefScn) (s : Bs) (w : World) [T w] (hs : s.length ≤ maxLen) :
    Calls Tryz.prog 3 #[sV s] w fun e w' => e = .returned (.bool true) ∧ Below w.heap.size w w' := by
  have HA := Lib.hid (fun (W : World) [T W] => awake_any H W)
  obtain ⟨g, hg⟩ : ∃ g, greatB s.length = g := ⟨_, rfl⟩
  have HG := Lib.hid (fun W => great_any s hs g hg W)
  cases g with
  | true =>
    clear hs hg
    go_enter Tryz.func3, Tryz.ntmps3
    go_wp2_with fail
    refine (HG.out w).mono ?_
    rintro e' w0 ⟨rfl, rfl⟩
    go_wp2_with fail
    refine (HA.out w0).mono ?_
    rintro e' w1 ⟨rfl, h1⟩
    have B1 := Lib.hid h1
    try have tB1 := T.below B1.out
    clear h1
    go_wp2
    go_ret
    exact ⟨rfl, B1.out⟩
  | false =>
    obtain ⟨r, hr⟩ : ∃ r, scanR s = r := ⟨_, rfl⟩
    obtain ⟨A, e⟩ := r
    obtain ⟨q, hq⟩ : ∃ q, stripR s = q := ⟨_, rfl⟩
    obtain ⟨t, f⟩ := q
    have hl := (scan_len hr).1
    have HP := Lib.hid (fun (W : World) [T W] => scan_at H s A e hr hs W)
    have HR := Lib.hid (fun W => HS s A e W hr hs)
    have HPS := Lib.hid (fun (W : World) [T W] => strip_at H s t f hq hs W)
    have HRS := Lib.hid (fun W => refStrip_any HS s t f hq hs W)
    have HSM := Lib.hid (fun u v W (h1 : LexAt W u A) (h2 : LexAt W v A) => same_at A A true (decide_eq_true rfl) u v W h1 h2 (by omega) (by omega))
    have HPT := Lib.hid (fun W => H.tags W)
    have HRT := Lib.hid (fun W => refTags_any W)
    have HEQ := Lib.hid (fun u v W (h1 : WordsAt W u tagsL) (h2 : WordsAt W v tagsL) => equalW_any tagsL tagsL u v W h1 h2 (by decide) (by decide))
    clear hs hg hr hq hl
    go_enter Tryz.func3, Tryz.ntmps3
    go_wp2_with fail
    refine (HG.out w).mono ?_
    rintro e' w0 ⟨rfl, rfl⟩
    go_wp2_with fail
    refine (HP.out w0).mono ?_
    rintro e' w1 ⟨u, rfl, hu, h1⟩
    have B1 := Lib.hid h1
    try have tB1 := T.below B1.out
    have U1 := Lib.hid hu
    try have tU1 := T.below U1.out
    obtain ⟨ua, uc, rfl⟩ := hu.slice
    clear hu
    clear h1
    go_wp2_with fail
    refine (HR.out w1).mono ?_
    rintro e' w2 ⟨v, rfl, hu, h2⟩
    have B2 := Lib.hid (below_then B1.out h2)
    try have tB2 := T.below B2.out
    have V2 := Lib.hid hu
    try have tV2 := T.below V2.out
    have U2 := Lib.hid (U1.out.below h2)
    obtain ⟨va, vc, rfl⟩ := hu.slice
    clear hu
    clear h2
    go_wp2_with fail
    refine (HPS.out w2).mono ?_
    rintro e' w3 ⟨rfl, h3⟩
    have B3 := Lib.hid (below_then B2.out h3)
    try have tB3 := T.below B3.out
    have V3 := Lib.hid (V2.out.below h3)
    have U3 := Lib.hid (U2.out.below h3)
    clear h3
    go_wp2_with fail
    refine (HRS.out w3).mono ?_
    rintro e' w4 ⟨rfl, h4⟩
    have B4 := Lib.hid (below_then B3.out h4)
    try have tB4 := T.below B4.out
    have V4 := Lib.hid (V3.out.below h4)
    have U4 := Lib.hid (U3.out.below h4)
    clear h4
    go_wp2_with fail
    refine (HSM.out _ _ w4 U4.out V4.out).mono ?_
    rintro e' w5 ⟨rfl, h5⟩
    have B5 := Lib.hid (below_then B4.out h5)
    try have tB5 := T.below B5.out
    clear h5
    go_wp2_with fail
    refine (HPT.out w5).mono ?_
    rintro e' w6 ⟨x, rfl, hx, h6⟩
    have B6 := Lib.hid (below_then B5.out h6)
    try have tB6 := T.below B6.out
    have X6 := Lib.hid hx
    try have tX6 := T.below X6.out
    clear hx
    clear h6
    go_wp2_with fail
    refine (HRT.out w6).mono ?_
    rintro e' w7 ⟨y, rfl, hx, h7⟩
    have B7 := Lib.hid (below_then B6.out h7)
    try have tB7 := T.below B7.out
    have Y7 := Lib.hid hx
    try have tY7 := T.below Y7.out
    have X7 := Lib.hid (X6.out.below h7)
    clear hx
    clear h7
    go_wp2_with fail
    refine (HEQ.out _ _ w7 X7.out Y7.out).mono ?_
    rintro e' w8 ⟨rfl, h8⟩
    have B8 := Lib.hid (below_then B7.out h8)
    try have tB8 := T.below B8.out
    clear h8
    go_wp2_with fail
    refine (HA.out w8).mono ?_
    rintro e' w9 ⟨rfl, h9⟩
    have B9 := Lib.hid (below_then B8.out h9)
    try have tB9 := T.below B9.out
    clear h9
    go_wp2
    go_ret
    exact ⟨rfl, B9.out⟩
set_option maxHeartbeats 4000000 in
theorem checks_law (H : MkOk) (HC : RefChk) (HN : RefNst) (HF : RefFnd) (l : List Lx) (i : Int) (v : Value) (w : World) [T w] (hv : LexIn w v l) (hl : l.length ≤ maxLen) (hi : I64 i) :
    Calls Tryz.prog 4 #[v, intV i] w fun e w' => e = .returned (.bool true) ∧ Below w.heap.size w w' := by
  obtain ⟨hv, hin⟩ := hv
  obtain ⟨a, cap, rfl⟩ := hv.slice
  have HV := Lib.hid hv
  try have tHV := T.below HV.out
  have HA := Lib.hid (fun (W : World) [T W] => awake_any H W)
  obtain ⟨g, hg⟩ : ∃ g, greatLB l = g := ⟨_, rfl⟩
  have HG := Lib.hid (fun W (h : LexAt W (.slice a l.length cap) l) => greatL_any l hl g hg _ W h)
  cases g with
  | true =>
    clear hv hin hl hg
    go_enter Tryz.func4, Tryz.ntmps4
    go_wp2_with fail
    refine (HG.out w HV.out).mono ?_
    rintro e' w1 ⟨rfl, h1⟩
    have B1 := Lib.hid h1
    try have tB1 := T.below B1.out
    clear h1
    go_wp2_with fail
    refine (HA.out w1).mono ?_
    rintro e' w2 ⟨rfl, h2⟩
    have B2 := Lib.hid (below_then B1.out h2)
    try have tB2 := T.below B2.out
    clear h2
    go_wp2
    go_ret
    exact ⟨rfl, B2.out⟩
  | false =>
    obtain ⟨hb, hl24⟩ := great_b hg hin
    obtain ⟨r, hr⟩ : ∃ r, printR l = r := ⟨_, rfl⟩
    obtain ⟨t, e⟩ := r
    obtain ⟨q, hq⟩ : ∃ q, findR l i = q := ⟨_, rfl⟩
    obtain ⟨k, f⟩ := q
    obtain ⟨c, hc⟩ : ∃ c, chkR l = c := ⟨_, rfl⟩
    obtain ⟨n, hn⟩ : ∃ n, nestR l = n := ⟨_, rfl⟩
    have P1 := Lib.hid (fun (W : World) [T W] (h : LexAt W (.slice a l.length cap) l) => print_at H l t e hr hb _ W h)
    have P2 := Lib.hid (fun W (h : LexAt W (.slice a l.length cap) l) => refPrint_any HC l t e hr _ W h hb)
    have F1 := Lib.hid (fun (W : World) [T W] (h : LexAt W (.slice a l.length cap) l) => find_at' H l i k f hq hb hi _ W h)
    have F2 := Lib.hid (fun W (h : LexAt W (.slice a l.length cap) l) => HF l i k f _ W hq h hb hi)
    have C1 := Lib.hid (fun (W : World) [T W] (h : LexAt W (.slice a l.length cap) l) => check_at H l c hc hb _ W h)
    have C2 := Lib.hid (fun W (h : LexAt W (.slice a l.length cap) l) => HC l c _ W hc h hb)
    have N1 := Lib.hid (fun (W : World) [T W] (h : LexAt W (.slice a l.length cap) l) => nested_at H l n hn hb _ W h)
    have N2 := Lib.hid (fun W (h : LexAt W (.slice a l.length cap) l) => HN l n _ W hn h hb)
    clear hv hin hl hg hb hl24 hr hq hc hn hi
    go_enter Tryz.func4, Tryz.ntmps4
    go_wp2_with fail
    refine (HG.out w HV.out).mono ?_
    rintro e' w1 ⟨rfl, h1⟩
    have B1 := Lib.hid h1
    try have tB1 := T.below B1.out
    clear h1
    go_wp2_with fail
    refine (P1.out w1 (HV.out.below B1.out)).mono ?_
    rintro e' w2 ⟨rfl, h2⟩
    have B2 := Lib.hid (below_then B1.out h2)
    try have tB2 := T.below B2.out
    clear h2
    go_wp2_with fail
    refine (P2.out w2 (HV.out.below B2.out)).mono ?_
    rintro e' w3 ⟨rfl, h3⟩
    have B3 := Lib.hid (below_then B2.out h3)
    try have tB3 := T.below B3.out
    clear h3
    go_wp2_with fail
    refine (F1.out w3 (HV.out.below B3.out)).mono ?_
    rintro e' w4 ⟨rfl, h4⟩
    have B4 := Lib.hid (below_then B3.out h4)
    try have tB4 := T.below B4.out
    clear h4
    go_wp2_with fail
    refine (F2.out w4 (HV.out.below B4.out)).mono ?_
    rintro e' w5 ⟨rfl, h5⟩
    have B5 := Lib.hid (below_then B4.out h5)
    try have tB5 := T.below B5.out
    clear h5
    go_wp2_with fail
    refine (C1.out w5 (HV.out.below B5.out)).mono ?_
    rintro e' w6 ⟨rfl, h6⟩
    have B6 := Lib.hid (below_then B5.out h6)
    try have tB6 := T.below B6.out
    clear h6
    go_wp2_with fail
    refine (C2.out w6 (HV.out.below B6.out)).mono ?_
    rintro e' w7 ⟨rfl, h7⟩
    have B7 := Lib.hid (below_then B6.out h7)
    try have tB7 := T.below B7.out
    clear h7
    go_wp2_with fail
    refine (N1.out w7 (HV.out.below B7.out)).mono ?_
    rintro e' w8 ⟨rfl, h8⟩
    have B8 := Lib.hid (below_then B7.out h8)
    try have tB8 := T.below B8.out
    clear h8
    go_wp2_with fail
    refine (N2.out w8 (HV.out.below B8.out)).mono ?_
    rintro e' w9 ⟨rfl, h9⟩
    have B9 := Lib.hid (below_then B8.out h9)
    try have tB9 := T.below B9.out
    clear h9
    go_wp2_with fail
    refine (HA.out w9).mono ?_
    rintro e' w10 ⟨rfl, h10⟩
    have B10 := Lib.hid (below_then B9.out h10)
    try have tB10 := T.below B10.out
    clear h10
    go_wp2
    go_ret
    exact ⟨rfl, B10.out⟩
theorem scans_w (H : MkOk) (HS : RefScn) (w : World) [T w] (s : ByteArray) (hs : s.size ≤ maxLen) :
    Calls Tryz.prog 3 #[.string s] w fun e w' => e = .returned (.bool true) ∧ Below w.heap.size w w' := by
  have := scans_law H HS s.data.toList w hs
  unfold sV at this
  rwa [baL_list] at this
theorem checks_w (H : MkOk) (HC : RefChk) (HN : RefNst) (HF : RefFnd) (w : World) [T w] (v : Value) (l : List Lx) (i : Int) (hv : LexIn w v l) (hl : l.length ≤ maxLen) (hi : (Lit.int .i64 i).wf = true) :
    Calls Tryz.prog 4 #[v, intV i] w fun e w' => e = .returned (.bool true) ∧ Below w.heap.size w w' :=
  checks_law H HC HN HF l i v w hv hl (wf_i64 hi)
end Go.Proofs.YtdgihkgomfpmoaaGreatDoor
