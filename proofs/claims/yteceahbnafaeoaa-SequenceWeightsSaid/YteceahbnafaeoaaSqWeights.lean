/- SequenceWeights: the law's walk. -/
import Derived.Test.YteceahbnafaeoaaSpOk
import Derived.Test.YteceahbnafaeoaaSqRefVer
import Derived.Test.YteceahbnafaeoaaSqRefI
import Derived.Test.YteceahbnafaeoaaSqGreat
import Derived.Test.YteceahbnafaeoaaSqArgs
namespace Go.Proofs.Yteceahbnafaeoaa
set_option linter.unusedSimpArgs false
set_option linter.unusedVariables false
set_option maxRecDepth 100000
open Go.RowKit Go.Deep

theorem wtdE_len (l ws : List Int) (hl : l.length ≤ 1027) : (wtdE l ws).1.length ≤ 1000000 := by
  unfold wtdE
  split
  · exact Nat.zero_le _
  · split
    · exact Nat.zero_le _
    · split
      · rename_i h1 h2 h3
        have h := (fh_good (its 0 l (toW ws)) none (asc_its 0 l (toW ws))).1.length_le
        rw [its_len 0 l (toW ws) (by rw [toWlen]; omega)] at h
        show (firstR l (toW ws)).length ≤ _
        rw [first_fh]
        unfold idx
        rw [List.length_map]; omega
      · exact Nat.zero_le _
set_option maxHeartbeats 8000000 in
theorem weights_law (l ws : List Int) (cov : List (List Int)) (v u x : Value) (w : World) (hv : IntsAt w v l) (hu : IntsAt w u ws) (hx : ListsAt w x cov) (hr : R64 l) (hrw : R64 ws) (hrc : R64s cov) (hl : l.length ≤ maxLen) (hwl : ws.length ≤ maxLen) (hcl : cov.length ≤ maxLen) (hcc : ∀ c ∈ cov, c.length ≤ maxLen) :
    Calls Try.prog 4 #[v, u, x] w fun e w' => e = .returned (.bool true) ∧ Below w.heap.size w w' := by
  have HV := Lib.hid hv
  have HU := Lib.hid hu
  have HX := Lib.hid hx
  obtain ⟨g, hg⟩ : ∃ g, greatB l = g := ⟨_, rfl⟩
  obtain ⟨g2, hg2⟩ : ∃ g, greatB ws = g := ⟨_, rfl⟩
  obtain ⟨g3, hg3⟩ : ∃ g, greatLB cov = g := ⟨_, rfl⟩
  have HG := Lib.hid (great_any l hl g hg v w hv)
  have HG2 := Lib.hid (fun W h => great_any ws hwl g2 hg2 u W h)
  have HG3 := Lib.hid (fun W h => greatL_any cov hcl g3 hg3 x W h)
  have AW := Lib.hid (fun W => awake_any sqOk W)
  obtain ⟨a, cap, rfl⟩ := hv.slice
  obtain ⟨au, cu, rfl⟩ := hu.slice
  obtain ⟨ax, cx, rfl⟩ := hx.slice
  cases g with
  | true =>
    clear hv hu hx hr hrw hrc hl hwl hcl hcc hg hg2 hg3
    go_enter Try.func4, Try.ntmps4
    go_wp2_with fail
    refine HG.out.mono ?_
    rintro e w1 ⟨rfl, h1⟩
    have B1 := Lib.hid h1
    clear h1
    go_wp2_with fail
    refine (AW.out w1).mono ?_
    rintro e w2 ⟨rfl, h2⟩
    have B2 := Lib.hid (below_then B1.out h2)
    clear h2
    go_wp2
    go_ret
    exact ⟨rfl, B2.out⟩
  | false =>
  cases g2 with
  | true =>
    clear hv hu hx hr hrw hrc hl hwl hcl hcc hg hg2 hg3
    go_enter Try.func4, Try.ntmps4
    go_wp2_with fail
    refine HG.out.mono ?_
    rintro e w1 ⟨rfl, h1⟩
    have B1 := Lib.hid h1
    clear h1
    go_wp2_with fail
    refine (HG2.out w1 (HU.out.below B1.out)).mono ?_
    rintro e w2 ⟨rfl, h2⟩
    have B2 := Lib.hid (below_then B1.out h2)
    clear h2
    go_wp2_with fail
    refine (AW.out w2).mono ?_
    rintro e w3 ⟨rfl, h3⟩
    have B3 := Lib.hid (below_then B2.out h3)
    clear h3
    go_wp2
    go_ret
    exact ⟨rfl, B3.out⟩
  | false =>
  cases g3 with
  | true =>
    clear hv hu hx hr hrw hrc hl hwl hcl hcc hg hg2 hg3
    go_enter Try.func4, Try.ntmps4
    go_wp2_with fail
    refine HG.out.mono ?_
    rintro e w1 ⟨rfl, h1⟩
    have B1 := Lib.hid h1
    clear h1
    go_wp2_with fail
    refine (HG2.out w1 (HU.out.below B1.out)).mono ?_
    rintro e w2 ⟨rfl, h2⟩
    have B2 := Lib.hid (below_then B1.out h2)
    clear h2
    go_wp2_with fail
    refine (HG3.out w2 (HX.out.below B2.out)).mono ?_
    rintro e w3 ⟨rfl, h3⟩
    have B3 := Lib.hid (below_then B2.out h3)
    clear h3
    go_wp2_with fail
    refine (AW.out w3).mono ?_
    rintro e w4 ⟨rfl, h4⟩
    have B4 := Lib.hid (below_then B3.out h4)
    clear h4
    go_wp2
    go_ret
    exact ⟨rfl, B4.out⟩
  | false =>
    have hno := great_no hg
    have hno2 := great_no hg2
    obtain ⟨hc12, hcc12⟩ := greatL_no hg3
    have h12 : l.length ≤ 12 ∨ 1024 < l.length := by omega
    have hlm : l.length ≤ 1027 := by omega
    have hwm : ws.length ≤ 1027 := by omega
    have P1 := Lib.hid (fun W h h2 => sqOk.wtd l ws (.slice a l.length cap) (.slice au ws.length cu) W h h2 hr hrw hl hwl)
    have R1 := Lib.hid (fun W h h2 => refWtd_any l ws h12 (by omega) (by omega) (.slice a l.length cap) (.slice au ws.length cu) W h h2)
    have P2 := Lib.hid (fun W h h2 h3 => sqOk.verify l ws cov (.slice a l.length cap) (.slice au ws.length cu) (.slice ax cov.length cx) W h h2 h3 hr hrw hrc hl hwl hcl hcc)
    have R2 := Lib.hid (fun W h h2 h3 => refVer_any l ws cov h12 (by omega) (by omega) hc12 hcc12 (.slice a l.length cap) (.slice au ws.length cu) (.slice ax cov.length cx) W h h2 h3)
    have L1 := Lib.hid (wtdE_len l ws hlm)
    obtain ⟨e1, he1⟩ : ∃ x, wtdE l ws = x := ⟨_, rfl⟩
    obtain ⟨e2, he2⟩ : ∃ x, verR l ws cov = x := ⟨_, rfl⟩
    rw [he1] at P1 R1 L1
    rw [he2] at P2 R2
    obtain ⟨I, n1, m1⟩ := e1
    simp only at L1
    have q1 : (n1 == n1) = true := by simp
    have q2 : (m1 == m1) = true := by simp
    have q3 : (e2 == e2) = true := by simp
    clear hv hu hx hr hrw hrc hl hwl hcl hcc hg hg2 hg3 hno hno2 hc12 hcc12 h12 hlm hwm he1 he2
    go_enter Try.func4, Try.ntmps4
    go_wp2_with fail
    refine HG.out.mono ?_
    rintro e w1 ⟨rfl, h1⟩
    have B1 := Lib.hid h1
    clear h1
    go_wp2_with fail
    refine (HG2.out w1 (HU.out.below B1.out)).mono ?_
    rintro e w2 ⟨rfl, h2⟩
    have B2 := Lib.hid (below_then B1.out h2)
    clear h2
    go_wp2_with fail
    refine (HG3.out w2 (HX.out.below B2.out)).mono ?_
    rintro e w3 ⟨rfl, h3⟩
    have B3 := Lib.hid (below_then B2.out h3)
    clear h3
    go_wp2_with fail
    refine (P1.out w3 (HV.out.below B3.out) (HU.out.below B3.out)).mono ?_
    rintro e w4 ⟨x, rfl, hx, h4⟩
    obtain ⟨xa, xc, rfl⟩ := hx.slice
    have HI1 := Lib.hid hx
    have B4 := Lib.hid (below_then B3.out h4)
    clear hx h4
    go_wp2_with fail
    refine (R1.out w4 (HV.out.below B4.out) (HU.out.below B4.out)).mono ?_
    rintro e w5 ⟨x, rfl, hx, h5⟩
    obtain ⟨xa2, xc2, rfl⟩ := hx.slice
    have HI1 := Lib.hid (HI1.out.below h5)
    have HI2 := Lib.hid hx
    have B5 := Lib.hid (below_then B4.out h5)
    clear hx h5
    go_wp2_with fail
    refine (equal_any I I true (by simp) _ _ w5 HI1.out HI2.out L1.out L1.out).mono ?_
    rintro e w6 ⟨rfl, hm⟩
    have h6 : Below w5.heap.size w5 w6 := by obtain ⟨m, rfl⟩ := hm; exact below_drewN _ _
    clear hm
    have B6 := Lib.hid (below_then B5.out h6)
    clear h6
    go_wp2_with fail
    refine (P2.out w6 (HV.out.below B6.out) (HU.out.below B6.out) (HX.out.below B6.out)).mono ?_
    rintro e w7 ⟨rfl, h7⟩
    have B7 := Lib.hid (below_then B6.out h7)
    clear h7
    go_wp2_with fail
    refine (R2.out w7 (HV.out.below B7.out) (HU.out.below B7.out) (HX.out.below B7.out)).mono ?_
    rintro e w8 ⟨rfl, h8⟩
    have B8 := Lib.hid (below_then B7.out h8)
    clear h8
    go_wp2_with fail
    refine (AW.out w8).mono ?_
    rintro e w9 ⟨rfl, h9⟩
    have B9 := Lib.hid (below_then B8.out h9)
    clear h9
    go_wp2
    go_ret
    exact ⟨rfl, B9.out⟩
theorem weights_w (w : World) (u0 : Value) (x0 : List Int) (u1 : Value) (x1 : List Int) (u2 : Value) (x2 : List (List Int)) (h0 : IntsR w u0 x0) (b0 : x0.length ≤ maxLen) (h1 : IntsR w u1 x1) (b1 : x1.length ≤ maxLen) (h2 : ListsR w u2 x2) (b2 : x2.length ≤ maxLen) :
    Calls Try.prog 4 #[u0, u1, u2] w fun e w' => e = .returned (.bool true) ∧ Below w.heap.size w w' :=
  weights_law x0 x1 x2 u0 u1 u2 w h0.1 h1.1 h2.1 h0.2.1 h1.2.1 h2.2.1 b0 b1 b2 h2.2.2
end Go.Proofs.Yteceahbnafaeoaa
