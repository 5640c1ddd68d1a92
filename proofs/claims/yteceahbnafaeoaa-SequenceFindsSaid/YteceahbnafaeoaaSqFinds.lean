/- SequenceFinds: the law's walk. -/
import Derived.Test.YteceahbnafaeoaaSpOk
import Derived.Test.YteceahbnafaeoaaSqRefC
import Derived.Test.YteceahbnafaeoaaSqRefR
import Derived.Test.YteceahbnafaeoaaSqRefV
import Derived.Test.YteceahbnafaeoaaSqGreat
import Derived.Test.YteceahbnafaeoaaSqArgs
namespace Go.Proofs.Yteceahbnafaeoaa
set_option linter.unusedSimpArgs false
set_option linter.unusedVariables false
set_option maxRecDepth 100000
open Go.RowKit Go.Deep

theorem incE_len (l : List Int) (hl : l.length ≤ 1027) : (incE l).1.length ≤ 1000000 := by
  unfold incE
  split
  · exact Nat.zero_le _
  · show (incR l).length ≤ _
    rw [inc_len]
    have := lis_le l
    omega
theorem covE_len (l : List Int) (hl : l.length ≤ 1027) : (covE l).1.length ≤ 1000000 ∧ ∀ c ∈ (covE l).1, c.length ≤ 1000000 := by
  unfold covE
  split
  · exact ⟨Nat.zero_le _, fun c hc => absurd hc (by simp)⟩
  · refine ⟨?_, fun c hc => (covN_parts l l.length (Nat.le_refl _) (by omega) c hc).2.1⟩
    have := covN_len l l.length
    show (covN l l.length).length ≤ _
    omega
theorem runsE_len (l : List Int) (hl : l.length ≤ 1027) : (runsE l).1.length ≤ 1000000 ∧ ∀ c ∈ (runsE l).1, c.length ≤ 1000000 := by
  unfold runsE
  split
  · exact ⟨Nat.zero_le _, fun c hc => absurd hc (by simp)⟩
  · refine ⟨?_, fun c hc => ?_⟩
    · have := runs_lenP l
      show (runsR l).length ≤ _
      omega
    · have hc : c ∈ runsR l := hc
      rw [← norm_runs l] at hc
      obtain ⟨d, _, rfl⟩ := List.mem_map.1 hc
      show (norm2 d).length ≤ _
      unfold norm2
      simp
set_option maxHeartbeats 8000000 in
theorem finds_law (l : List Int) (v : Value) (w : World) (hv : IntsAt w v l) (hcap : CapOk v) (hr : R64 l) (hl : l.length ≤ maxLen) :
    Calls Try.prog 3 #[v] w fun e w' => e = .returned (.bool true) ∧ Below w.heap.size w w' := by
  have HV := Lib.hid hv
  obtain ⟨g, hg⟩ : ∃ g, greatB l = g := ⟨_, rfl⟩
  have HG := Lib.hid (great_any l hl g hg v w hv)
  have AW := Lib.hid (fun W => awake_any sqOk W)
  obtain ⟨a, cap, rfl⟩ := hv.slice
  cases g with
  | true =>
    clear hv hcap hr hl hg
    go_enter Try.func3, Try.ntmps3
    go_wp2_with fail
    refine HG.out.mono ?_
    rintro e w1 ⟨rfl, h1⟩
    have B1 := Lib.hid h1
    clear h1
    go_wp2_with fail
    refine (AW.out w1).mono ?_
    rintro e w2 ⟨rfl, h2⟩
    have B2 := Lib.hid (below_then B1.out h2)
    clear h2
    go_wp2
    go_ret
    exact ⟨rfl, B2.out⟩
  | false =>
    have hno := great_no hg
    have h12 : l.length ≤ 12 ∨ 1024 < l.length := by omega
    have hlm : l.length ≤ 1027 := by omega
    have P1 := Lib.hid (fun W h => sqOk.incr l (.slice a l.length cap) W h hr hl)
    have R1 := Lib.hid (fun W h => refInc_any l h12 (by omega) (.slice a l.length cap) W h)
    have P2 := Lib.hid (fun W h => sqOk.cover l (.slice a l.length cap) W h hr hl)
    have R2 := Lib.hid (fun W h => refCover_any l h12 (by omega) (.slice a l.length cap) W h)
    have P3 := Lib.hid (fun W h => sqOk.inv l (.slice a l.length cap) W h hcap hr hl)
    have R3 := Lib.hid (fun W h => refInv_any l h12 (by omega) (.slice a l.length cap) W h)
    have P4 := Lib.hid (fun W h => sqOk.runs l (.slice a l.length cap) W h hr hl)
    have R4 := Lib.hid (fun W h => refRuns_any l h12 (by omega) hr (.slice a l.length cap) W h)
    have P5 := Lib.hid (fun W h => sqOk.moves l (.slice a l.length cap) W h hr hl)
    have R5 := Lib.hid (fun W h => refMoves_any l h12 (by omega) (.slice a l.length cap) W h)
    have P6 := Lib.hid (fun W h => sqOk.perm l (.slice a l.length cap) W h hr (by omega))
    have R6 := Lib.hid (fun W h => refPerm_any l (by omega) (.slice a l.length cap) W h _ rfl)
    have L1 := Lib.hid (incE_len l hlm)
    have L2 := Lib.hid (covE_len l hlm)
    have L4 := Lib.hid (runsE_len l hlm)
    obtain ⟨e1, he1⟩ : ∃ x, incE l = x := ⟨_, rfl⟩
    obtain ⟨e2, he2⟩ : ∃ x, covE l = x := ⟨_, rfl⟩
    obtain ⟨e3, he3⟩ : ∃ x, invE l = x := ⟨_, rfl⟩
    obtain ⟨e4, he4⟩ : ∃ x, runsE l = x := ⟨_, rfl⟩
    obtain ⟨e5, he5⟩ : ∃ x, movE l = x := ⟨_, rfl⟩
    obtain ⟨e6, he6⟩ : ∃ x, permB l = x := ⟨_, rfl⟩
    rw [he1] at P1 R1 L1
    rw [he2] at P2 R2 L2
    rw [he3] at P3 R3
    rw [he4] at P4 R4 L4
    rw [he5] at P5 R5
    rw [he6] at P6 R6
    obtain ⟨I, i1⟩ := e1
    obtain ⟨C, c1⟩ := e2
    obtain ⟨n3, m3⟩ := e3
    obtain ⟨X, x1⟩ := e4
    obtain ⟨n5, m5⟩ := e5
    simp only at P1 R1 L1 P2 R2 L2 P3 R3 P4 R4 L4 P5 R5
    have q1 : (i1 == i1) = true := by simp
    have q2 : (c1 == c1) = true := by simp
    have q3 : (n3 == n3) = true := by simp
    have q3' : (m3 == m3) = true := by simp
    have q4 : (x1 == x1) = true := by simp
    have q5 : (n5 == n5) = true := by simp
    have q5' : (m5 == m5) = true := by simp
    have q6 : (e6 == e6) = true := by simp
    clear hv hcap hr hl hg hno h12 hlm he1 he2 he3 he4 he5 he6
    go_enter Try.func3, Try.ntmps3
    go_wp2_with fail
    refine HG.out.mono ?_
    rintro e w1 ⟨rfl, h1⟩
    have B1 := Lib.hid h1
    clear h1
    go_wp2_with fail
    refine (P1.out w1 (HV.out.below B1.out)).mono ?_
    rintro e w2 ⟨x, rfl, hx, h2⟩
    obtain ⟨xa1, xc1, rfl⟩ := hx.slice
    have HI1 := Lib.hid hx
    have B2 := Lib.hid (below_then B1.out h2)
    clear h2 hx
    go_wp2_with fail
    refine (R1.out w2 (HV.out.below B2.out)).mono ?_
    rintro e w3 ⟨x, rfl, hx, h2⟩
    obtain ⟨xa2, xc2, rfl⟩ := hx.slice
    have HI1 := Lib.hid (HI1.out.below h2)
    have HI2 := Lib.hid hx
    have B3 := Lib.hid (below_then B2.out h2)
    clear h2 hx
    go_wp2_with fail
    refine (P2.out w3 (HV.out.below B3.out)).mono ?_
    rintro e w4 ⟨x, rfl, hx, h2⟩
    obtain ⟨xa3, xc3, rfl⟩ := hx.slice
    have HI1 := Lib.hid (HI1.out.below h2)
    have HI2 := Lib.hid (HI2.out.below h2)
    have HC1 := Lib.hid hx
    have B4 := Lib.hid (below_then B3.out h2)
    clear h2 hx
    go_wp2_with fail
    refine (R2.out w4 (HV.out.below B4.out)).mono ?_
    rintro e w5 ⟨x, rfl, hx, h2⟩
    obtain ⟨xa4, xc4, rfl⟩ := hx.slice
    have HI1 := Lib.hid (HI1.out.below h2)
    have HI2 := Lib.hid (HI2.out.below h2)
    have HC1 := Lib.hid (HC1.out.below h2)
    have HC2 := Lib.hid hx
    have B5 := Lib.hid (below_then B4.out h2)
    clear h2 hx
    go_wp2_with fail
    refine (P3.out w5 (HV.out.below B5.out)).mono ?_
    rintro e w6 ⟨rfl, h2⟩
    have HI1 := Lib.hid (HI1.out.below h2)
    have HI2 := Lib.hid (HI2.out.below h2)
    have HC1 := Lib.hid (HC1.out.below h2)
    have HC2 := Lib.hid (HC2.out.below h2)
    have B6 := Lib.hid (below_then B5.out h2)
    clear h2
    go_wp2_with fail
    refine (R3.out w6 (HV.out.below B6.out)).mono ?_
    rintro e w7 ⟨rfl, h2⟩
    have HI1 := Lib.hid (HI1.out.below h2)
    have HI2 := Lib.hid (HI2.out.below h2)
    have HC1 := Lib.hid (HC1.out.below h2)
    have HC2 := Lib.hid (HC2.out.below h2)
    have B7 := Lib.hid (below_then B6.out h2)
    clear h2
    go_wp2_with fail
    refine (P4.out w7 (HV.out.below B7.out)).mono ?_
    rintro e w8 ⟨x, rfl, hx, h2⟩
    obtain ⟨xa7, xc7, rfl⟩ := hx.slice
    have HI1 := Lib.hid (HI1.out.below h2)
    have HI2 := Lib.hid (HI2.out.below h2)
    have HC1 := Lib.hid (HC1.out.below h2)
    have HC2 := Lib.hid (HC2.out.below h2)
    have HX1 := Lib.hid hx
    have B8 := Lib.hid (below_then B7.out h2)
    clear h2 hx
    go_wp2_with fail
    refine (R4.out w8 (HV.out.below B8.out)).mono ?_
    rintro e w9 ⟨x, rfl, hx, h2⟩
    obtain ⟨xa8, xc8, rfl⟩ := hx.slice
    have HI1 := Lib.hid (HI1.out.below h2)
    have HI2 := Lib.hid (HI2.out.below h2)
    have HC1 := Lib.hid (HC1.out.below h2)
    have HC2 := Lib.hid (HC2.out.below h2)
    have HX1 := Lib.hid (HX1.out.below h2)
    have HX2 := Lib.hid hx
    have B9 := Lib.hid (below_then B8.out h2)
    clear h2 hx
    go_wp2_with fail
    refine (P5.out w9 (HV.out.below B9.out)).mono ?_
    rintro e w10 ⟨rfl, h2⟩
    have HI1 := Lib.hid (HI1.out.below h2)
    have HI2 := Lib.hid (HI2.out.below h2)
    have HC1 := Lib.hid (HC1.out.below h2)
    have HC2 := Lib.hid (HC2.out.below h2)
    have HX1 := Lib.hid (HX1.out.below h2)
    have HX2 := Lib.hid (HX2.out.below h2)
    have B10 := Lib.hid (below_then B9.out h2)
    clear h2
    go_wp2_with fail
    refine (R5.out w10 (HV.out.below B10.out)).mono ?_
    rintro e w11 ⟨rfl, h2⟩
    have HI1 := Lib.hid (HI1.out.below h2)
    have HI2 := Lib.hid (HI2.out.below h2)
    have HC1 := Lib.hid (HC1.out.below h2)
    have HC2 := Lib.hid (HC2.out.below h2)
    have HX1 := Lib.hid (HX1.out.below h2)
    have HX2 := Lib.hid (HX2.out.below h2)
    have B11 := Lib.hid (below_then B10.out h2)
    clear h2
    go_wp2_with fail
    refine (equal_any I I true (by simp) _ _ w11 HI1.out HI2.out L1.out L1.out).mono ?_
    rintro e w12 ⟨rfl, hm⟩
    have h2 : Below w11.heap.size w11 w12 := by obtain ⟨m, rfl⟩ := hm; exact below_drewN _ _
    clear hm
    have HI1 := Lib.hid (HI1.out.below h2)
    have HI2 := Lib.hid (HI2.out.below h2)
    have HC1 := Lib.hid (HC1.out.below h2)
    have HC2 := Lib.hid (HC2.out.below h2)
    have HX1 := Lib.hid (HX1.out.below h2)
    have HX2 := Lib.hid (HX2.out.below h2)
    have B12 := Lib.hid (below_then B11.out h2)
    clear h2
    go_wp2_with fail
    refine (sameL_any C C true (by simp) _ _ w12 HC1.out HC2.out L2.out.1 L2.out.1 L2.out.2 L2.out.2).mono ?_
    rintro e w13 ⟨rfl, hm⟩
    have h2 : Below w12.heap.size w12 w13 := by obtain ⟨m, rfl⟩ := hm; exact below_drewN _ _
    clear hm
    have HI1 := Lib.hid (HI1.out.below h2)
    have HI2 := Lib.hid (HI2.out.below h2)
    have HC1 := Lib.hid (HC1.out.below h2)
    have HC2 := Lib.hid (HC2.out.below h2)
    have HX1 := Lib.hid (HX1.out.below h2)
    have HX2 := Lib.hid (HX2.out.below h2)
    have B13 := Lib.hid (below_then B12.out h2)
    clear h2
    go_wp2_with fail
    refine (sameL_any X X true (by simp) _ _ w13 HX1.out HX2.out L4.out.1 L4.out.1 L4.out.2 L4.out.2).mono ?_
    rintro e w14 ⟨rfl, hm⟩
    have h2 : Below w13.heap.size w13 w14 := by obtain ⟨m, rfl⟩ := hm; exact below_drewN _ _
    clear hm
    have HI1 := Lib.hid (HI1.out.below h2)
    have HI2 := Lib.hid (HI2.out.below h2)
    have HC1 := Lib.hid (HC1.out.below h2)
    have HC2 := Lib.hid (HC2.out.below h2)
    have HX1 := Lib.hid (HX1.out.below h2)
    have HX2 := Lib.hid (HX2.out.below h2)
    have B14 := Lib.hid (below_then B13.out h2)
    clear h2
    go_wp2_with fail
    refine (P6.out w14 (HV.out.below B14.out)).mono ?_
    rintro e w15 ⟨rfl, h2⟩
    have B15 := Lib.hid (below_then B14.out h2)
    clear h2
    go_wp2_with fail
    refine (R6.out w15 (HV.out.below B15.out)).mono ?_
    rintro e w16 ⟨rfl, h2⟩
    have B16 := Lib.hid (below_then B15.out h2)
    clear h2
    go_wp2_with fail
    refine (AW.out w16).mono ?_
    rintro e w17 ⟨rfl, h2⟩
    have B17 := Lib.hid (below_then B16.out h2)
    clear h2
    go_wp2
    go_ret
    exact ⟨rfl, B17.out⟩
theorem finds_w (w : World) (u0 : Value) (x0 : List Int) (h0 : IntsR w u0 x0) (b0 : x0.length ≤ maxLen) :
    Calls Try.prog 3 #[u0] w fun e w' => e = .returned (.bool true) ∧ Below w.heap.size w w' :=
  finds_law x0 u0 w h0.1 h0.2.2 h0.2.1 b0
end Go.Proofs.Yteceahbnafaeoaa
