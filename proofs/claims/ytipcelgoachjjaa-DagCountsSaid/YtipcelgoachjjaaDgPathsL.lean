/- The law DagPaths. -/
import Derived.Test.YtipcelgoachjjaaDgRefVer
import Derived.Test.YtipcelgoachjjaaDgRefShort
import Derived.Test.YtipcelgoachjjaaDgAwake
import Derived.Test.YtipcelgoachjjaaDgArgs
namespace Go.Proofs.Ytipcelgoachjjaa
set_option linter.unusedSimpArgs false
set_option linter.unusedVariables false
set_option maxRecDepth 100000
open Go.RowKit Go.Deep

theorem firstF_len (ls : List LkV) (t : Int) : ∀ k s, (firstF ls t k s).length ≤ k
  | 0, s => by simp [firstF]
  | k + 1, s => by
    rw [firstF]
    split
    · simp
    · split
      · have := firstF_len ls t k (lk ls ‹Nat›).t
        simp; omega
      · simp
theorem sho_len (n : Int) (ls : List LkV) (s t : Int) : (shoR n ls s t).1.length ≤ 1000000 := by
  rw [shoR]
  split
  · simp
  · rename_i h
    split
    · simp
    · obtain ⟨hc, hin⟩ := nodes_zero (by simpa using h)
      have h1 := (hin s (by simp)).1
      have h2 := (hin t (by simp)).2
      have := (gr_of hc).n2
      have := firstF_len ls t (t - s).toNat s
      show (toI (first ls t s)).length ≤ _
      rw [List.length_map, first]; omega
theorem pot_len (n : Int) (ls : List LkV) (t : Int) : (potR n ls t).1.length ≤ 1000000 := by
  rw [potR]
  split
  · simp
  · rename_i h
    obtain ⟨hc, hin⟩ := nodes_zero (by simpa using h)
    have := (gr_of hc).n2
    show (tab n.toNat (least ls t)).length ≤ _
    rw [tab_len]; omega
set_option maxHeartbeats 4000000 in
theorem dagPaths_any (w : World) (n : Int) (v : Value) (ls : List LkV) (s t : Int) (u : Value) (path : List Int) (x : Value) (pots : List Int) (hn : (Lit.int .i64 n).wf = true) (hv : LinksAt w v ls) (hl : ls.length ≤ maxLen)
    (hs : (Lit.int .i64 s).wf = true) (ht : (Lit.int .i64 t).wf = true) (hu : IntsR w u path) (lu : path.length ≤ maxLen) (hx : IntsR w x pots) (lx : pots.length ≤ maxLen) :
    Calls Try.prog 3 #[intV n, v, intV s, intV t, u, x] w fun e w' => e = .returned (.bool true) ∧ Below w.heap.size w w' := by
  obtain ⟨g, hg⟩ : ∃ g, greatR n ls = g := ⟨_, rfl⟩
  have HG := Lib.hid (great_any n ls v w hv g hg)
  have HV := Lib.hid hv
  have HU := Lib.hid hu.1
  have HX := Lib.hid hx.1
  have HXR := Lib.hid hx.2
  unfold maxLen at hl lu lx
  obtain ⟨av, cv, rfl⟩ := hv.slice
  obtain ⟨au, cu, rfl⟩ := hu.1.slice
  obtain ⟨ax, cx, rfl⟩ := hx.1.slice
  have HGE := Lib.hid hg
  clear hn hs ht hv hu hx hg
  cases g with
  | true =>
    go_enter Try.func3, Try.ntmps3
    go_wp2_with fail
    refine HG.out.mono ?_
    rintro e w1 ⟨rfl, rfl⟩
    go_wp2_with fail
    refine (awake_any _).mono ?_
    rintro e w2 ⟨rfl, g2⟩
    have G2 := Lib.hid g2
    clear g2
    go_wp2
    go_ret
    exact ⟨rfl, G2.out⟩
  | false =>
    by_cases h1 : 20 < path.length
    · go_enter Try.func3, Try.ntmps3
      go_wp2_with fail
      refine HG.out.mono ?_
      rintro e w1 ⟨rfl, rfl⟩
      go_wp2_with fail
      refine (awake_any _).mono ?_
      rintro e w2 ⟨rfl, g2⟩
      have G2 := Lib.hid g2
      clear g2
      go_wp2
      go_ret
      exact ⟨rfl, G2.out⟩
    by_cases h2 : 20 < pots.length
    · go_enter Try.func3, Try.ntmps3
      go_wp2_with fail
      refine HG.out.mono ?_
      rintro e w1 ⟨rfl, rfl⟩
      go_wp2_with fail
      refine (awake_any _).mono ?_
      rintro e w2 ⟨rfl, g2⟩
      have G2 := Lib.hid g2
      clear g2
      go_wp2
      go_ret
      exact ⟨rfl, G2.out⟩
    have hl14 := great_len HGE.out
    obtain ⟨r, hr⟩ : ∃ r, shoR n ls s t = r := ⟨_, rfl⟩
    obtain ⟨p, hp⟩ : ∃ r, potR n ls t = r := ⟨_, rfl⟩
    obtain ⟨c, hc⟩ : ∃ r, checkR n ls = r := ⟨_, rfl⟩
    obtain ⟨q, hq⟩ : ∃ r, verR n ls s t path pots = r := ⟨_, rfl⟩
    have HR := Lib.hid hr
    have HP := Lib.hid hp
    have HC := Lib.hid hc
    have HQ := Lib.hid hq
    have HLR := Lib.hid (show r.1.length ≤ 1000000 by rw [← hr]; exact sho_len _ _ _ _)
    have HLP := Lib.hid (show p.1.length ≤ 1000000 by rw [← hp]; exact pot_len _ _ _)
    clear hr hp hc hq
    obtain ⟨rl, rc, re⟩ := r
    obtain ⟨pl, pe⟩ := p
    go_enter Try.func3, Try.ntmps3
    go_wp2_with fail
    refine HG.out.mono ?_
    rintro e w1 ⟨rfl, rfl⟩
    go_wp2_with fail
    refine (Shortest_any n ls s t _ w HV.out HGE.out _ HR.out).mono ?_
    rintro e w1 ⟨v1, rfl, i1, b1⟩
    have B1 := Lib.hid b1
    have I1 := Lib.hid i1
    obtain ⟨a1, c1, rfl⟩ := i1.slice
    clear b1 i1
    go_wp2_with fail
    refine (refShortest_any n ls s t _ w1 (HV.out.below B1.out) HGE.out _ HR.out).mono ?_
    rintro e w2 ⟨v2, rfl, i2, b2⟩
    have B2 := Lib.hid (below_then B1.out b2)
    have I12 := Lib.hid (I1.out.below b2)
    have I2 := Lib.hid i2
    obtain ⟨a2, c2, rfl⟩ := i2.slice
    clear b2 i2
    go_wp2_with fail
    refine (Potentials_any n ls t _ w2 (HV.out.below B2.out) HGE.out _ HP.out).mono ?_
    rintro e w3 ⟨v3, rfl, i3, b3⟩
    have B3 := Lib.hid (below_then B2.out b3)
    have I13 := Lib.hid (I12.out.below b3)
    have I23 := Lib.hid (I2.out.below b3)
    have I3 := Lib.hid i3
    obtain ⟨a3, c3, rfl⟩ := i3.slice
    clear b3 i3
    go_wp2_with fail
    refine (refPotentials_any n ls t _ w3 (HV.out.below B3.out) HGE.out _ HP.out).mono ?_
    rintro e w4 ⟨v4, rfl, i4, b4⟩
    have B4 := Lib.hid (below_then B3.out b4)
    have I14 := Lib.hid (I13.out.below b4)
    have I24 := Lib.hid (I23.out.below b4)
    have I34 := Lib.hid (I3.out.below b4)
    have I4 := Lib.hid i4
    obtain ⟨a4, c4, rfl⟩ := i4.slice
    clear b4 i4
    go_wp2_with fail
    refine (check_any n ls _ w4 (HV.out.below B4.out) (by unfold maxLen; omega) c HC.out).mono ?_
    rintro e w5 ⟨rfl, b5⟩
    have B5 := Lib.hid (below_then B4.out b5)
    have I15 := Lib.hid (I14.out.below b5)
    have I25 := Lib.hid (I24.out.below b5)
    have I35 := Lib.hid (I34.out.below b5)
    have I45 := Lib.hid (I4.out.below b5)
    clear b5
    go_wp2_with fail
    refine (refCheck_any n ls _ w5 (HV.out.below B5.out) (by unfold maxLen; omega) c HC.out).mono ?_
    rintro e w6 ⟨rfl, b6⟩
    have B6 := Lib.hid (below_then B5.out b6)
    have I16 := Lib.hid (I15.out.below b6)
    have I26 := Lib.hid (I25.out.below b6)
    have I36 := Lib.hid (I35.out.below b6)
    have I46 := Lib.hid (I45.out.below b6)
    clear b6
    go_wp2_with fail
    refine (equal_yes rl _ _ w6 I16.out I26.out HLR.out).mono ?_
    rintro e w7 ⟨rfl, b7⟩
    have B7 := Lib.hid (below_then B6.out b7)
    have I37 := Lib.hid (I36.out.below b7)
    have I47 := Lib.hid (I46.out.below b7)
    clear b7
    go_wp2_with fail
    refine (equal_yes pl _ _ w7 I37.out I47.out HLP.out).mono ?_
    rintro e w8 ⟨rfl, b8⟩
    have B8 := Lib.hid (below_then B7.out b8)
    clear b8
    go_wp2_with fail
    refine (Verify_any n ls s t path pots (by omega) (by omega) HXR.out _ _ _ w8 (HV.out.below B8.out) (HU.out.below B8.out) (HX.out.below B8.out) HGE.out q HQ.out).mono ?_
    rintro e w9 ⟨rfl, b9⟩
    have B9 := Lib.hid (below_then B8.out b9)
    clear b9
    go_wp2_with fail
    refine (refVerify_any n ls s t path pots (by omega) (by omega) HXR.out _ _ _ w9 (HV.out.below B9.out) (HU.out.below B9.out) (HX.out.below B9.out) HGE.out q HQ.out).mono ?_
    rintro e w10 ⟨rfl, b10⟩
    have B10 := Lib.hid (below_then B9.out b10)
    clear b10
    go_wp2_with fail
    refine (awake_any _).mono ?_
    rintro e w11 ⟨rfl, b11⟩
    have B11 := Lib.hid (below_then B10.out b11)
    clear b11
    go_wp2
    go_ret
    exact ⟨rfl, B11.out⟩
end Go.Proofs.Ytipcelgoachjjaa
