/- The law DagOthers. -/
import Derived.Test.YtipcelgoachjjaaDgReach
import Derived.Test.YtipcelgoachjjaaDgRefCount
import Derived.Test.YtipcelgoachjjaaDgLaw
import Derived.Test.YtipcelgoachjjaaDgPathsL
namespace Go.Proofs.Ytipcelgoachjjaa
set_option linter.unusedSimpArgs false
set_option linter.unusedVariables false
set_option maxRecDepth 100000
open Go.RowKit Go.Deep

theorem reach_len (n : Int) (ls : List LkV) (s : Int) : (reachR n ls s).1.length ≤ 1000000 := by
  rw [reachR]
  split
  · simp
  · rename_i h
    obtain ⟨hc, hin⟩ := nodes_zero (by simpa using h)
    have := (gr_of hc).n2
    show (toI (reachL n.toNat ls s)).length ≤ _
    rw [List.length_map]
    have := selN_len n.toNat (fun j => decide (P ls j s ≠ []))
    unfold reachL; omega
set_option maxHeartbeats 4000000 in
theorem dagOthers_any (w : World) (n : Int) (v : Value) (ls : List LkV) (s t : Int) (hn : (Lit.int .i64 n).wf = true) (hv : LinksAt w v ls) (hl : ls.length ≤ maxLen) (hs : (Lit.int .i64 s).wf = true) (ht : (Lit.int .i64 t).wf = true) :
    Calls Try.prog 4 #[intV n, v, intV s, intV t] w fun e w' => e = .returned (.bool true) ∧ Below w.heap.size w w' := by
  obtain ⟨g, hg⟩ : ∃ g, greatR n ls = g := ⟨_, rfl⟩
  have HG := Lib.hid (great_any n ls v w hv g hg)
  have HV := Lib.hid hv
  obtain ⟨av, cv, rfl⟩ := hv.slice
  have HGE := Lib.hid hg
  clear hn hs ht hv hg hl
  cases g with
  | true =>
    go_enter Try.func4, Try.ntmps4
    go_wp2_with fail
    refine HG.out.mono ?_
    rintro e w1 ⟨rfl, rfl⟩
    go_wp2_with fail
    refine (awake_any _).mono ?_
    rintro e w2 ⟨rfl, g2⟩
    have G2 := Lib.hid g2
    clear g2
    go_wp2
    go_ret
    exact ⟨rfl, G2.out⟩
  | false =>
    obtain ⟨c, hc⟩ : ∃ r, cntR n ls s t = r := ⟨_, rfl⟩
    obtain ⟨o, ho⟩ : ∃ r, lonR n ls s t = r := ⟨_, rfl⟩
    obtain ⟨r, hr⟩ : ∃ r, reachR n ls s = r := ⟨_, rfl⟩
    have HC := Lib.hid hc
    have HO := Lib.hid ho
    have HR := Lib.hid hr
    have HLR := Lib.hid (show r.1.length ≤ 1000000 by rw [← hr]; exact reach_len _ _ _)
    clear hc ho hr
    obtain ⟨ca, ce⟩ := c
    obtain ⟨oa, oe⟩ := o
    obtain ⟨rl, re⟩ := r
    go_enter Try.func4, Try.ntmps4
    go_wp2_with fail
    refine HG.out.mono ?_
    rintro e w1 ⟨rfl, rfl⟩
    go_wp2_with fail
    refine (Count_any n ls s t _ w HV.out HGE.out _ HC.out).mono ?_
    rintro e w1 ⟨rfl, b1⟩
    have B1 := Lib.hid b1
    clear b1
    go_wp2_with fail
    refine (refCount_any n ls s t _ w1 (HV.out.below B1.out) HGE.out _ HC.out).mono ?_
    rintro e w2 ⟨rfl, b2⟩
    have B2 := Lib.hid (below_then B1.out b2)
    clear b2
    go_wp2_with fail
    refine (Longest_any n ls s t _ w2 (HV.out.below B2.out) HGE.out _ HO.out).mono ?_
    rintro e w3 ⟨rfl, b3⟩
    have B3 := Lib.hid (below_then B2.out b3)
    clear b3
    go_wp2_with fail
    refine (refLongest_any n ls s t _ w3 (HV.out.below B3.out) HGE.out _ HO.out).mono ?_
    rintro e w4 ⟨rfl, b4⟩
    have B4 := Lib.hid (below_then B3.out b4)
    clear b4
    go_wp2_with fail
    refine (Reach_any n ls s _ w4 (HV.out.below B4.out) HGE.out _ HR.out).mono ?_
    rintro e w5 ⟨v5, rfl, i5, b5⟩
    have B5 := Lib.hid (below_then B4.out b5)
    have I5 := Lib.hid i5
    obtain ⟨a5, c5, rfl⟩ := i5.slice
    clear b5 i5
    go_wp2_with fail
    refine (refReach_any n ls s _ w5 (HV.out.below B5.out) HGE.out _ HR.out).mono ?_
    rintro e w6 ⟨v6, rfl, i6, b6⟩
    have B6 := Lib.hid (below_then B5.out b6)
    have I56 := Lib.hid (I5.out.below b6)
    have I6 := Lib.hid i6
    obtain ⟨a6, c6, rfl⟩ := i6.slice
    clear b6 i6
    go_wp2_with fail
    refine (equal_yes rl _ _ w6 I56.out I6.out HLR.out).mono ?_
    rintro e w7 ⟨rfl, b7⟩
    have B7 := Lib.hid (below_then B6.out b7)
    clear b7
    go_wp2_with fail
    refine (awake_any _).mono ?_
    rintro e w8 ⟨rfl, b8⟩
    have B8 := Lib.hid (below_then B7.out b8)
    clear b8
    go_wp2
    go_ret
    exact ⟨rfl, B8.out⟩
end Go.Proofs.Ytipcelgoachjjaa
