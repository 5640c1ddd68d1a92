/- The reference's Potentials and Longest. -/
import Derived.Test.YtipcelgoachjjaaDgToW
namespace Go.Proofs.Ytipcelgoachjjaa
set_option linter.unusedSimpArgs false
set_option linter.unusedVariables false
set_option maxRecDepth 100000
open Go.RowKit Go.Deep

theorem nodes_same (n : Int) (ls : List LkV) (t : Int) : nodesR n ls [t, t] = nodesR n ls [t] := by
  unfold nodesR
  split
  · rfl
  · by_cases h : inN n t
    · rw [if_pos (by simpa using h), if_pos (by simpa using h)]
    · rw [if_neg (by simpa using h), if_neg (by simpa using h)]
set_option maxHeartbeats 1000000 in
theorem refPotentials_any (n : Int) (ls : List LkV) (t : Int) (v : Value) (w : World) (hv : LinksAt w v ls) (hgr : greatR n ls = false) (r : List Int × Int) (hr : potR n ls t = r) :
    Calls Try.prog 16 #[intV n, v, intV t] w (ListPost r w) := by
  have HV := Lib.hid hv
  have hl := great_len hgr
  obtain ⟨q, hq⟩ : ∃ q, nodesR n ls [t] = q := ⟨_, rfl⟩
  have HC := Lib.hid (refNodes_any n ls t t v _ hv (by unfold maxLen; omega) q (by rw [nodes_same]; exact hq))
  obtain ⟨av, cv, rfl⟩ := hv.slice
  rw [potR, hq] at hr
  have HR := Lib.hid hr
  clear hv hr
  by_cases h0 : q = 0
  · subst h0
    obtain ⟨hc, hin⟩ := nodes_zero hq
    obtain ⟨m, rfl, hs⟩ := small_of hgr hc
    obtain ⟨k, rfl, hk⟩ := nat_of (hin t (by simp))
    have HS := Lib.hid hs
    clear hq hc hin hs hgr
    go_enter Try.func16, Try.ntmps16
    go_wp2_with fail
    refine HC.out.mono ?_
    rintro e w1 ⟨rfl, hB⟩
    have HB1 := Lib.hid hB
    clear hB
    go_wp2_with fail
    refine (to_any m ls HS.out k hk false _ w1 (HV.out.below HB1.out)).mono ?_
    rintro e w2 ⟨u, rfl, h1, hB⟩
    have H1 := Lib.hid h1
    have HB2 := Lib.hid (below_then HB1.out hB)
    obtain ⟨ar, cr, rfl, _⟩ := id h1
    clear hB h1
    go_wp2
    go_ret2
    exact ListPost.good (HR.out.symm.trans (by rw [if_neg (by decide)]; rfl)) H1.out HB2.out
  · have hb : (q != 0) = true := by rw [bne_iff_ne]; exact h0
    go_enter Try.func16, Try.ntmps16
    go_wp2_with fail
    refine HC.out.mono ?_
    rintro e w1 ⟨rfl, hB⟩
    have HB1 := Lib.hid (hB.alloc hB.size (.cells #[] 3))
    clear hB
    go_wp2
    go_ret2
    exact ListPost.good (HR.out.symm.trans (by rw [if_pos h0])) (IntsAt.empty _ _ _) HB1.out

set_option maxHeartbeats 1000000 in
theorem refLongest_any (n : Int) (ls : List LkV) (s t : Int) (v : Value) (w : World) (hv : LinksAt w v ls) (hgr : greatR n ls = false) (r : Int × Int) (hr : lonR n ls s t = r) :
    Calls Try.prog 25 #[intV n, v, intV s, intV t] w fun e w' => e = .returned (.tuple #[intV r.1, intV r.2]) ∧ Below w.heap.size w w' := by
  have HV := Lib.hid hv
  have hl := great_len hgr
  obtain ⟨q, hq⟩ : ∃ q, nodesR n ls [s, t] = q := ⟨_, rfl⟩
  have HC := Lib.hid (refNodes_any n ls s t v _ hv (by unfold maxLen; omega) q hq)
  obtain ⟨av, cv, rfl⟩ := hv.slice
  rw [lonR, hq] at hr
  have HR := Lib.hid hr
  clear hv hr
  by_cases h0 : q = 0
  · subst h0
    obtain ⟨hc, hin⟩ := nodes_zero hq
    obtain ⟨m, rfl, hs⟩ := small_of hgr hc
    obtain ⟨k, rfl, hk⟩ := nat_of (hin t (by simp))
    obtain ⟨j, rfl, hj⟩ := nat_of (hin s (by simp))
    have HS := Lib.hid hs
    have hlow := maxL_low (C ls k j)
    clear hq hc hin hs hgr
    go_enter Try.func25, Try.ntmps25
    go_wp2_with fail
    refine HC.out.mono ?_
    rintro e w1 ⟨rfl, hB⟩
    have HB1 := Lib.hid hB
    clear hB
    go_wp2_with fail
    refine (to_any m ls HS.out k hk true _ w1 (HV.out.below HB1.out)).mono ?_
    rintro e w2 ⟨u, rfl, h1, hB⟩
    have HB2 := Lib.hid (below_then HB1.out hB)
    obtain ⟨ar, cr, rfl⟩ := h1.slice
    obtain ⟨br, or, rfl, hbr, c1⟩ := h1.elem (j := j) (by rw [tab_len]; exact hj)
    rw [tab_get] at c1
    replace c1 : w2.cell? ⟨br, or + j, none⟩ = some (intV (most ls k j)) := c1
    rw [tab_len] at *
    replace hlow : -1 ≤ most ls k j := hlow
    clear hB h1
    by_cases h1 : most ls k j = -1
    · rw [h1] at c1
      go_wp2
      go_ret2
      exact ⟨ret_of2 (HR.out.symm.trans (by rw [if_neg (by decide), if_pos h1])), HB2.out⟩
    · have hnn : ¬ most ls k j < 0 := by omega
      go_wp2
      go_ret2
      exact ⟨ret_of2 (HR.out.symm.trans (by rw [if_neg (by decide), if_neg h1])), HB2.out⟩
  · have hb : (q != 0) = true := by rw [bne_iff_ne]; exact h0
    go_enter Try.func25, Try.ntmps25
    go_wp2_with fail
    refine HC.out.mono ?_
    rintro e w1 ⟨rfl, hB⟩
    have HB1 := Lib.hid hB
    clear hB
    go_wp2
    go_ret2
    exact ⟨ret_of2 (HR.out.symm.trans (by rw [if_pos h0])), HB1.out⟩
end Go.Proofs.Ytipcelgoachjjaa
