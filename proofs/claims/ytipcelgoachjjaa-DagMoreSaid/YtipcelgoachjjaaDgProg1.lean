/- The program's Potentials, Count, Longest. -/
import Derived.Test.YtipcelgoachjjaaDgUse
import Derived.Test.YtipcelgoachjjaaDgRes
import Derived.Test.YtipcelgoachjjaaDgRefs
namespace Go.Proofs.Ytipcelgoachjjaa
set_option linter.unusedSimpArgs false
set_option linter.unusedVariables false
set_option maxRecDepth 100000
open Go.RowKit Go.Deep

theorem ints_lit (w : World) (xs : List Int) (t : TypeId) : IntsAt (w.alloc (.cells (xs.map intV).toArray t)) (.slice (some ⟨w.heap.size, 0, none⟩) xs.length xs.length) xs :=
  ⟨_, _, rfl, fun _ => ⟨w.heap.size, 0, rfl, by simp, fun j hj => by rw [World.cell?_alloc_new]; simp [hj]⟩⟩
theorem ints_one (w : World) (x : Int) (t : TypeId) : IntsAt (w.alloc (.cells #[intV x] t)) (.slice (some ⟨w.heap.size, 0, none⟩) 1 1) [x] := ints_lit w [x] t
theorem ints_two (w : World) (x y : Int) (t : TypeId) : IntsAt (w.alloc (.cells #[intV x, intV y] t)) (.slice (some ⟨w.heap.size, 0, none⟩) 2 2) [x, y] := ints_lit w [x, y] t
theorem ret_of2 {r : Int × Int} {x y : Int} (h : r = (x, y)) : Ending.returned (.tuple #[intV x, intV y]) = .returned (.tuple #[intV r.1, intV r.2]) := by rw [h]
/-- the statements' sizes -/
theorem small_of {n : Int} {ls : List LkV} (hgr : greatR n ls = false) (hc : checkR n ls = 0) : ∃ m : Nat, n = m ∧ Sm m ls := by
  have hg := gr_of hc
  have h1 := hg.n1
  have h2 := hg.n2
  unfold greatR at hgr
  rw [decide_eq_false_iff_not] at hgr
  refine ⟨n.toNat, by omega, ?_⟩
  have e : ((n.toNat : Nat) : Int) = n := by omega
  exact ⟨by rw [e]; exact hg, by omega, by omega⟩
theorem nodes_zero {n : Int} {ls : List LkV} {ns : List Int} (h : nodesR n ls ns = 0) : checkR n ls = 0 ∧ ∀ i ∈ ns, inN n i := by
  unfold nodesR at h
  split at h
  · cases h
  · rename_i hc
    split at h
    · rename_i hn; exact ⟨by simpa using hc, hn⟩
    · cases h
theorem great_len {n : Int} {ls : List LkV} (hgr : greatR n ls = false) : ls.length ≤ 14 := by
  unfold greatR at hgr
  rw [decide_eq_false_iff_not] at hgr; omega
theorem nat_of {n : Nat} {i : Int} (h : inN n i) : ∃ k : Nat, i = k ∧ k < n := ⟨i.toNat, by have := h.1; omega, by have := h.1; have := h.2; omega⟩

set_option maxHeartbeats 1000000 in
theorem Potentials_any (n : Int) (ls : List LkV) (t : Int) (v : Value) (w : World) (hv : LinksAt w v ls) (hgr : greatR n ls = false) (r : List Int × Int) (hr : potR n ls t = r) :
    Calls Try.prog 15 #[intV n, v, intV t] w (ListPost r w) := by
  have HV := Lib.hid hv
  have hl := great_len hgr
  have hBt : Below w.heap.size w (w.alloc (.cells #[intV t] 3)) := (Below.refl _ _).alloc (Nat.le_refl _) _
  obtain ⟨q, hq⟩ : ∃ q, nodesR n ls [t] = q := ⟨_, rfl⟩
  have HC := Lib.hid (nodes_any n ls [t] v _ _ (hv.below hBt) (ints_one w t 3) (by unfold maxLen; omega) (by simp [maxLen]) q hq)
  have HBt := Lib.hid hBt
  obtain ⟨av, cv, rfl⟩ := hv.slice
  rw [potR, hq] at hr
  have HR := Lib.hid hr
  clear hv hBt hr
  by_cases h0 : q = 0
  · subst h0
    obtain ⟨hc, hin⟩ := nodes_zero hq
    obtain ⟨m, rfl, hs⟩ := small_of hgr hc
    obtain ⟨k, rfl, hk⟩ := nat_of (hin t (by simp))
    have HS := Lib.hid hs
    clear hq hc hin hs hgr
    go_enter Try.func15, Try.ntmps15
    go_wp2_with fail
    refine HC.out.mono ?_
    rintro e w1 ⟨rfl, hB⟩
    have HB1 := Lib.hid (below_then HBt.out hB)
    clear hB
    go_wp2_with fail
    refine (graphOf_any m ls HS.out.g _ w1 (HV.out.below HB1.out)).mono ?_
    rintro e w2 ⟨u, rfl, hu, hB⟩
    have HB2 := Lib.hid (below_then HB1.out hB)
    have HU := Lib.hid hu
    obtain ⟨au, cu, rfl, _⟩ := id hu
    clear hB hu
    go_wp2_with fail
    refine (potentials_any m ls HS.out k hk _ _ w2 (HV.out.below HB2.out) HU.out).mono ?_
    rintro e w3 ⟨r', rfl, h1, hB⟩
    have H1 := Lib.hid h1
    have HB3 := Lib.hid (below_then HB2.out hB)
    obtain ⟨ar, cr, rfl, _⟩ := id h1
    clear hB h1
    go_wp2
    go_ret2
    exact ListPost.good (HR.out.symm.trans (by rw [if_neg (by decide)]; rfl)) H1.out HB3.out
  · have hb : (q != 0) = true := by rw [bne_iff_ne]; exact h0
    go_enter Try.func15, Try.ntmps15
    go_wp2_with fail
    refine HC.out.mono ?_
    rintro e w1 ⟨rfl, hB⟩
    have HB1 := Lib.hid (below_then HBt.out hB)
    clear hB
    go_wp2
    go_ret2
    exact ListPost.bad (HR.out.symm.trans (by rw [if_pos h0])) HB1.out

set_option maxHeartbeats 1000000 in
theorem Count_any (n : Int) (ls : List LkV) (s t : Int) (v : Value) (w : World) (hv : LinksAt w v ls) (hgr : greatR n ls = false) (r : Int × Int) (hr : cntR n ls s t = r) :
    Calls Try.prog 22 #[intV n, v, intV s, intV t] w fun e w' => e = .returned (.tuple #[intV r.1, intV r.2]) ∧ Below w.heap.size w w' := by
  have HV := Lib.hid hv
  have hl := great_len hgr
  have hBt : Below w.heap.size w (w.alloc (.cells #[intV s, intV t] 3)) := (Below.refl _ _).alloc (Nat.le_refl _) _
  obtain ⟨q, hq⟩ : ∃ q, nodesR n ls [s, t] = q := ⟨_, rfl⟩
  have HC := Lib.hid (nodes_any n ls [s, t] v _ _ (hv.below hBt) (ints_two w s t 3) (by unfold maxLen; omega) (by simp [maxLen]) q hq)
  have HBt := Lib.hid hBt
  obtain ⟨av, cv, rfl⟩ := hv.slice
  rw [cntR, hq] at hr
  have HR := Lib.hid hr
  clear hv hBt hr
  by_cases h0 : q = 0
  · subst h0
    obtain ⟨hc, hin⟩ := nodes_zero hq
    obtain ⟨m, rfl, hs⟩ := small_of hgr hc
    obtain ⟨k, rfl, hk⟩ := nat_of (hin t (by simp))
    obtain ⟨j, rfl, hj⟩ := nat_of (hin s (by simp))
    have HS := Lib.hid hs
    clear hq hc hin hs hgr
    go_enter Try.func22, Try.ntmps22
    go_wp2_with fail
    refine HC.out.mono ?_
    rintro e w1 ⟨rfl, hB⟩
    have HB1 := Lib.hid (below_then HBt.out hB)
    clear hB
    go_wp2_with fail
    refine (graphOf_any m ls HS.out.g _ w1 (HV.out.below HB1.out)).mono ?_
    rintro e w2 ⟨u, rfl, hu, hB⟩
    have HB2 := Lib.hid (below_then HB1.out hB)
    have HU := Lib.hid hu
    obtain ⟨au, cu, rfl, _⟩ := id hu
    clear hB hu
    go_wp2_with fail
    refine (foldCount_any m ls HS.out k hk _ _ w2 (HV.out.below HB2.out) HU.out).mono ?_
    rintro e w3 ⟨r', rfl, h1, hB⟩
    have HB3 := Lib.hid (below_then HB2.out hB)
    obtain ⟨ar, cr, rfl⟩ := h1.slice
    obtain ⟨br, or, rfl, hbr, c1⟩ := h1.elem (j := j) (by rw [tab_len]; exact hj)
    rw [tab_get] at c1
    rw [tab_len] at *
    clear hB h1
    go_wp2
    go_ret2
    exact ⟨ret_of2 (HR.out.symm.trans (by rw [if_neg (by decide)])), HB3.out⟩
  · have hb : (q != 0) = true := by rw [bne_iff_ne]; exact h0
    go_enter Try.func22, Try.ntmps22
    go_wp2_with fail
    refine HC.out.mono ?_
    rintro e w1 ⟨rfl, hB⟩
    have HB1 := Lib.hid (below_then HBt.out hB)
    clear hB
    go_wp2
    go_ret2
    exact ⟨ret_of2 (HR.out.symm.trans (by rw [if_pos h0])), HB1.out⟩

set_option maxHeartbeats 1000000 in
theorem Longest_any (n : Int) (ls : List LkV) (s t : Int) (v : Value) (w : World) (hv : LinksAt w v ls) (hgr : greatR n ls = false) (r : Int × Int) (hr : lonR n ls s t = r) :
    Calls Try.prog 24 #[intV n, v, intV s, intV t] w fun e w' => e = .returned (.tuple #[intV r.1, intV r.2]) ∧ Below w.heap.size w w' := by
  have HV := Lib.hid hv
  have hl := great_len hgr
  have hBt : Below w.heap.size w (w.alloc (.cells #[intV s, intV t] 3)) := (Below.refl _ _).alloc (Nat.le_refl _) _
  obtain ⟨q, hq⟩ : ∃ q, nodesR n ls [s, t] = q := ⟨_, rfl⟩
  have HC := Lib.hid (nodes_any n ls [s, t] v _ _ (hv.below hBt) (ints_two w s t 3) (by unfold maxLen; omega) (by simp [maxLen]) q hq)
  have HBt := Lib.hid hBt
  obtain ⟨av, cv, rfl⟩ := hv.slice
  rw [lonR, hq] at hr
  have HR := Lib.hid hr
  clear hv hBt hr
  by_cases h0 : q = 0
  · subst h0
    obtain ⟨hc, hin⟩ := nodes_zero hq
    obtain ⟨m, rfl, hs⟩ := small_of hgr hc
    obtain ⟨k, rfl, hk⟩ := nat_of (hin t (by simp))
    obtain ⟨j, rfl, hj⟩ := nat_of (hin s (by simp))
    have HS := Lib.hid hs
    clear hq hc hin hs hgr
    go_enter Try.func24, Try.ntmps24
    go_wp2_with fail
    refine HC.out.mono ?_
    rintro e w1 ⟨rfl, hB⟩
    have HB1 := Lib.hid (below_then HBt.out hB)
    clear hB
    go_wp2_with fail
    refine (graphOf_any m ls HS.out.g _ w1 (HV.out.below HB1.out)).mono ?_
    rintro e w2 ⟨u, rfl, hu, hB⟩
    have HB2 := Lib.hid (below_then HB1.out hB)
    have HU := Lib.hid hu
    obtain ⟨au, cu, rfl, _⟩ := id hu
    clear hB hu
    go_wp2_with fail
    refine (foldMost_any m ls HS.out k hk _ _ w2 (HV.out.below HB2.out) HU.out).mono ?_
    rintro e w3 ⟨r', rfl, h1, hB⟩
    have HB3 := Lib.hid (below_then HB2.out hB)
    obtain ⟨ar, cr, rfl⟩ := h1.slice
    obtain ⟨br, or, rfl, hbr, c1⟩ := h1.elem (j := j) (by rw [tab_len]; exact hj)
    rw [tab_get] at c1
    rw [tab_len] at *
    clear hB h1
    by_cases h1 : most ls k j = -1
    · rw [h1] at c1
      go_wp2
      go_ret2
      exact ⟨ret_of2 (HR.out.symm.trans (by rw [if_neg (by decide), if_pos h1])), HB3.out⟩
    · have hb1 : (most ls k j == -1) = false := by simpa using h1
      go_wp2
      go_ret2
      exact ⟨ret_of2 (HR.out.symm.trans (by rw [if_neg (by decide), if_neg h1])), HB3.out⟩
  · have hb : (q != 0) = true := by rw [bne_iff_ne]; exact h0
    go_enter Try.func24, Try.ntmps24
    go_wp2_with fail
    refine HC.out.mono ?_
    rintro e w1 ⟨rfl, hB⟩
    have HB1 := Lib.hid (below_then HBt.out hB)
    clear hB
    go_wp2
    go_ret2
    exact ⟨ret_of2 (HR.out.symm.trans (by rw [if_pos h0])), HB1.out⟩
end Go.Proofs.Ytipcelgoachjjaa
