/- The program's Shortest. -/
import Derived.Deep.RegionHeld3
import Derived.Test.YtipcelgoachjjaaDgPath
import Derived.Test.YtipcelgoachjjaaDgProg1
namespace Go.Proofs.Ytipcelgoachjjaa
set_option linter.unusedSimpArgs false
set_option linter.unusedVariables false
set_option maxRecDepth 100000
open Go.RowKit Go.Deep

/-- a list, a number and why there is none -/
def PathPost (r : List Int × Int × Int) (w : World) (e : Ending) (w' : World) : Prop := ∃ v, e = .returned (.tuple #[v, intV r.2.1, intV r.2.2]) ∧ IntsAt w' v r.1 ∧ Below w.heap.size w w'
theorem PathPost.mk' {w w' : World} {v : Value} {xs : List Int} {c k : Int} {r : List Int × Int × Int} (h : r = (xs, c, k)) (hi : IntsAt w' v xs) (hB : Below w.heap.size w w') : PathPost r w (.returned (.tuple #[v, intV c, intV k])) w' := by
  subst h; exact ⟨_, rfl, hi, hB⟩

/-- .. and the list lies within its capacity -/
def PathPostC (r : List Int × Int × Int) (w : World) (e : Ending) (w' : World) : Prop := ∃ v, e = .returned (.tuple #[v, intV r.2.1, intV r.2.2]) ∧ (IntsAt w' v r.1 ∧ CapOk v) ∧ Below w.heap.size w w'
theorem PathPostC.mk' {w w' : World} {v : Value} {xs : List Int} {c k : Int} {r : List Int × Int × Int} (h : r = (xs, c, k)) (hi : IntsAt w' v xs) (hc : CapOk v) (hB : Below w.heap.size w w') : PathPostC r w (.returned (.tuple #[v, intV c, intV k])) w' := by
  subst h; exact ⟨_, rfl, ⟨hi, hc⟩, hB⟩
set_option maxHeartbeats 2000000 in
theorem Shortest_cap (n : Int) (ls : List LkV) (s t : Int) (v : Value) (w : World) (hv : LinksAt w v ls) (hgr : greatR n ls = false) (r : List Int × Int × Int) (hr : shoR n ls s t = r) :
    Calls Try.prog 13 #[intV n, v, intV s, intV t] w (PathPostC r w) := by
  have HV := Lib.hid hv
  have hl := great_len hgr
  have hBt : Below w.heap.size w (w.alloc (.cells #[intV s, intV t] 3)) := (Below.refl _ _).alloc (Nat.le_refl _) _
  obtain ⟨q, hq⟩ : ∃ q, nodesR n ls [s, t] = q := ⟨_, rfl⟩
  have HC := Lib.hid (nodes_any n ls [s, t] v _ _ (hv.below hBt) (ints_two w s t 3) (by unfold maxLen; omega) (by simp [maxLen]) q hq)
  have HBt := Lib.hid hBt
  obtain ⟨av, cv, rfl⟩ := hv.slice
  rw [shoR, hq] at hr
  have HR := Lib.hid hr
  clear hv hBt hr
  by_cases h0 : q = 0
  · subst h0
    obtain ⟨hc, hin⟩ := nodes_zero hq
    obtain ⟨m, rfl, hs⟩ := small_of hgr hc
    obtain ⟨k, rfl, hk⟩ := nat_of (hin t (by simp))
    obtain ⟨j, rfl, hj⟩ := nat_of (hin s (by simp))
    have HS := Lib.hid hs
    clear hq hc hin hs hgr
    go_enter Try.func13, Try.ntmps13
    go_wp2_with fail
    refine HC.out.mono ?_
    rintro e w1 ⟨rfl, hB⟩
    have HB1 := Lib.hid (below_then HBt.out hB)
    clear hB
    go_wp2_with fail
    refine (graphOf_any m ls HS.out.g _ w1 (HV.out.below HB1.out)).mono ?_
    rintro e w2 ⟨u, rfl, hu, hB⟩
    have HB2 := Lib.hid (below_then HB1.out hB)
    have HU := Lib.hid hu
    obtain ⟨au, cu, rfl, _⟩ := id hu
    clear hB hu
    go_wp2_with fail
    obtain ⟨w2b, hw2b⟩ : ∃ x, w2.alloc (.cells #[.slice av ls.length cv, .slice au (outs m ls).length cu] 57) = x := ⟨_, rfl⟩
    have hB2b : Below w2.heap.size w2 w2b := by rw [← hw2b]; exact (Below.refl _ _).alloc (Nat.le_refl _) _
    have hc0 : w2b.cell? ⟨w2.heap.size, 0, none⟩ = some (.slice av ls.length cv) := by rw [← hw2b, World.cell?_alloc_new]; rfl
    have hc1 : w2b.cell? ⟨w2.heap.size, 1, none⟩ = some (.slice au (outs m ls).length cu) := by rw [← hw2b, World.cell?_alloc_new]; rfl
    have hlt2 : w2.heap.size < w2b.heap.size := by rw [← hw2b]; simp
    have HB2b := Lib.hid (below_then HB2.out hB2b)
    have HU2 := Lib.hid (HU.out.below hB2b)
    have HCC := Lib.hid (And.intro hc0 hc1)
    rw [hw2b]
    clear hB2b hc0 hc1 hw2b
    refine (potentials_any m ls HS.out k hk _ _ w2b (HV.out.below HB2b.out) HU2.out).mono ?_
    rintro e w3 ⟨r', rfl, h1, hB⟩
    have H1 := Lib.hid h1
    have HB3 := Lib.hid (below_then HB2b.out hB)
    have hlt3 := Nat.lt_of_lt_of_le hlt2 hB.size
    have HU3 := Lib.hid (HU2.out.below hB)
    have hc0 := (hB.cell (p := ⟨w2.heap.size, 0, none⟩) hlt2).trans HCC.out.1
    have hc1 := (hB.cell (p := ⟨w2.heap.size, 1, none⟩) hlt2).trans HCC.out.2
    obtain ⟨ar, cr, rfl⟩ := h1.slice
    obtain ⟨br, or, rfl, hbr, c1⟩ := h1.elem (j := j) (by rw [tab_len]; exact hj)
    rw [tab_get] at c1
    rw [tab_len] at *
    clear hB h1 HCC
    by_cases hL : least ls k j = -1
    · rw [hL] at c1
      go_wp2
      refine bodyPost_ret (v := .tuple #[_, _, _]) (by simp [results, Try.results13, go_sem]; exact ⟨rfl, rfl, rfl⟩) rfl ?_
      exact PathPostC.mk' (HR.out.symm.trans (by rw [if_neg (by decide), if_pos hL])) (IntsAt.empty _ _ _) (cap_nil _ _) HB3.out
    · have hb1 : (least ls k j == -1) = false := by simpa using hL
      have HLP := Lib.hid (fun (w' : World) (hB' : Below w3.heap.size w3 w') => leastPath_any m ls HS.out.g HS.out.n8 j k hj hk hL (.slice av ls.length cv) (.slice au (outs m ls).length cu) _ w' (HV.out.below (below_then HB3.out hB')) (HU3.out.below hB') (H1.out.below hB'))
      have HNE := Lib.hid hL
      clear hL
      go_wp2_with fail
      go_region_held3 (fun w' => w'.cell? ⟨w2.heap.size, 0, none⟩ = some (.slice av ls.length cv) ∧ w'.cell? ⟨w2.heap.size, 1, none⟩ = some (.slice au (outs m ls).length cu) ∧ w'.cell? ⟨br, or + j, none⟩ = some (intV (least ls k j)))
        (first | (exact ⟨hc0, hc1, c1⟩) | exact HS5.out)
        (first | ((try go_simp); go_at_call 42; refine (HLP.out _ (below_drew1 _ _)).mono ?_; rintro e w5 ⟨rp, rfl, ⟨hip, hcp⟩, hB5⟩; have HIP := Lib.hid hip; have HCP := Lib.hid hcp; have HB5 := Lib.hid (below_then HB3.out ((below_drew1 _ w3).trans hB5)); obtain ⟨ap, cp, rfl, _⟩ := id hip; have HS5 := Lib.hid (show _ ∧ _ ∧ _ from ⟨(hB5.cell (p := ⟨w2.heap.size, 0, none⟩) hlt3).trans hc0, (hB5.cell (p := ⟨w2.heap.size, 1, none⟩) hlt3).trans hc1, (hB5.cell (p := ⟨br, or + j, none⟩) hbr).trans c1⟩); clear hip hcp hB5))
      all_goals
        go_wp2
        refine bodyPost_ret (v := .tuple #[_, _, _]) (by simp [results, Try.results13, go_sem]; exact ⟨rfl, rfl, rfl⟩) rfl ?_
        have h := HIP.out
        rw [List.length_map] at h
        exact PathPostC.mk' (HR.out.symm.trans (by rw [if_neg (by decide), if_neg HNE.out])) h (by have := HCP.out; rwa [List.length_map] at this) HB5.out
  · have hb : (q != 0) = true := by rw [bne_iff_ne]; exact h0
    go_enter Try.func13, Try.ntmps13
    go_wp2_with fail
    refine HC.out.mono ?_
    rintro e w1 ⟨rfl, hB⟩
    have HB1 := Lib.hid (below_then HBt.out hB)
    clear hB
    go_wp2
    refine bodyPost_ret (v := .tuple #[_, _, _]) (by simp [results, Try.results13, go_sem]; exact ⟨rfl, rfl, rfl⟩) rfl ?_
    exact PathPostC.mk' (HR.out.symm.trans (by rw [if_pos h0])) (IntsAt.empty _ _ _) (cap_nil _ _) HB1.out
theorem Shortest_any (n : Int) (ls : List LkV) (s t : Int) (v : Value) (w : World) (hv : LinksAt w v ls) (hgr : greatR n ls = false) (r : List Int × Int × Int) (hr : shoR n ls s t = r) :
    Calls Try.prog 13 #[intV n, v, intV s, intV t] w (PathPost r w) :=
  (Shortest_cap n ls s t v w hv hgr r hr).mono fun e w' ⟨x, h1, h2, h3⟩ => ⟨x, h1, h2.1, h3⟩
end Go.Proofs.Ytipcelgoachjjaa
