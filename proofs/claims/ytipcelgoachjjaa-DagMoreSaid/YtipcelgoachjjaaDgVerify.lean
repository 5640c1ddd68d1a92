/- The program's Verify. -/
import Derived.Test.YtipcelgoachjjaaDgFeas
namespace Go.Proofs.Ytipcelgoachjjaa
set_option linter.unusedSimpArgs false
set_option linter.unusedVariables false
set_option maxRecDepth 100000
open Go.RowKit Go.Deep

theorem costR_spec {ls : List LkV} {s t : Int} {path : List Int} {p : Int} : walkA ls s 0 path = some (t, p) ↔ (costR ls s t path).2 = true ∧ (costR ls s t path).1 = p := by
  rw [costR]
  rcases walkA ls s 0 path with _ | ⟨x, c⟩
  · simp
  · simp only [Option.some.injEq, Prod.mk.injEq, decide_eq_true_eq]
set_option maxHeartbeats 2000000 in
theorem Verify_any (n : Int) (ls : List LkV) (s t : Int) (path pots : List Int) (hpp : path.length ≤ 4096) (hpl : pots.length ≤ 1000000) (hpr : ∀ x ∈ pots, x ≤ 9223372036854775807) (v u x : Value) (w : World) (hv : LinksAt w v ls) (hu : IntsAt w u path) (hx : IntsAt w x pots) (hgr : greatR n ls = false) (r : Int) (hr : verR n ls s t path pots = r) :
    Calls Try.prog 20 #[intV n, v, intV s, intV t, u, x] w fun e w' => e = .returned (intV r) ∧ Below w.heap.size w w' := by
  have HV := Lib.hid hv
  have HU := Lib.hid hu
  have HX := Lib.hid hx
  have hl := great_len hgr
  have hBt : Below w.heap.size w (w.alloc (.cells #[intV s, intV t] 3)) := (Below.refl _ _).alloc (Nat.le_refl _) _
  obtain ⟨q, hq⟩ : ∃ q, nodesR n ls [s, t] = q := ⟨_, rfl⟩
  have HC := Lib.hid (nodes_any n ls [s, t] v _ _ (hv.below hBt) (ints_two w s t 3) (by unfold maxLen; omega) (by simp [maxLen]) q hq)
  have HBt := Lib.hid hBt
  obtain ⟨av, cv, rfl⟩ := hv.slice
  obtain ⟨au, cu, rfl⟩ := hu.slice
  obtain ⟨ax, cx, rfl⟩ := hx.slice
  rw [verR, hq] at hr
  have HR := Lib.hid hr
  have HPR := Lib.hid hpr
  clear hv hBt hr hu hx hpr
  by_cases h0 : q = 0
  · subst h0
    obtain ⟨hc, hin⟩ := nodes_zero hq
    obtain ⟨m, rfl, hs⟩ := small_of hgr hc
    obtain ⟨k, rfl, hk⟩ := nat_of (hin t (by simp))
    obtain ⟨j, rfl, hj⟩ := nat_of (hin s (by simp))
    have HG := Lib.hid hs.g
    have hr2 : (if feas m ls k pots = true ∧ (costR ls j k path).2 = true ∧ (costR ls j k path).1 = pt pots j then 0 else 18) = r := by
      have h1 := HR.out
      rw [if_neg (show ¬ ((0 : Int) ≠ 0) by decide)] at h1
      rw [← h1]
      by_cases h : feas m ls k pots = true ∧ walkA ls j 0 path = some ((k : Int), pt pots j)
      · rw [if_pos h, if_pos (show _ ∧ _ ∧ _ from ⟨h.1, costR_spec.1 h.2⟩)]
      · rw [if_neg h, if_neg (show ¬ (_ ∧ _ ∧ _) from fun h' => h ⟨h'.1, costR_spec.2 h'.2⟩)]
    have HR2 := Lib.hid hr2
    obtain ⟨fr, hfr⟩ : ∃ x, feas m ls k pots = x := ⟨_, rfl⟩
    obtain ⟨cr, hcr⟩ : ∃ x, costR ls j k path = x := ⟨_, rfl⟩
    have HFR := Lib.hid hfr
    have HCR := Lib.hid hcr
    clear hq hc hin hs hgr HR hr2 hfr hcr
    rw [HFR.out, HCR.out] at HR2
    have HLEN := Lib.hid (show fr = true → pots.length = m from fun h => by
      have h2 := HFR.out
      rw [h] at h2
      unfold feas at h2
      rw [decide_eq_true_eq] at h2
      have := h2.1; omega)
    obtain ⟨cc, ip⟩ := cr
    dsimp only at HR2
    go_enter Try.func20, Try.ntmps20
    go_wp2_with fail
    refine HC.out.mono ?_
    rintro e w1 ⟨rfl, hB⟩
    have HB1 := Lib.hid (below_then HBt.out hB)
    clear hB
    go_wp2_with fail
    refine (costOf_any ls HG.out j k path hpp _ HCR.out _ _ w1 (HV.out.below HB1.out) (HU.out.below HB1.out)).mono ?_
    rintro e w2 ⟨rfl, rfl⟩
    cases ip with
    | false =>
      go_wp2_with fail
      go_ret
      exact ⟨ret_int (by rw [← HR2.out, if_neg (by simp)]), HB1.out⟩
    | true =>
      go_wp2_with fail
      refine (feas_any m ls HG.out k hk pots hpl HPR.out fr HFR.out _ _ w1 (HV.out.below HB1.out) (HX.out.below HB1.out)).mono ?_
      rintro e w2 ⟨rfl, hB⟩
      have HB2 := Lib.hid (below_then HB1.out hB)
      clear hB
      cases fr with
      | false =>
        go_wp2_with fail
        go_ret
        exact ⟨ret_int (by rw [← HR2.out, if_neg (by simp)]), HB2.out⟩
      | true =>
        have hlen := HLEN.out rfl
        obtain ⟨bx, ox, rfl, hbx, q1⟩ := HX.out.elem (j := j) (by omega)
        have c1 := (HB2.out.cell (p := ⟨bx, ox + j, none⟩) hbx).trans q1
        rw [← pt_get] at c1
        obtain ⟨y, hy⟩ : ∃ y, pt pots j = y := ⟨_, rfl⟩
        rw [hy] at c1 HR2
        have hj0 : (0 : Int) ≤ (j : Int) := by omega
        have hj1 : (j : Int) < (pots.length : Int) := by omega
        clear q1 hy hlen
        by_cases h : cc = y
        · subst h
          go_wp2_with fail
          go_ret
          exact ⟨ret_int (by rw [← HR2.out, if_pos (by simp)]), HB2.out⟩
        · have hb : (cc != y) = true := by rw [bne_iff_ne]; exact h
          have HN := Lib.hid h
          clear h
          go_wp2_with fail
          go_ret
          exact ⟨ret_int (by rw [← HR2.out, if_neg fun h => HN.out h.2.2]), HB2.out⟩
  · have hb : (q != 0) = true := by rw [bne_iff_ne]; exact h0
    go_enter Try.func20, Try.ntmps20
    go_wp2_with fail
    refine HC.out.mono ?_
    rintro e w1 ⟨rfl, hB⟩
    have HB1 := Lib.hid (below_then HBt.out hB)
    clear hB
    go_wp2
    go_ret
    exact ⟨ret_int (HR.out.symm.trans (by rw [if_pos h0])).symm, HB1.out⟩
end Go.Proofs.Ytipcelgoachjjaa
