/- The reference's Verify. -/
import Derived.Test.YtipcelgoachjjaaDgVerify
import Derived.Test.YtipcelgoachjjaaDgRefPL
namespace Go.Proofs.Ytipcelgoachjjaa
set_option linter.unusedSimpArgs false
set_option linter.unusedVariables false
set_option maxRecDepth 100000
open Go.RowKit Go.Deep

theorem ver_no {n : Int} {ls : List LkV} {s t : Int} {path pots : List Int} (h0 : nodesR n ls [s, t] = 0) (h : ¬ (feas n ls t pots = true ∧ walkA ls s 0 path = some (t, pt pots s))) : verR n ls s t path pots = 18 := by
  rw [verR, h0, if_neg (show ¬ ((0 : Int) ≠ 0) by decide), if_neg h]
theorem feas_iff {n : Int} {ls : List LkV} {t : Int} {pots : List Int} : feas n ls t pots = true ↔ ((pots.length : Int) = n ∧ (∀ p ∈ pots, -1 ≤ p) ∧ pt pots t = 0 ∧ ∀ x ∈ ls, linkOk pots x) := by
  unfold feas; rw [decide_eq_true_eq]
theorem ver_yes {n : Int} {ls : List LkV} {s t : Int} {path pots : List Int} (h0 : nodesR n ls [s, t] = 0) (h : feas n ls t pots = true) : verR n ls s t path pots = if walkA ls s 0 path = some (t, pt pots s) then 0 else 18 := by
  rw [verR, h0, if_neg (show ¬ ((0 : Int) ≠ 0) by decide)]
  by_cases h2 : walkA ls s 0 path = some (t, pt pots s)
  · rw [if_pos ⟨h, h2⟩, if_pos h2]
  · rw [if_neg fun h' => h2 h'.2, if_neg h2]
set_option maxHeartbeats 8000000 in
theorem refVerify_any (n : Int) (ls : List LkV) (s t : Int) (path pots : List Int) (hpp : path.length ≤ 4096) (hpl : pots.length ≤ 1000000) (hpr : ∀ x ∈ pots, x ≤ 9223372036854775807) (v u x : Value) (w : World) (hv : LinksAt w v ls) (hu : IntsAt w u path) (hx : IntsAt w x pots) (hgr : greatR n ls = false) (r : Int) (hr : verR n ls s t path pots = r) :
    Calls Try.prog 21 #[intV n, v, intV s, intV t, u, x] w fun e w' => e = .returned (intV r) ∧ Below w.heap.size w w' := by
  have HV := Lib.hid hv
  have HU := Lib.hid hu
  have HX := Lib.hid hx
  have hl := great_len hgr
  obtain ⟨q, hq⟩ : ∃ q, nodesR n ls [s, t] = q := ⟨_, rfl⟩
  have HC := Lib.hid (refNodes_any n ls s t v _ hv (by unfold maxLen; omega) q hq)
  obtain ⟨av, cv, rfl⟩ := hv.slice
  obtain ⟨au, cu, rfl⟩ := hu.slice
  by_cases h0 : q = 0
  · subst h0
    obtain ⟨hc, hin⟩ := nodes_zero hq
    obtain ⟨m, rfl, hs⟩ := small_of hgr hc
    obtain ⟨k, rfl, hk⟩ := nat_of (hin t (by simp))
    obtain ⟨j, rfl, hj⟩ := nat_of (hin s (by simp))
    have HG := Lib.hid hs.g
    have hm8 := hs.n8
    have HPR := Lib.hid hpr
    have HQ := Lib.hid hq
    have HR := Lib.hid hr
    clear hc hin hs hgr hv hu hr hpr hq
    by_cases hlen : pots.length = m
    · obtain ⟨bx, ox, cx, rfl, hbx, c1⟩ : ∃ b off cap, x = .slice (some ⟨b, off, none⟩) pots.length cap ∧ b < w.heap.size ∧ w.cell? ⟨b, off + k, none⟩ = some (intV (pots[k]'(by omega))) := by
        obtain ⟨a, cap, rfl, hc⟩ := hx
        obtain ⟨b, off, rfl, hb, hcs⟩ := hc (by omega)
        exact ⟨b, off, cap, rfl, hb, hcs k (by omega)⟩
      have HPT := Lib.hid (pt_get (pots := pots) (k := k) (by omega))
      obtain ⟨pT, hpT⟩ : ∃ x, pots[k]'(by omega) = x := ⟨_, rfl⟩
      rw [hpT] at c1 HPT
      have hli : ((pots.length : Int) != (m : Int)) = false := by rw [hlen]; simp
      have hti : (0 : Int) ≤ (k : Int) := by omega
      have htj : (k : Int) < (pots.length : Int) := by omega
      have HL := Lib.hid hlen
      clear hx hpT hlen
      by_cases h2 : pT = 0
      · subst h2
        go_enter Try.func21, Try.ntmps21
        go_wp2_with fail
        refine HC.out.mono ?_
        rintro e w1 ⟨rfl, hB⟩
        have d1 := (hB.cell (p := ⟨bx, ox + k, none⟩) hbx).trans c1
        have HB1 := Lib.hid hB
        clear hB c1
        go_wp2_with fail
        go_loop [14] (fun i => ∃ q : Nat, q ≤ m ∧ i = .int .i64 q ∧ ∀ p ∈ pots.take q, -1 ≤ p) (fun i => m - (intOf i).toNat)
        case atStart => exact ⟨0, Nat.zero_le _, rfl, by simp⟩
        case round =>
          obtain ⟨q, hq, rfl, hall⟩ := hrel
          have HALL := Lib.hid hall
          clear hall
          by_cases hlt : q < m
          · have hqp : q < pots.length := by have := HL.out; omega
            obtain ⟨b', o', e', _, p1⟩ := HX.out.elem hqp
            cases e'
            have p2 := (HB1.out.cell (p := ⟨bx, ox + q, none⟩) hbx).trans p1
            have HT := Lib.hid (List.take_succ_eq_append_getElem hqp)
            have HM := Lib.hid (mem_getElem hqp)
            obtain ⟨y, hy⟩ : ∃ y, pots[q] = y := ⟨_, rfl⟩
            rw [hy] at p2 HT HM
            have hq0 : (0 : Int) ≤ (q : Int) := by omega
            have hq1 : (q : Int) < (pots.length : Int) := by omega
            clear p1 hy
            by_cases h1 : y < -1
            · go_wp2
              go_ret
              exact ⟨ret_int (by rw [← HR.out]; exact (ver_no HQ.out fun h => by have := (feas_iff.1 h.1).2.1 _ HM.out; omega).symm), HB1.out⟩
            · go_wp2
              go_round
              case rel =>
                refine ⟨q + 1, by omega, by go_num, ?_⟩
                rw [HT.out]
                intro p hp
                rcases List.mem_append.1 hp with h' | h'
                · exact HALL.out p h'
                · rw [List.mem_singleton.1 h']; omega
              case measure => simp [intOf]; omega
          · obtain rfl : q = m := by omega
            have HLO := Lib.hid (show ∀ p ∈ pots, -1 ≤ p by have := HALL.out; rwa [← HL.out, List.take_length] at this)
            clear HALL
            go_wp2_with fail
            go_loopw [15] (fun i wr => ∃ k2 : Nat, k2 ≤ ls.length ∧ i = .int .i64 k2 ∧ Below w.heap.size w wr ∧ ∀ j2, j2 < k2 → linkOk pots (lk ls j2)) (fun i _ => ls.length - (intOf i).toNat)
            case atStart => exact ⟨0, Nat.zero_le _, rfl, HB1.out, fun j hj => absurd hj (Nat.not_lt_zero _)⟩
            case round =>
              obtain ⟨k2, hk2, rfl, hB, hok⟩ := hrel
              obtain ⟨wk, rfl⟩ : ∃ x, x = wr := ⟨_, rfl⟩
              have HOK := Lib.hid hok
              clear hok
              by_cases hlt2 : k2 < ls.length
              · obtain ⟨b, off, rfl, hbb, q1, q2, q3⟩ := HV.out.elem hlt2
                have hk' := HG.out.lk hlt2
                obtain ⟨f, hf⟩ : ∃ f : Nat, (lk ls k2).f = f := ⟨(lk ls k2).f.toNat, by have := hk'.f0; omega⟩
                obtain ⟨g, hgt⟩ : ∃ g : Nat, (lk ls k2).t = g := ⟨(lk ls k2).t.toNat, by have := hk'.t0; omega⟩
                obtain ⟨c, hc⟩ : ∃ c, (lk ls k2).c = c := ⟨_, rfl⟩
                have hfn : f < pots.length := by have := hk'.lt; have := hk'.t1; have := HL.out; omega
                have hgn : g < pots.length := by have := hk'.t1; have := HL.out; omega
                have hc0 : 0 ≤ c := by have := hk'.c0; omega
                have hc1 : c ≤ 1073741824 := by have := hk'.c1; omega
                obtain ⟨b', off', e', _, p1⟩ := HX.out.elem hfn
                cases e'
                obtain ⟨b', off', e', _, p2⟩ := HX.out.elem hgn
                cases e'
                have HLK := Lib.hid (show linkOk pots (lk ls k2) ↔ (pots[g] ≠ -1 → pots[f] ≠ -1 ∧ pots[f] - c ≤ pots[g]) by
                  unfold linkOk
                  rw [hf, hgt, hc, pt_get hfn, pt_get hgn])
                have hup := HPR.out _ (List.getElem_mem hfn)
                have hlo := HLO.out _ (List.getElem_mem hfn)
                have hlo2 := HLO.out _ (List.getElem_mem hgn)
                obtain ⟨x, hx⟩ : ∃ x, pots[f] = x := ⟨_, rfl⟩
                obtain ⟨y, hy⟩ : ∃ y, pots[g] = y := ⟨_, rfl⟩
                rw [hx] at HLK p1 hup hlo
                rw [hy] at HLK p2 hlo2
                obtain ⟨W1, hW1⟩ : ∃ W1, wk.alloc (.cells #[intV f, intV g, intV c] 52) = W1 := ⟨_, rfl⟩
                have hB1 : Below w.heap.size w W1 := by rw [← hW1]; exact hB.alloc hB.size _
                have c1' := (hB.cell (p := ⟨b, off + k2 * 3, none⟩) hbb).trans q1
                have c2' := (hB.cell (p := ⟨b, off + k2 * 3 + 1, none⟩) hbb).trans q2
                have c3' := (hB.cell (p := ⟨b, off + k2 * 3 + 2, none⟩) hbb).trans q3
                rw [hf] at c1'
                rw [hgt] at c2'
                rw [hc] at c3'
                have d1 : W1.cell? ⟨wk.heap.size, 0, none⟩ = some (intV f) := by rw [← hW1, World.cell?_alloc_new]; rfl
                have d2 : W1.cell? ⟨wk.heap.size, 1, none⟩ = some (intV g) := by rw [← hW1, World.cell?_alloc_new]; rfl
                have d3 : W1.cell? ⟨wk.heap.size, 2, none⟩ = some (intV c) := by rw [← hW1, World.cell?_alloc_new]; rfl
                have e1 := (hB1.cell (p := ⟨bx, ox + f, none⟩) hbx).trans p1
                have e2 := (hB1.cell (p := ⟨bx, ox + g, none⟩) hbx).trans p2
                have HB2 := Lib.hid hB1
                have HMEM := Lib.hid (lk_mem hlt2)
                have hf0 : (0 : Int) ≤ (f : Int) := by omega
                have hf1 : (f : Int) < (pots.length : Int) := by omega
                have hg0 : (0 : Int) ≤ (g : Int) := by omega
                have hg1 : (g : Int) < (pots.length : Int) := by omega
                clear q1 q2 q3 p1 p2 hf hgt hc hx hy hk' hB hB1
                by_cases hy1 : y < 0
                · have hy2 : decide (0 ≤ y) = false := by rw [decide_eq_false_iff_not]; omega
                  have HY := Lib.hid hy1
                  clear hy1
                  go_wp2_with fail
                  try rw [hW1]
                  clear hW1
                  go_quiet (fail)
                  go_wp2
                  go_roundw
                  case rel =>
                    refine ⟨k2 + 1, by omega, by go_num, HB2.out.trans (below_drewN_n _ _ _), fun j2 hj2 => ?_⟩
                    rcases (show j2 < k2 ∨ j2 = k2 by omega) with h | rfl
                    · exact HOK.out j2 h
                    · exact HLK.out.2 fun h => by have := HY.out; omega
                  case measure => simp [intOf]; omega
                · have hy2 : decide (0 ≤ y) = true := by rw [decide_eq_true_eq]; omega
                  have HY := Lib.hid hy1
                  by_cases hx1 : x < 0
                  · have hx2 : decide (x < 0) = true := by rw [decide_eq_true_eq]; omega
                    have HXX := Lib.hid hx1
                    go_wp2_with fail
                    try rw [hW1]
                    clear hW1
                    go_quiet (fail)
                    go_wp2
                    go_ret
                    refine ⟨ret_int ?_, HB2.out.trans (below_drewN_n _ _ _)⟩
                    rw [← HR.out]
                    exact (ver_no HQ.out fun h => by have h1 := (HLK.out.1 ((feas_iff.1 h.1).2.2.2 _ HMEM.out) (by have := HY.out; omega)).1; have := HXX.out; omega).symm
                  · have hx2 : decide (x < 0) = false := by rw [decide_eq_false_iff_not]; omega
                    have HXX := Lib.hid hx1
                    have hwr : IntKind.i64.wrap (x - c) = x - c := IntWalk.i64_in _ (by omega)
                    by_cases hgt : y < x - c
                    · have hgt2 : decide (y < x - c) = true := by rw [decide_eq_true_eq]; exact hgt
                      have HGT := Lib.hid hgt
                      clear hgt
                      go_wp2_with fail
                      try rw [hW1]
                      clear hW1
                      go_quiet (fail)
                      go_wp2
                      go_ret
                      refine ⟨ret_int ?_, HB2.out.trans (below_drewN_n _ _ _)⟩
                      rw [← HR.out]
                      exact (ver_no HQ.out fun h => by have h1 := (HLK.out.1 ((feas_iff.1 h.1).2.2.2 _ HMEM.out) (by have := HY.out; omega)).2; have := HGT.out; omega).symm
                    · have hgt2 : decide (y < x - c) = false := by rw [decide_eq_false_iff_not]; exact hgt
                      have HGT := Lib.hid hgt
                      clear hgt
                      go_wp2_with fail
                      try rw [hW1]
                      clear hW1
                      go_quiet (fail)
                      go_wp2
                      go_roundw
                      case rel =>
                        refine ⟨k2 + 1, by omega, by go_num, HB2.out.trans (below_drewN_n _ _ _), fun j2 hj2 => ?_⟩
                        rcases (show j2 < k2 ∨ j2 = k2 by omega) with h | rfl
                        · exact HOK.out j2 h
                        · exact HLK.out.2 fun _ => ⟨by have := HXX.out; omega, by have := HGT.out; omega⟩
                      case measure => simp [intOf]; omega
              · obtain rfl : k2 = ls.length := by omega
                have hfe : feas q ls k pots = true := by
                  rw [feas_iff]
                  refine ⟨by rw [HL.out], HLO.out, HPT.out, fun x hx => ?_⟩
                  obtain ⟨j2, hj2, rfl⟩ := List.mem_iff_getElem.1 hx
                  rw [← lk_get hj2]; exact HOK.out j2 hj2
                have hr3 := (ver_yes (path := path) HQ.out hfe).symm.trans HR.out
                have hjp : j < pots.length := by have := HL.out; omega
                obtain ⟨b', o', e', _, p1⟩ := HX.out.elem hjp
                cases e'
                rw [← pt_get hjp] at p1
                obtain ⟨z, hz⟩ : ∃ z, pt pots j = z := ⟨_, rfl⟩
                rw [hz] at hr3 p1
                have HR3 := Lib.hid hr3
                have HBK := Lib.hid hB
                have HP1 := Lib.hid p1
                have hj0 : (0 : Int) ≤ (j : Int) := by omega
                have hj1 : (j : Int) < (pots.length : Int) := by omega
                clear hfe hr3 hz hB HOK HR p1
                go_wp2_with fail
                go_loopw [20, 18, 19] (fun i a c wr => ∃ (k3 : Nat) (cost node : Int), k3 ≤ path.length ∧ i = .int .i64 k3 ∧ c = intV cost ∧ a = intV node ∧ 0 ≤ cost ∧ cost ≤ k3 * 1073741824 ∧ walkA ls node cost (path.drop k3) = walkA ls j 0 path ∧ Below w.heap.size w wr) (fun i _ _ _ => path.length - (intOf i).toNat)
                case atStart => exact ⟨0, 0, j, Nat.zero_le _, rfl, rfl, rfl, Int.le_refl _, by omega, rfl, HBK.out⟩
                case round =>
                  obtain ⟨k3, cost, node, hk3, rfl, rfl, rfl, hc0, hc1, he, hB⟩ := hrel
                  obtain ⟨w3, rfl⟩ : ∃ x, x = wr := ⟨_, rfl⟩
                  by_cases hlt3 : k3 < path.length
                  · obtain ⟨bp, op, rfl, hbp, q1⟩ := HU.out.elem hlt3
                    rw [List.drop_eq_getElem_cons hlt3, walkA] at he
                    obtain ⟨i, hi⟩ : ∃ i, path[k3] = i := ⟨_, rfl⟩
                    rw [hi] at q1 he
                    have c1 := (hB.cell (p := ⟨bp, op + k3, none⟩) hbp).trans q1
                    have HB3 := Lib.hid hB
                    clear hi q1 hB
                    by_cases h1 : i < 0
                    · rw [if_neg (by omega)] at he
                      have HE := Lib.hid he.symm
                      clear he
                      go_wp2
                      go_ret
                      exact ⟨ret_int (by rw [← HR3.out, HE.out, if_neg (by simp)]), HB3.out⟩
                    by_cases h2 : (ls.length : Int) ≤ i
                    · rw [if_neg (by omega)] at he
                      have HE := Lib.hid he.symm
                      clear he
                      go_wp2
                      go_ret
                      exact ⟨ret_int (by rw [← HR3.out, HE.out, if_neg (by simp)]), HB3.out⟩
                    obtain ⟨jj, rfl⟩ : ∃ j : Nat, i = j := ⟨i.toNat, by omega⟩
                    have hjj : jj < ls.length := by omega
                    have hji : (jj : Int) < (ls.length : Int) := by omega
                    have hj00 : (0 : Int) ≤ (jj : Int) := by omega
                    have hk30 : (0 : Int) ≤ (k3 : Int) := by omega
                    have hk31 : (k3 : Int) < (path.length : Int) := by omega
                    obtain ⟨bl, ol, rfl, hbl, p1, p2, p3⟩ := HV.out.elem hjj
                    have hk0 := (HG.out.lk hjj).c0
                    have hk1 := (HG.out.lk hjj).c1
                    rw [Int.toNat_natCast] at he
                    obtain ⟨⟨f, t', c⟩, hx⟩ : ∃ x, lk ls jj = x := ⟨_, rfl⟩
                    rw [hx] at p1 p2 p3 hk0 hk1 he
                    dsimp only at p1 p2 p3 hk0 hk1 he
                    have e1 := (HB3.out.cell (p := ⟨bl, ol + jj * 3, none⟩) hbl).trans p1
                    have e2 := (HB3.out.cell (p := ⟨bl, ol + jj * 3 + 1, none⟩) hbl).trans p2
                    have e3 := (HB3.out.cell (p := ⟨bl, ol + jj * 3 + 2, none⟩) hbl).trans p3
                    clear hx p1 p2 p3
                    by_cases h3 : f = node
                    · rw [if_pos ⟨by omega, by omega, h3⟩] at he
                      subst h3
                      have HE := Lib.hid he
                      have hwr : IntKind.i64.wrap (cost + c) = cost + c := IntWalk.i64_in _ (by omega)
                      clear he
                      go_wp2_with fail
                      go_quiet (fail)
                      go_wp2
                      go_roundw
                      case rel => exact ⟨k3 + 1, cost + c, t', by omega, by go_num, rfl, rfl, by omega, by omega, HE.out, HB3.out.trans (below_drewN_n _ _ _)⟩
                      case measure => simp [intOf]; omega
                    · rw [if_neg (by omega)] at he
                      have hb3 : (f != node) = true := by rw [bne_iff_ne]; exact h3
                      have HE := Lib.hid he.symm
                      clear he
                      go_wp2
                      go_ret
                      exact ⟨ret_int (by rw [← HR3.out, HE.out, if_neg (by simp)]), HB3.out⟩
                  · obtain rfl : k3 = path.length := by omega
                    rw [List.drop_length, walkA] at he
                    have HE := Lib.hid he.symm
                    have c1 := (hB.cell (p := ⟨bx, ox + j, none⟩) hbx).trans HP1.out
                    have HB3 := Lib.hid hB
                    clear he hB
                    by_cases h1 : node = k
                    · subst h1
                      by_cases h2 : cost = z
                      · subst h2
                        go_wp2
                        go_ret
                        exact ⟨ret_int (by rw [← HR3.out, HE.out, if_pos rfl]), HB3.out⟩
                      · have hb2 : (cost != z) = true := by rw [bne_iff_ne]; exact h2
                        have HN := Lib.hid h2
                        clear h2
                        go_wp2
                        go_ret
                        exact ⟨ret_int (by rw [← HR3.out, HE.out, if_neg (fun h => HN.out (by simpa using h))]), HB3.out⟩
                    · have hb2 : (node != (k : Int)) = true := by rw [bne_iff_ne]; exact h1
                      have HN := Lib.hid h1
                      clear h1
                      go_wp2
                      go_ret
                      exact ⟨ret_int (by rw [← HR3.out, HE.out, if_neg (fun h => HN.out (by simp at h; exact h.1))]), HB3.out⟩
      · have hb : (pT != 0) = true := by rw [bne_iff_ne]; exact h2
        have HN0 := Lib.hid h2
        clear h2
        go_enter Try.func21, Try.ntmps21
        go_wp2_with fail
        refine HC.out.mono ?_
        rintro e w1 ⟨rfl, hB⟩
        have d1 := (hB.cell (p := ⟨bx, ox + k, none⟩) hbx).trans c1
        have HB1 := Lib.hid hB
        clear hB c1
        go_wp2_with fail
        go_ret
        exact ⟨ret_int (by rw [← HR.out]; exact (ver_no HQ.out fun h => HN0.out (by rw [← HPT.out]; exact (feas_iff.1 h.1).2.2.1)).symm), HB1.out⟩
    · obtain ⟨ax, cx, rfl⟩ := hx.slice
      have hli : ((pots.length : Int) != (m : Int)) = true := by rw [bne_iff_ne]; omega
      have HL := Lib.hid hlen
      clear hx hlen
      go_enter Try.func21, Try.ntmps21
      go_wp2_with fail
      refine HC.out.mono ?_
      rintro e w1 ⟨rfl, hB⟩
      have HB1 := Lib.hid hB
      clear hB
      go_wp2_with fail
      go_ret
      exact ⟨ret_int (by rw [← HR.out]; exact (ver_no HQ.out fun h => HL.out (by have := (feas_iff.1 h.1).1; omega)).symm), HB1.out⟩
  · obtain ⟨ax, cx, rfl⟩ := hx.slice
    rw [verR, hq] at hr
    have HR := Lib.hid hr
    clear hv hu hx hr hq
    have hb : (q != 0) = true := by rw [bne_iff_ne]; exact h0
    go_enter Try.func21, Try.ntmps21
    go_wp2_with fail
    refine HC.out.mono ?_
    rintro e w1 ⟨rfl, hB⟩
    have HB1 := Lib.hid hB
    clear hB
    go_wp2
    go_ret
    exact ⟨ret_int (HR.out.symm.trans (by rw [if_pos h0])).symm, HB1.out⟩
end Go.Proofs.Ytipcelgoachjjaa
