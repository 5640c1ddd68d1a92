/- The law DagLongest. -/
import Derived.Test.YtipcelgoachjjaaDgLaw
namespace Go.Proofs.Ytipcelgoachjjaa
set_option linter.unusedSimpArgs false
set_option linter.unusedVariables false
set_option maxRecDepth 100000
open Go.RowKit Go.Deep

set_option maxHeartbeats 8000000 in
theorem dagLongest_any (w : World) (n : Int) (v : Value) (ls : List LkV) (s t : Int) (hn : (Lit.int .i64 n).wf = true) (hv : LinksAt w v ls) (hl : ls.length ≤ maxLen) (hs : (Lit.int .u8 s).wf = true) (ht : (Lit.int .u8 t).wf = true) :
    Calls Try.prog 9 #[intV n, v, u8V s, u8V t] w fun e w' => e = .returned (.bool true) ∧ Below w.heap.size w w' := by
  have ht := wf_u8 ht
  have hs := wf_u8 hs
  have HV := Lib.hid hv
  cases hok : okR n ls with
  | false =>
    have HF := Lib.hid (fine_no n ls s t hs ht v w hv hl hok)
    obtain ⟨av, cv, rfl⟩ := hv.slice
    clear hn hv hl ht hok
    go_enter Try.func9, Try.ntmps9
    go_wp2_with fail
    refine HF.out.mono ?_
    rintro e w1 ⟨rfl, b1⟩
    have B1 := Lib.hid b1
    clear b1
    go_wp2_with fail
    refine (awake_any _).mono ?_
    rintro e w2 ⟨rfl, b2⟩
    have B2 := Lib.hid (below_then B1.out b2)
    clear b2
    go_wp2
    go_ret
    exact ⟨rfl, B2.out⟩
  | true =>
    have HF := Lib.hid (fine_yes n ls s t hs ht v w hv hl hok)
    obtain ⟨hgr, hc⟩ := okR_spec hok
    have hb := node_of hc ht
    have ha := node_of hc hs
    obtain ⟨av, cv, rfl⟩ := hv.slice
    obtain ⟨m, rfl, hsm⟩ := small_of hgr hc
    obtain ⟨k, hk, hkm⟩ := nat_of hb
    obtain ⟨j, hj, hjm⟩ := nat_of ha
    rw [hk] at hb HF
    rw [hj] at ha HF
    have HS := Lib.hid (sho_ok hc ha hb)
    have HL := Lib.hid (lon_ok hc ha hb)
    have HLO := Lib.hid (fun g (hg : inN m g) => lon_ok hc hg hb)
    have HGR := Lib.hid hgr
    have HC := Lib.hid hc
    have HSM := Lib.hid hsm
    have HLH := Lib.hid (low_high hsm.g (t := (k : Int)) (s := (j : Int)))
    have hm8 := hsm.n8
    have hl14 := hsm.l14
    clear hn hv hl ht hs hok hgr hc hb ha hk hj hsm
    obtain ⟨A, hA⟩ : ∃ x, most ls k j = x := ⟨_, rfl⟩
    obtain ⟨D, hD⟩ : ∃ x, least ls k j = x := ⟨_, rfl⟩
    have HA := Lib.hid hA
    rw [hA, hD] at HLH
    rw [hA] at HL
    rw [hD] at HS
    clear hA hD
    by_cases hA1 : A = -1
    · have HD := Lib.hid (show D = -1 by rcases HLH.out with h | h <;> omega)
      have hjk : j ≠ k := fun e => by
        subst e
        have := HA.out
        rw [most_end] at this; omega
      have hjk2 : ((j : Int) == (k : Int)) = false := beq_eq_false_iff_ne.2 (by omega)
      have HOUT := Lib.hid (show mostO ls k (out ls j) = -1 by rw [← most_rec HSM.out.g.up (by omega), HA.out]; exact hA1)
      have HA1 := Lib.hid hA1
      clear hA1
      go_enter Try.func9, Try.ntmps9
      go_wp2_with fail
      refine HF.out.mono ?_
      rintro e w1 ⟨rfl, b1⟩
      have B1 := Lib.hid b1
      clear b1
      go_wp2_with fail
      refine (Longest_any m ls j k _ w1 (HV.out.below B1.out) HGR.out (0, 6) (by rw [HL.out, if_pos HA1.out])).mono ?_
      rintro e w2 ⟨rfl, b2⟩
      have B2 := Lib.hid (below_then B1.out b2)
      clear b2
      go_wp2_with fail
      refine (Shortest_any m ls j k _ w2 (HV.out.below B2.out) HGR.out ([], 0, 6) (by rw [HS.out, if_pos HD.out])).mono ?_
      rintro e w3 ⟨v3, rfl, i3, b3⟩
      have B3 := Lib.hid (below_then B2.out b3)
      obtain ⟨a3, c3, rfl⟩ := i3.slice
      clear b3 i3
      go_wp2_with fail
      go_loopw [77, 17] (fun i bst wr => ∃ q : Nat, q ≤ ls.length ∧ i = .int .i64 q ∧ bst = intV (mostO ls k (selN q (lv ls j))) ∧ Below w.heap.size w wr) (fun i _ _ => ls.length - (intOf i).toNat)
      case atStart => exact ⟨0, Nat.zero_le _, rfl, rfl, B3.out⟩
      case round =>
        obtain ⟨q, hq, rfl, rfl, hB⟩ := hrel
        obtain ⟨wq, rfl⟩ : ∃ x, x = wr := ⟨_, rfl⟩
        by_cases hlt : q < ls.length
        · obtain ⟨bl, ol, rfl, hbb, q1, q2, q3⟩ := HV.out.elem hlt
          have hok := HSM.out.g.lk hlt
          obtain ⟨g, hg⟩ : ∃ g : Nat, (lk ls q).t = g := ⟨(lk ls q).t.toNat, by have := hok.t0; omega⟩
          obtain ⟨f, hf⟩ : ∃ f, (lk ls q).f = f := ⟨_, rfl⟩
          obtain ⟨c, hc⟩ : ∃ c, (lk ls q).c = c := ⟨_, rfl⟩
          have hc0 := hok.c0
          have hc1 := hok.c1
          have hgk := hok.t1
          have HSEL := Lib.hid (selN_succ q (lv ls j))
          have HLV := Lib.hid (show lv ls j q = decide (f = j) by rw [lv, hf])
          have HSN := Lib.hid (mostO_snoc HSM.out.g k (selN q (lv ls j)) hlt)
          rw [hc] at hc0 hc1 HSN
          rw [hg] at hgk HSN
          obtain ⟨W1, hW1⟩ : ∃ W1, wq.alloc (.cells #[intV f, intV g, intV c] 52) = W1 := ⟨_, rfl⟩
          have hB1 : Below w.heap.size w W1 := by rw [← hW1]; exact hB.alloc hB.size _
          have c1 := (hB.cell (p := ⟨bl, ol + q * 3, none⟩) hbb).trans q1
          have c2 := (hB.cell (p := ⟨bl, ol + q * 3 + 1, none⟩) hbb).trans q2
          have c3 := (hB.cell (p := ⟨bl, ol + q * 3 + 2, none⟩) hbb).trans q3
          rw [hf] at c1
          rw [hg] at c2
          rw [hc] at c3
          have d1 : W1.cell? ⟨wq.heap.size, 0, none⟩ = some (intV f) := by rw [← hW1, World.cell?_alloc_new]; rfl
          have d2 : W1.cell? ⟨wq.heap.size, 1, none⟩ = some (intV g) := by rw [← hW1, World.cell?_alloc_new]; rfl
          have d3 : W1.cell? ⟨wq.heap.size, 2, none⟩ = some (intV c) := by rw [← hW1, World.cell?_alloc_new]; rfl
          have hltW : wq.heap.size < W1.heap.size := by rw [← hW1]; simp
          have HB1 := Lib.hid hB1
          have HD3 := Lib.hid (show ∀ X, Below W1.heap.size W1 X → X.cell? ⟨wq.heap.size, 2, none⟩ = some (intV c) from fun X h => (h.cell (p := ⟨wq.heap.size, 2, none⟩) hltW).trans d3)
          have HIN := Lib.hid (show inN m g from ⟨by omega, hgk⟩)
          clear q1 q2 q3 hf hg hc hok hB hB1 hltW
          by_cases hfs : f = j
          · subst hfs
            have hlv : lv ls j q = true := by rw [HLV.out]; simp
            have HSEL2 := Lib.hid (show selN (q + 1) (lv ls j) = selN q (lv ls j) ++ [q] by rw [HSEL.out, if_pos hlv])
            have HG := Lib.hid (HLO.out g HIN.out)
            have HHI := Lib.hid (fun h => HSM.out.high (t := (k : Int)) (s := (g : Int)) (by omega) (by omega) h)
            obtain ⟨x, hx⟩ : ∃ x, most ls k g = x := ⟨_, rfl⟩
            obtain ⟨z, hz⟩ : ∃ x, mostO ls k (selN q (lv ls j)) = x := ⟨_, rfl⟩
            rw [hx] at HG HHI HSN
            rw [hz] at HSN ⊢
            have HZ := Lib.hid hz
            clear hlv hx hz
            by_cases hx1 : x = -1
            · have HX1 := Lib.hid hx1
              have HNX := Lib.hid (show mostO ls k (selN (q + 1) (lv ls j)) = z by rw [HSEL2.out, HSN.out, if_pos hx1])
              clear hx1
              go_wp2_with fail
              try rw [hW1]
              refine (Longest_any m ls g k _ W1 (HV.out.below HB1.out) HGR.out (0, 6) (by rw [HG.out, if_pos HX1.out])).mono ?_
              rintro e w5 ⟨rfl, b5⟩
              have B5 := Lib.hid (below_then HB1.out b5)
              clear b5
              go_wp2
              go_roundw
              case rel => exact ⟨q + 1, by omega, by go_num, by rw [HNX.out], B5.out⟩
              case measure => simp [intOf]; omega
            · obtain ⟨hx0, hx9⟩ := HHI.out hx1
              have HX1 := Lib.hid hx1
              have HNX := Lib.hid (show mostO ls k (selN (q + 1) (lv ls j)) = max z (c + x) by rw [HSEL2.out, HSN.out, if_neg hx1])
              clear hx1
              go_wp2_with fail
              try rw [hW1]
              refine (Longest_any m ls g k _ W1 (HV.out.below HB1.out) HGR.out (x, 0) (by rw [HG.out, if_neg HX1.out])).mono ?_
              rintro e w5 ⟨rfl, b5⟩
              have B5 := Lib.hid (below_then HB1.out b5)
              have d5 := HD3.out w5 b5
              clear b5
              by_cases hzx : z ≤ c + x
              · have HMX := Lib.hid (show mostO ls k (selN (q + 1) (lv ls j)) = c + x by rw [HNX.out]; omega)
                go_wp2
                all_goals
                  go_roundw
                  case rel => exact ⟨q + 1, by omega, by go_num, by rw [HMX.out]; first | rfl | (congr 1; omega), B5.out⟩
                  case measure => simp [intOf]; omega
              · have HMX := Lib.hid (show mostO ls k (selN (q + 1) (lv ls j)) = z by rw [HNX.out]; omega)
                go_wp2
                all_goals
                  go_roundw
                  case rel => exact ⟨q + 1, by omega, by go_num, by rw [HMX.out]; first | rfl | (congr 1; omega), B5.out⟩
                  case measure => simp [intOf]; omega
          · have hlv : lv ls j q = false := by rw [HLV.out]; simpa using hfs
            have HSEL2 := Lib.hid (show selN (q + 1) (lv ls j) = selN q (lv ls j) by rw [HSEL.out, if_neg (by rw [hlv]; simp)])
            have hb1 : (f != (j : Int)) = true := by rw [bne_iff_ne]; exact hfs
            clear hlv hfs
            go_wp2_with fail
            go_roundw
            case rel => exact ⟨q + 1, by omega, by go_num, by rw [HSEL2.out], by first | exact HB1.out | (rw [hW1]; exact HB1.out)⟩
            case measure => simp [intOf]; omega
        · obtain rfl : q = ls.length := by omega
          have BQ := Lib.hid hB
          clear hB
          have he : mostO ls k (selN ls.length (lv ls j)) = -1 := HOUT.out
          rw [he]
          clear he
          go_wp2_with fail
          refine (awake_any _).mono ?_
          rintro e w4 ⟨rfl, b4⟩
          have B4 := Lib.hid (below_then BQ.out b4)
          clear b4
          go_wp2
          go_ret
          exact ⟨rfl, B4.out⟩
    · have HD := Lib.hid (show D ≠ -1 by rcases HLH.out with h | h <;> omega)
      have hAD : D ≤ A := by rcases HLH.out with h | h <;> omega
      have hD0 : 0 ≤ D := by rcases HLH.out with h | h <;> omega
      have HA1 := Lib.hid hA1
      clear hA1
      by_cases hjk : j = k
      · subst hjk
        have hA0 : A = 0 := by have := HA.out; rw [most_end] at this; omega
        subst hA0
        go_enter Try.func9, Try.ntmps9
        go_wp2_with fail
        refine HF.out.mono ?_
        rintro e w1 ⟨rfl, b1⟩
        have B1 := Lib.hid b1
        clear b1
        go_wp2_with fail
        refine (Longest_any m ls j j _ w1 (HV.out.below B1.out) HGR.out (0, 0) (by rw [HL.out, if_neg HA1.out])).mono ?_
        rintro e w2 ⟨rfl, b2⟩
        have B2 := Lib.hid (below_then B1.out b2)
        clear b2
        go_wp2_with fail
        refine (Shortest_any m ls j j _ w2 (HV.out.below B2.out) HGR.out (toI (first ls j j), D, 0) (by rw [HS.out, if_neg HD.out])).mono ?_
        rintro e w3 ⟨v3, rfl, i3, b3⟩
        have B3 := Lib.hid (below_then B2.out b3)
        obtain ⟨a3, c3, rfl⟩ := i3.slice
        clear b3 i3
        go_wp2_with fail
        refine (awake_any _).mono ?_
        rintro e w4 ⟨rfl, b4⟩
        have B4 := Lib.hid (below_then B3.out b4)
        clear b4
        go_wp2
        go_ret
        exact ⟨rfl, B4.out⟩
      · have hjk2 : ((j : Int) == (k : Int)) = false := beq_eq_false_iff_ne.2 (by omega)
        have HOUT := Lib.hid (show mostO ls k (out ls j) = A by rw [← most_rec HSM.out.g.up (by omega), HA.out])
        have hA0 : 0 ≤ A := by omega
        go_enter Try.func9, Try.ntmps9
        go_wp2_with fail
        refine HF.out.mono ?_
        rintro e w1 ⟨rfl, b1⟩
        have B1 := Lib.hid b1
        clear b1
        go_wp2_with fail
        refine (Longest_any m ls j k _ w1 (HV.out.below B1.out) HGR.out (A, 0) (by rw [HL.out, if_neg HA1.out])).mono ?_
        rintro e w2 ⟨rfl, b2⟩
        have B2 := Lib.hid (below_then B1.out b2)
        clear b2
        go_wp2_with fail
        refine (Shortest_any m ls j k _ w2 (HV.out.below B2.out) HGR.out (toI (first ls k j), D, 0) (by rw [HS.out, if_neg HD.out])).mono ?_
        rintro e w3 ⟨v3, rfl, i3, b3⟩
        have B3 := Lib.hid (below_then B2.out b3)
        obtain ⟨a3, c3, rfl⟩ := i3.slice
        clear b3 i3
        go_wp2_with fail
        go_loopw [77, 17] (fun i bst wr => ∃ q : Nat, q ≤ ls.length ∧ i = .int .i64 q ∧ bst = intV (mostO ls k (selN q (lv ls j))) ∧ Below w.heap.size w wr) (fun i _ _ => ls.length - (intOf i).toNat)
        case atStart => exact ⟨0, Nat.zero_le _, rfl, rfl, B3.out⟩
        case round =>
          obtain ⟨q, hq, rfl, rfl, hB⟩ := hrel
          obtain ⟨wq, rfl⟩ : ∃ x, x = wr := ⟨_, rfl⟩
          by_cases hlt : q < ls.length
          · obtain ⟨bl, ol, rfl, hbb, q1, q2, q3⟩ := HV.out.elem hlt
            have hok := HSM.out.g.lk hlt
            obtain ⟨g, hg⟩ : ∃ g : Nat, (lk ls q).t = g := ⟨(lk ls q).t.toNat, by have := hok.t0; omega⟩
            obtain ⟨f, hf⟩ : ∃ f, (lk ls q).f = f := ⟨_, rfl⟩
            obtain ⟨c, hc⟩ : ∃ c, (lk ls q).c = c := ⟨_, rfl⟩
            have hc0 := hok.c0
            have hc1 := hok.c1
            have hgk := hok.t1
            have HSEL := Lib.hid (selN_succ q (lv ls j))
            have HLV := Lib.hid (show lv ls j q = decide (f = j) by rw [lv, hf])
            have HSN := Lib.hid (mostO_snoc HSM.out.g k (selN q (lv ls j)) hlt)
            rw [hc] at hc0 hc1 HSN
            rw [hg] at hgk HSN
            obtain ⟨W1, hW1⟩ : ∃ W1, wq.alloc (.cells #[intV f, intV g, intV c] 52) = W1 := ⟨_, rfl⟩
            have hB1 : Below w.heap.size w W1 := by rw [← hW1]; exact hB.alloc hB.size _
            have c1 := (hB.cell (p := ⟨bl, ol + q * 3, none⟩) hbb).trans q1
            have c2 := (hB.cell (p := ⟨bl, ol + q * 3 + 1, none⟩) hbb).trans q2
            have c3 := (hB.cell (p := ⟨bl, ol + q * 3 + 2, none⟩) hbb).trans q3
            rw [hf] at c1
            rw [hg] at c2
            rw [hc] at c3
            have d1 : W1.cell? ⟨wq.heap.size, 0, none⟩ = some (intV f) := by rw [← hW1, World.cell?_alloc_new]; rfl
            have d2 : W1.cell? ⟨wq.heap.size, 1, none⟩ = some (intV g) := by rw [← hW1, World.cell?_alloc_new]; rfl
            have d3 : W1.cell? ⟨wq.heap.size, 2, none⟩ = some (intV c) := by rw [← hW1, World.cell?_alloc_new]; rfl
            have hltW : wq.heap.size < W1.heap.size := by rw [← hW1]; simp
            have HB1 := Lib.hid hB1
            have HD3 := Lib.hid (show ∀ X, Below W1.heap.size W1 X → X.cell? ⟨wq.heap.size, 2, none⟩ = some (intV c) from fun X h => (h.cell (p := ⟨wq.heap.size, 2, none⟩) hltW).trans d3)
            have HIN := Lib.hid (show inN m g from ⟨by omega, hgk⟩)
            clear q1 q2 q3 hf hg hc hok hB hB1 hltW
            by_cases hfs : f = j
            · subst hfs
              have hlv : lv ls j q = true := by rw [HLV.out]; simp
              have HSEL2 := Lib.hid (show selN (q + 1) (lv ls j) = selN q (lv ls j) ++ [q] by rw [HSEL.out, if_pos hlv])
              have HG := Lib.hid (HLO.out g HIN.out)
              have HHI := Lib.hid (fun h => HSM.out.high (t := (k : Int)) (s := (g : Int)) (by omega) (by omega) h)
              obtain ⟨x, hx⟩ : ∃ x, most ls k g = x := ⟨_, rfl⟩
              obtain ⟨z, hz⟩ : ∃ x, mostO ls k (selN q (lv ls j)) = x := ⟨_, rfl⟩
              rw [hx] at HG HHI HSN
              rw [hz] at HSN ⊢
              have HZ := Lib.hid hz
              clear hlv hx hz
              by_cases hx1 : x = -1
              · have HX1 := Lib.hid hx1
                have HNX := Lib.hid (show mostO ls k (selN (q + 1) (lv ls j)) = z by rw [HSEL2.out, HSN.out, if_pos hx1])
                clear hx1
                go_wp2_with fail
                try rw [hW1]
                refine (Longest_any m ls g k _ W1 (HV.out.below HB1.out) HGR.out (0, 6) (by rw [HG.out, if_pos HX1.out])).mono ?_
                rintro e w5 ⟨rfl, b5⟩
                have B5 := Lib.hid (below_then HB1.out b5)
                clear b5
                go_wp2
                go_roundw
                case rel => exact ⟨q + 1, by omega, by go_num, by rw [HNX.out], B5.out⟩
                case measure => simp [intOf]; omega
              · obtain ⟨hx0, hx9⟩ := HHI.out hx1
                have HX1 := Lib.hid hx1
                have HNX := Lib.hid (show mostO ls k (selN (q + 1) (lv ls j)) = max z (c + x) by rw [HSEL2.out, HSN.out, if_neg hx1])
                clear hx1
                go_wp2_with fail
                try rw [hW1]
                refine (Longest_any m ls g k _ W1 (HV.out.below HB1.out) HGR.out (x, 0) (by rw [HG.out, if_neg HX1.out])).mono ?_
                rintro e w5 ⟨rfl, b5⟩
                have B5 := Lib.hid (below_then HB1.out b5)
                have d5 := HD3.out w5 b5
                clear b5
                by_cases hzx : z ≤ c + x
                · have HMX := Lib.hid (show mostO ls k (selN (q + 1) (lv ls j)) = c + x by rw [HNX.out]; omega)
                  go_wp2
                  all_goals
                    go_roundw
                    case rel => exact ⟨q + 1, by omega, by go_num, by rw [HMX.out]; first | rfl | (congr 1; omega), B5.out⟩
                    case measure => simp [intOf]; omega
                · have HMX := Lib.hid (show mostO ls k (selN (q + 1) (lv ls j)) = z by rw [HNX.out]; omega)
                  go_wp2
                  all_goals
                    go_roundw
                    case rel => exact ⟨q + 1, by omega, by go_num, by rw [HMX.out]; first | rfl | (congr 1; omega), B5.out⟩
                    case measure => simp [intOf]; omega
            · have hlv : lv ls j q = false := by rw [HLV.out]; simpa using hfs
              have HSEL2 := Lib.hid (show selN (q + 1) (lv ls j) = selN q (lv ls j) by rw [HSEL.out, if_neg (by rw [hlv]; simp)])
              have hb1 : (f != (j : Int)) = true := by rw [bne_iff_ne]; exact hfs
              clear hlv hfs
              go_wp2_with fail
              go_roundw
              case rel => exact ⟨q + 1, by omega, by go_num, by rw [HSEL2.out], by first | exact HB1.out | (rw [hW1]; exact HB1.out)⟩
              case measure => simp [intOf]; omega
          · obtain rfl : q = ls.length := by omega
            have BQ := Lib.hid hB
            clear hB
            have he : mostO ls k (selN ls.length (lv ls j)) = A := HOUT.out
            rw [he]
            have hAn : ¬ A < 0 := by omega
            clear he
            go_wp2_with fail
            refine (awake_any _).mono ?_
            rintro e w4 ⟨rfl, b4⟩
            have B4 := Lib.hid (below_then BQ.out b4)
            clear b4
            go_wp2
            go_ret
            exact ⟨rfl, B4.out⟩
end Go.Proofs.Ytipcelgoachjjaa
