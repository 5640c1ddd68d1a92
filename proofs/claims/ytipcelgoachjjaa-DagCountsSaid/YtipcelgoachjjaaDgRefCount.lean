/- The reference's Count. -/
import Derived.Deep.RegionLaw
import Derived.Test.YtipcelgoachjjaaDgToW
namespace Go.Proofs.Ytipcelgoachjjaa
set_option linter.unusedSimpArgs false
set_option linter.unusedVariables false
set_option maxRecDepth 100000
open Go.RowKit Go.Deep

set_option maxHeartbeats 4000000 in
theorem refCount_any (n : Int) (ls : List LkV) (s t : Int) (v : Value) (w : World) (hv : LinksAt w v ls) (hgr : greatR n ls = false) (r : Int × Int) (hr : cntR n ls s t = r) :
    Calls Try.prog 23 #[intV n, v, intV s, intV t] w fun e w' => e = .returned (.tuple #[intV r.1, intV r.2]) ∧ Below w.heap.size w w' := by
  have HV := Lib.hid hv
  have hl := great_len hgr
  obtain ⟨q, hq⟩ : ∃ q, nodesR n ls [s, t] = q := ⟨_, rfl⟩
  have HC := Lib.hid (refNodes_any n ls s t v _ hv (by unfold maxLen; omega) q hq)
  obtain ⟨av, cv, rfl⟩ := hv.slice
  rw [cntR, hq] at hr
  have HR := Lib.hid hr
  clear hv hr
  by_cases h0 : q = 0
  · subst h0
    obtain ⟨hc, hin⟩ := nodes_zero hq
    obtain ⟨k, rfl, hs⟩ := small_of hgr hc
    obtain ⟨t, rfl, ht⟩ := nat_of (hin t (by simp))
    obtain ⟨j, rfl, hj⟩ := nat_of (hin s (by simp))
    have HS := Lib.hid hs
    have hk8 := hs.n8
    have HF := Lib.hid (fold_n hs.g (t : Int))
    have HNP := Lib.hid (fun s => npaths_small hs.g hs.l14 (t : Int) s)
    have HNO := Lib.hid (fun l hl => nO_small hs.g hs.l14 (t : Int) l hl)
    have hmk := run_make_row' (P := Try.prog) 23 3 (intV 0) 8 rfl info_int rfl
    have hmk1 := fun W => hmk .i64 .i64 k (by omega) (by omega) W
    have HRR := Lib.hid (HR.out.symm.trans (if_neg (by decide)))
    clear hq hc hin hs hgr hmk HR
    go_enter Try.func23, Try.ntmps23
    go_wp2_with fail
    refine HC.out.mono ?_
    rintro e w1 ⟨rfl, hB⟩
    obtain ⟨R, hR⟩ : ∃ R, w1.heap.size = R := ⟨_, rfl⟩
    have hrow := RowN.of_row (World.rowIs_made w1 (intV 0) k 3)
    obtain ⟨wa, hwa⟩ : ∃ x, w1.alloc (.cells (madeCells #[intV 0] k) 3) = x := ⟨_, rfl⟩
    have hBa : Below w.heap.size w wa := by rw [← hwa]; exact hB.alloc hB.size _
    have hRw : w.heap.size ≤ R := by rw [← hR]; exact hB.size
    rw [hwa, hR] at hrow
    have hc := hrow.cell ht
    have hf := hrow.frozen t
    have htk : (0 : Int) ≤ (t : Int) := by omega
    have htl : (t : Int) < (k : Int) := by omega
    have HROW := Lib.hid (hrow.set t (intV 1))
    have HBR := Lib.hid (hBa.setCell (p := ⟨R, t, none⟩) hRw (intV 1))
    clear hB hrow hBa
    go_wp2_with fail
    clear hc hf hmk1
    obtain ⟨w0, hw0⟩ : ∃ x, wa.setCell ⟨R, t, none⟩ (intV 1) = x := ⟨_, rfl⟩
    have hw0' : wa.setCell ⟨R, t, none⟩ (Value.int .i64 1) = w0 := hw0
    rw [hw0] at HROW HBR
    try rw [hw0']
    obtain ⟨T, hT⟩ : ∃ T : Int → Int, (fun s => (npaths ls t s : Int)) = T := ⟨_, rfl⟩
    obtain ⟨acc, hacc⟩ : ∃ T : List Nat → Int, (fun l => (nO ls t l : Int)) = T := ⟨_, rfl⟩
    have HT := Lib.hid (show ∀ s, 0 ≤ T s ∧ T s ≤ 16384 by rw [← hT]; exact fun s => by show 0 ≤ (npaths ls t s : Int) ∧ (npaths ls t s : Int) ≤ 16384; have := HNP.out s; omega)
    have HA := Lib.hid (show ∀ l, l.length ≤ 14 → 0 ≤ acc l ∧ acc l ≤ 229376 by rw [← hacc]; exact fun l hl => by show 0 ≤ (nO ls t l : Int) ∧ (nO ls t l : Int) ≤ 229376; have := HNO.out l hl; omega)
    have HST := Lib.hid (show ∀ l i, acc (l ++ [i]) = acc l + T (lk ls i).t by rw [← hacc, ← hT]; exact fun l i => by show ((nO ls t (l ++ [i]) : Nat) : Int) = (nO ls t l : Int) + (npaths ls t (lk ls i).t : Int); rw [nO_snoc]; omega)
    have HRT := Lib.hid (show r = (T j, 0) by rw [← hT]; exact HRR.out)
    rw [hT, hacc] at HF
    have HR0 := Lib.hid (show RowN w0 R 3 k (valsF T acc 0 ((t : Int) - 1) []) from HROW.out.congr fun j hj => by
      unfold valsF
      by_cases e : j = t
      · subst e; rw [if_pos rfl, if_pos (by omega), HF.out.fin]
      · rw [if_neg e]
        by_cases e2 : t < j
        · rw [if_pos (by omega), HF.out.high j (by omega)]
        · rw [if_neg (by omega)]
          split
          · rw [HF.out.nil]
          · rfl)
    clear hw0 hw0' HROW hwa hT hacc HRR HNP HNO hR
    go_loopw [12] (fun i wr => ∃ m : Nat, m ≤ t ∧ i = intV ((m : Int) - 1) ∧ Below w.heap.size w wr ∧ RowN wr R 3 k (valsF T acc 0 ((m : Int) - 1) [])) (fun i _ => (intOf i + 1).toNat)
    case atStart => exact ⟨t, Nat.le_refl _, rfl, HBR.out, HR0.out⟩
    case round =>
      obtain ⟨m, hm, rfl, hB, hrow⟩ := hrel
      obtain ⟨wk2, rfl⟩ : ∃ x, x = wr := ⟨_, rfl⟩
      cases m with
      | zero =>
        have c1 := hrow.cell hj
        rw [valsF, if_pos (by omega)] at c1
        have hj0 : (0 : Int) ≤ (j : Int) := by omega
        have hj1 : (j : Int) < (k : Int) := by omega
        clear hrow
        go_wp2
        go_ret2
        exact ⟨ret_of2 HRT.out, hB⟩
      | succ s =>
        rw [show ((s + 1 : Nat) : Int) - 1 = (s : Int) by omega] at hrow ⊢
        have HROWS := Lib.hid hrow
        have HBS := Lib.hid hB
        clear hrow hB
        go_wp2_with fail
        go_loopw [13] (fun i wr => ∃ q : Nat, q ≤ ls.length ∧ i = .int .i64 q ∧ Below w.heap.size w wr ∧ RowN wr R 3 k (valsF T acc 0 s (selN q (lv ls s)))) (fun i _ => ls.length - (intOf i).toNat)
        case atStart => exact ⟨0, Nat.zero_le _, rfl, HBS.out, HROWS.out⟩
        case round =>
          obtain ⟨q, hq, rfl, hB, hrow⟩ := hrel
          obtain ⟨wq, rfl⟩ : ∃ x, x = wr := ⟨_, rfl⟩
          by_cases hlt : q < ls.length
          · obtain ⟨bl, ol, rfl, hbb, q1, q2, q3⟩ := HV.out.elem hlt
            have hok := HS.out.g.lk hlt
            obtain ⟨g, hg⟩ : ∃ g : Nat, (lk ls q).t = g := ⟨(lk ls q).t.toNat, by have := hok.t0; omega⟩
            obtain ⟨f, hf⟩ : ∃ f, (lk ls q).f = f := ⟨_, rfl⟩
            have hfg := hok.lt
            have hgk := hok.t1
            have HSTq := Lib.hid (HST.out (selN q (lv ls s)) q)
            have HSEL := Lib.hid (selN_succ q (lv ls s))
            have HLV := Lib.hid (show lv ls s q = decide (f = s) by rw [lv, hf])
            rw [hg] at hfg hgk HSTq
            rw [hf] at hfg
            have c1 := (hB.cell (p := ⟨bl, ol + q * 3, none⟩) hbb).trans q1
            have c2 := (hB.cell (p := ⟨bl, ol + q * 3 + 1, none⟩) hbb).trans q2
            rw [hf] at c1
            rw [hg] at c2
            have hgk' : g < k := by omega
            have hg0 : (0 : Int) ≤ (g : Int) := by omega
            have HB1 := Lib.hid hB
            have HROW1 := Lib.hid hrow
            clear q1 q2 q3 hf hg hok hB
            by_cases hfs : f = s
            · subst hfs
              have eg : wq.cell? ⟨R, g, none⟩ = some (intV (T g)) := by
                have := hrow.cell hgk'
                rw [valsF, if_pos (by omega)] at this; exact this
              have es : wq.cell? ⟨R, s, none⟩ = some (intV (acc (selN q (lv ls s)))) := by
                have := hrow.cell (j := s) (by omega)
                rw [valsF, if_neg (by omega), if_pos rfl] at this; exact this
              have efz := hrow.frozen s
              have hlv : lv ls s q = true := by rw [HLV.out]; simp
              have HSEL2 := Lib.hid (show selN (q + 1) (lv ls s) = selN q (lv ls s) ++ [q] by rw [HSEL.out, if_pos hlv])
              have hs0 : (0 : Int) ≤ (s : Int) := by omega
              have hsk : (s : Int) < (k : Int) := by omega
              have hgk2 : (g : Int) < (k : Int) := by omega
              have hql : (0 : Int) ≤ (q : Int) := by omega
              have hql2 : (q : Int) < (ls.length : Int) := by omega
              obtain ⟨hT0, hT1⟩ := HT.out g
              obtain ⟨hA0, hA1⟩ := HA.out (selN q (lv ls s)) (by have := selN_len q (lv ls s); omega)
              obtain ⟨x, hx⟩ : ∃ x, T g = x := ⟨_, rfl⟩
              obtain ⟨A, hA⟩ : ∃ A, acc (selN q (lv ls s)) = A := ⟨_, rfl⟩
              rw [hA] at es hA0 hA1 HSTq
              rw [hx] at eg hT0 hT1 HSTq
              have hwr : IntKind.i64.wrap (A + x) = A + x := IntWalk.i64_in _ (by omega)
              have hmn : ¬ A + x < 1073741824 → False := by omega
              have hmn2 : A + x < 1073741824 := by omega
              have hmn3 : A + x ≤ 1073741824 := by omega
              clear hlv hrow hx hA
              go_wp2_with fail
              go_region_law (fail)
              all_goals
                go_wp2
                go_roundw
                case rel =>
                  refine ⟨q + 1, by omega, by go_num, (HB1.out.setCell (p := ⟨R, s, none⟩) hRw (intV (A + x))).trans (below_drew1 _ _), ((HROW1.out.set s (intV (A + x))).of_block (W' := (wq.setCell ⟨R, s, none⟩ (intV (A + x))).drew) rfl).congr fun j _ => ?_⟩
                  rw [HSEL2.out]
                  exact vals_set HSTq.out j
                case measure => simp [intOf]; omega
            · have hlv : lv ls s q = false := by rw [HLV.out]; simpa using hfs
              have HSEL2 := Lib.hid (show selN (q + 1) (lv ls s) = selN q (lv ls s) by rw [HSEL.out, if_neg (by rw [hlv]; simp)])
              have hb1 : (f == (s : Int)) = false := by simpa using hfs
              clear hlv hrow hfs
              go_wp2_with fail
              go_roundw
              case rel => exact ⟨q + 1, by omega, by go_num, HB1.out, by rw [HSEL2.out]; exact HROW1.out⟩
              case measure => simp [intOf]; omega
          · obtain rfl : q = ls.length := by omega
            have HROW1 := Lib.hid (hrow.congr fun j _ => vals_next HF.out (show (s : Int) < t by omega) j)
            have HB1 := Lib.hid hB
            clear hB hrow
            go_wp2_with fail
            go_roundw
            case rel => exact ⟨s, by omega, by go_num, HB1.out, HROW1.out⟩
            case measure => simp [intOf]
  · have hb : (q != 0) = true := by rw [bne_iff_ne]; exact h0
    go_enter Try.func23, Try.ntmps23
    go_wp2_with fail
    refine HC.out.mono ?_
    rintro e w1 ⟨rfl, hB⟩
    have HB1 := Lib.hid hB
    clear hB
    go_wp2
    go_ret2
    exact ⟨ret_of2 (HR.out.symm.trans (by rw [if_pos h0])), HB1.out⟩
end Go.Proofs.Ytipcelgoachjjaa
