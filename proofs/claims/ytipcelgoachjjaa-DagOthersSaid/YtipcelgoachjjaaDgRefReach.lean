/- The reference's Reach. -/
import Derived.Test.YtipcelgoachjjaaDgMathTwo
import Derived.Test.YtipcelgoachjjaaDgRefPL
namespace Go.Proofs.Ytipcelgoachjjaa
set_option linter.unusedSimpArgs false
set_option linter.unusedVariables false
set_option maxRecDepth 100000
open Go.RowKit Go.Deep

theorem info_bool : (Try.prog.info? 4).map (fun i => (i.zero, i.size, i.bytes)) = some (some (.bool false), 1, 1) := by kernel_rfl
abbrev rqV (ls : List LkV) (s k : Int) (pre : List Nat) : Nat → Value := fun j => .bool (rq ls s k pre (j : Int))
theorem rqV_set {ls : List LkV} {s k : Int} {pre : List Nat} {i g : Nat} (hi : i < ls.length) (hf : (lk ls i).f = k) (hk : Rc ls s k = true) (hg : (lk ls i).t = g) (j : Nat) :
    (if j = g then Value.bool true else rqV ls s k pre j) = rqV ls s k (pre ++ [i]) j := by
  show (if j = g then Value.bool true else .bool (rq ls s k pre (j : Int))) = .bool (rq ls s k (pre ++ [i]) (j : Int))
  rw [rq_snoc hi hf hk, hg]
  by_cases e : j = g
  · rw [if_pos e, e]; simp
  · rw [if_neg e, show decide ((j : Int) = (g : Int)) = false by rw [decide_eq_false_iff_not]; omega]; rfl
theorem reachL_low {n : Int} {ls : List LkV} (hg : Gr n ls) {s : Nat} : ∀ k, k ≤ s → selN k (fun j => decide (P ls j s ≠ [])) = [] := by
  intro k hk
  rw [selN, List.filter_eq_nil_iff]
  intro j hj h
  rw [decide_eq_true_eq] at h
  have := P_le hg h
  have := List.mem_range.1 hj
  omega
set_option maxHeartbeats 8000000 in
theorem refReach_any (n : Int) (ls : List LkV) (s : Int) (v : Value) (w : World) (hv : LinksAt w v ls) (hgr : greatR n ls = false) (r : List Int × Int) (hr : reachR n ls s = r) :
    Calls Try.prog 27 #[intV n, v, intV s] w (ListPost r w) := by
  obtain ⟨i0, hi, hz0, hz1, hz2⟩ := info_parts info_int
  have HV := Lib.hid hv
  have hl := great_len hgr
  obtain ⟨q, hq⟩ : ∃ q, nodesR n ls [s] = q := ⟨_, rfl⟩
  have HC := Lib.hid (refNodes_any n ls s s v _ hv (by unfold maxLen; omega) q (by rw [nodes_same]; exact hq))
  obtain ⟨av, cv, rfl⟩ := hv.slice
  rw [reachR, hq] at hr
  have HR := Lib.hid hr
  clear hv hr
  by_cases h0 : q = 0
  · subst h0
    obtain ⟨hc, hin⟩ := nodes_zero hq
    obtain ⟨k, rfl, hs⟩ := small_of hgr hc
    obtain ⟨j, rfl, hj⟩ := nat_of (hin s (by simp))
    have HS := Lib.hid hs
    have hk8 := hs.n8
    have hmk := run_make_row' (P := Try.prog) 69 4 (.bool false) 1 rfl info_bool rfl
    have hmk1 := fun W => hmk .i64 .i64 k (by omega) (by omega) W
    have HRR := Lib.hid (show r = (toI (reachL k ls j), 0) from HR.out.symm.trans (by rw [if_neg (by decide), Int.toNat_natCast]))
    clear hq hc hin hs hgr hmk HR
    go_enter Try.func27, Try.ntmps27
    go_wp2_with fail
    refine HC.out.mono ?_
    rintro e w1 ⟨rfl, hB⟩
    obtain ⟨R, hR⟩ : ∃ R, w1.heap.size = R := ⟨_, rfl⟩
    have hrow := RowN.of_row (World.rowIs_made w1 (.bool false) k 4)
    obtain ⟨wa, hwa⟩ : ∃ x, w1.alloc (.cells (madeCells #[.bool false] k) 4) = x := ⟨_, rfl⟩
    have hBa : Below w.heap.size w wa := by rw [← hwa]; exact hB.alloc hB.size _
    have hRw : w.heap.size ≤ R := by rw [← hR]; exact hB.size
    rw [hwa, hR] at hrow
    have hc := hrow.cell hj
    have hf := hrow.frozen j
    have hjk : (0 : Int) ≤ (j : Int) := by omega
    have hjl : (j : Int) < (k : Int) := by omega
    have HROW := Lib.hid (hrow.set j (.bool true))
    have HBR := Lib.hid (hBa.setCell (p := ⟨R, j, none⟩) hRw (.bool true))
    clear hB hrow hBa
    go_wp2_with fail
    clear hc hf hmk1
    obtain ⟨w0, hw0⟩ : ∃ x, wa.setCell ⟨R, j, none⟩ (.bool true) = x := ⟨_, rfl⟩
    rw [hw0] at HROW HBR
    try rw [hw0]
    have HR0 := Lib.hid (show RowN w0 R 4 k (rqV ls j j []) from HROW.out.congr fun i hi => by
      show _ = Value.bool (rq ls j j [] (i : Int))
      rw [rq_start HS.out.g]
      by_cases e : i = j
      · subst e; simp
      · rw [if_neg e, show decide ((i : Int) = (j : Int)) = false by rw [decide_eq_false_iff_not]; omega])
    clear hw0 HROW hwa hR
    go_loopw [10] (fun i wr => ∃ m : Nat, m ≤ k ∧ j ≤ m ∧ i = .int .i64 m ∧ Below w.heap.size w wr ∧ RowN wr R 4 k (rqV ls j m [])) (fun i _ => k - (intOf i).toNat)
    case atStart => exact ⟨j, Nat.le_of_lt hj, Nat.le_refl _, rfl, HBR.out, HR0.out⟩
    case round =>
      obtain ⟨m, hm, hjm, rfl, hB, hrow⟩ := hrel
      obtain ⟨wk2, rfl⟩ : ∃ x, x = wr := ⟨_, rfl⟩
      have HROWS := Lib.hid hrow
      have HBS := Lib.hid hB
      by_cases hmk : m < k
      · clear hrow hB
        go_wp2_with fail
        go_loopw [11] (fun i wr => ∃ q : Nat, q ≤ ls.length ∧ i = .int .i64 q ∧ Below w.heap.size w wr ∧ RowN wr R 4 k (rqV ls j m (selN q (lv ls m)))) (fun i _ => ls.length - (intOf i).toNat)
        case atStart => exact ⟨0, Nat.zero_le _, rfl, HBS.out, HROWS.out⟩
        case round =>
          obtain ⟨q, hq, rfl, hB, hrow⟩ := hrel
          obtain ⟨wq, rfl⟩ : ∃ x, x = wr := ⟨_, rfl⟩
          by_cases hlt : q < ls.length
          · obtain ⟨bl, ol, rfl, hbb, q1, q2, q3⟩ := HV.out.elem hlt
            have hok := HS.out.g.lk hlt
            obtain ⟨g, hg⟩ : ∃ g : Nat, (lk ls q).t = g := ⟨(lk ls q).t.toNat, by have := hok.t0; omega⟩
            obtain ⟨f, hf⟩ : ∃ f, (lk ls q).f = f := ⟨_, rfl⟩
            have hgk := hok.t1
            have HSEL := Lib.hid (selN_succ q (lv ls m))
            have HLV := Lib.hid (show lv ls m q = decide (f = m) by rw [lv, hf])
            have HF := Lib.hid hf
            have HG := Lib.hid hg
            rw [hg] at hgk
            have c1 := (hB.cell (p := ⟨bl, ol + q * 3, none⟩) hbb).trans q1
            have c2 := (hB.cell (p := ⟨bl, ol + q * 3 + 1, none⟩) hbb).trans q2
            rw [hf] at c1
            rw [hg] at c2
            have hgk' : g < k := by omega
            have hg0 : (0 : Int) ≤ (g : Int) := by omega
            have hm0 : (0 : Int) ≤ (m : Int) := by omega
            have hm1 : (m : Int) < (k : Int) := by omega
            have em : wq.cell? ⟨R, m, none⟩ = some (.bool (rq ls j m (selN q (lv ls m)) (m : Int))) := hrow.cell hmk
            have HLOW := Lib.hid (rq_low HS.out.g (s := (j : Int)) (k := (m : Int)) (j := (m : Int)) (pre := selN q (lv ls m)) (Int.le_refl _))
            rw [HLOW.out] at em
            have efz := hrow.frozen g
            have eg := hrow.cell hgk'
            have HB1 := Lib.hid hB
            have HROW1 := Lib.hid hrow
            clear q1 q2 q3 hf hg hok hB hrow
            by_cases hfs : f = m
            · have hfb : (f == (m : Int)) = true := by simpa using hfs
              have hlv : lv ls m q = true := by rw [HLV.out]; simpa using hfs
              have HSEL2 := Lib.hid (show selN (q + 1) (lv ls m) = selN q (lv ls m) ++ [q] by rw [HSEL.out, if_pos hlv])
              have HFM := Lib.hid (HF.out.trans hfs)
              clear hlv hfs
              cases hrc : Rc ls j m with
              | true =>
                rw [hrc] at em
                have HRC := Lib.hid hrc
                clear hrc
                go_wp2_with fail
                go_roundw
                case rel =>
                  refine ⟨q + 1, by omega, by go_num, HB1.out.setCell hRw _, (HROW1.out.set g (.bool true)).congr fun i _ => ?_⟩
                  rw [HSEL2.out]
                  exact rqV_set hlt HFM.out HRC.out HG.out i
                case measure => simp [intOf]; omega
              | false =>
                rw [hrc] at em
                have HRC := Lib.hid hrc
                clear hrc
                go_wp2_with fail
                go_roundw
                case rel =>
                  refine ⟨q + 1, by omega, by go_num, HB1.out, HROW1.out.congr fun i _ => ?_⟩
                  show Value.bool (rq ls j m _ i) = Value.bool (rq ls j m _ i)
                  rw [← rq_skip HRC.out, ← rq_skip HRC.out]
                case measure => simp [intOf]; omega
            · have hfb : (f == (m : Int)) = false := by simpa using hfs
              have hlv : lv ls m q = false := by rw [HLV.out]; simpa using hfs
              have HSEL2 := Lib.hid (show selN (q + 1) (lv ls m) = selN q (lv ls m) by rw [HSEL.out, if_neg (by rw [hlv]; simp)])
              clear hlv hfs
              go_wp2_with fail
              go_roundw
              case rel => exact ⟨q + 1, by omega, by go_num, HB1.out, by rw [HSEL2.out]; exact HROW1.out⟩
              case measure => simp [intOf]; omega
          · obtain rfl : q = ls.length := by omega
            have HROW1 := Lib.hid (show RowN wq R 4 k (rqV ls j ((m + 1 : Nat) : Int) []) from hrow.congr fun i _ => by
              show Value.bool (rq ls j m (out ls m) i) = Value.bool (rq ls j ((m + 1 : Nat) : Int) [] i)
              rw [show ((m + 1 : Nat) : Int) = (m : Int) + 1 by omega]
              cases hrc : Rc ls j m with
              | true => rw [rq_next hrc]
              | false => rw [← rq_skip hrc])
            have HB1 := Lib.hid hB
            clear hB hrow
            go_wp2_with fail
            go_roundw
            case rel => exact ⟨m + 1, by omega, by omega, by go_num, HB1.out, HROW1.out⟩
            case measure => simp [intOf]; omega
      · obtain rfl : m = k := by omega
        have HROW2 := Lib.hid (show RowN wk2 R 4 m (fun i => .bool (Rc ls j i)) from hrow.congr fun i hi => by
          show Value.bool (rq ls j m [] i) = _
          rw [rq_high HS.out.g (n := (m : Int)) (by omega) (Int.le_refl _)])
        clear hrow hB
        go_wp2_with fail
        go_loopw [13, 12] (fun i o wr => ∃ q : Nat, q ≤ m ∧ i = .int .i64 q ∧ wr.ownsRow wk2.heap.size 3 1 o (selN q (fun i => decide (P ls i j ≠ []))).length (mapN (selN q (fun i => decide (P ls i j ≠ [])))) ∧ Below wk2.heap.size wk2 wr) (fun i _ _ => m - (intOf i).toNat)
        case atStart => exact ⟨0, Nat.zero_le _, rfl, by simpa [selN] using World.ownsRow_lit wk2 #[] 0 (Nat.le_refl _) (by simp [maxLen]) rfl, (Below.refl _ _).alloc (Nat.le_refl _) _⟩
        case round =>
          obtain ⟨q, hq, rfl, hown, hB⟩ := hrel
          obtain ⟨wq, rfl⟩ : ∃ x, x = wr := ⟨_, rfl⟩
          have HO := Lib.hid hown
          have HBQ := Lib.hid hB
          by_cases hlt : q < m
          · have hcq := (HROW2.out.below hB).cell hlt
            have hlen := selN_len q (fun i => decide (P ls i j ≠ []))
            have HSEL := Lib.hid (selN_succ q (fun i => decide (P ls i j ≠ [])))
            have hq0 : (0 : Int) ≤ (q : Int) := by omega
            have hq1 : (q : Int) < (m : Int) := by omega
            clear hown hB
            cases hrc : Rc ls j q with
            | true =>
              rw [hrc] at hcq
              have HRC := Lib.hid hrc
              clear hrc
              go_wp2_with (at_builtin; refine wpList_append_own _ rfl _ _ 23 rfl wk2.heap.size 3 i0 (.int .i64 0) 1 8 Try.underlying23 hi hz0 hz1 hz2 rfl (by decide) _ _ _ rfl (HO.out.alloc _) ⟨wq.heap.size, 0, none⟩ 1 1 [.int .i64 _] rfl rfl (one_news _ _ _ _ rfl) (by simp [Value.oneCell']) (by unfold maxLen; omega) (by omega) (by have := HBQ.out.size; simp; omega) ?_; intro v' w5 hown' hgrow hnn; clear hnn; have HO5 := Lib.hid hown'; have HB5 := Lib.hid (own_below HBQ.out HBQ.out.size HO.out hgrow); clear hown' hgrow)
              go_roundw
              case rel => exact ⟨q + 1, by omega, by go_num, by rw [HSEL.out, if_pos (show decide (P ls q j ≠ []) = true from HRC.out)]; simpa [mapN] using HO5.out, HB5.out⟩
              case measure => simp [intOf]; omega
            | false =>
              rw [hrc] at hcq
              have HRC := Lib.hid hrc
              clear hrc
              go_wp2
              go_roundw
              case rel => exact ⟨q + 1, by omega, by go_num, by rw [HSEL.out, if_neg (fun h => by rw [Rc] at HRC; have := HRC.out; rw [h] at this; cases this)]; exact HO.out, HBQ.out⟩
              case measure => simp [intOf]; omega
          · obtain rfl : q = m := by omega
            have HI := Lib.hid (show IntsAt wq _ (toI (reachL q ls j)) from IntsAt.of_own (n := (reachL q ls j).length) (e := 3) (base := wk2.heap.size) (by rw [toI, List.map_map]; exact hown))
            obtain ⟨a', c', rfl⟩ := HI.out.slice
            have HBZ := Lib.hid (HBS.out.trans (hB.mono HBS.out.size))
            clear hown hB
            go_wp2
            go_ret2
            have h := HI.out
            exact ListPost.good HRR.out (by first | exact h | simpa using h) HBZ.out
  · have hb : (q != 0) = true := by rw [bne_iff_ne]; exact h0
    go_enter Try.func27, Try.ntmps27
    go_wp2_with fail
    refine HC.out.mono ?_
    rintro e w1 ⟨rfl, hB⟩
    have HB1 := Lib.hid (hB.alloc hB.size (.cells #[] 3))
    clear hB
    go_wp2
    go_ret2
    exact ListPost.good (HR.out.symm.trans (by rw [if_pos h0])) (IntsAt.empty _ _ _) HB1.out
end Go.Proofs.Ytipcelgoachjjaa
