/- The law DagCounts. -/
import Derived.Test.YtipcelgoachjjaaDgReach
import Derived.Test.YtipcelgoachjjaaDgAll
import Derived.Test.YtipcelgoachjjaaDgOthersL
namespace Go.Proofs.Ytipcelgoachjjaa
set_option linter.unusedSimpArgs false
set_option linter.unusedVariables false
set_option maxRecDepth 100000
open Go.RowKit Go.Deep

theorem rea_ok {n : Int} {ls : List LkV} {s : Int} (h : checkR n ls = 0) (hs : inN n s) : reachR n ls s = (toI (reachL n.toNat ls s), 0) := by
  rw [reachR, nodes_ok1 h hs, if_neg (by decide)]
theorem toI_sorted {l : List Nat} (h : l.Pairwise (· < ·)) : (toI l).Pairwise (· < ·) := by
  rw [toI, List.pairwise_map]
  exact h.imp fun h => by omega
theorem mem_reach {n : Nat} {ls : List LkV} {s : Int} {k : Nat} (hk : k < n) : ((k : Int) ∈ toI (reachL n ls s)) ↔ P ls k s ≠ [] := by
  rw [toI, List.mem_map]
  constructor
  · rintro ⟨j, hj, e⟩
    obtain rfl : j = k := by omega
    have := (mem_selN.1 hj).2
    rwa [decide_eq_true_eq] at this
  · intro h
    exact ⟨k, mem_selN.2 ⟨hk, by rw [decide_eq_true_eq]; exact h⟩, rfl⟩
theorem nO_end {n : Int} {ls : List LkV} (hg : Gr n ls) (s : Int) (q : Nat) (hq : q ≤ ls.length) : nO ls s (selN q (lv ls s)) = 0 := by
  rw [nO, List.length_eq_zero_iff]
  refine flatMap_nil' fun i hi => ?_
  obtain ⟨h1, h2⟩ := mem_selN.1 hi
  rw [lv, decide_eq_true_eq] at h2
  have := hg.up i (by omega)
  rw [P_none hg.up (by omega)]; rfl
set_option maxHeartbeats 8000000 in
theorem dagCounts_any (w : World) (n : Int) (v : Value) (ls : List LkV) (s t : Int) (hn : (Lit.int .i64 n).wf = true) (hv : LinksAt w v ls) (hl : ls.length ≤ maxLen) (hs : (Lit.int .u8 s).wf = true) (ht : (Lit.int .u8 t).wf = true) :
    Calls Try.prog 8 #[intV n, v, u8V s, u8V t] w fun e w' => e = .returned (.bool true) ∧ Below w.heap.size w w' := by
  have ht := wf_u8 ht
  have hs := wf_u8 hs
  have HV := Lib.hid hv
  cases hok : okR n ls with
  | false =>
    have HF := Lib.hid (fine_no n ls s t hs ht v w hv hl hok)
    obtain ⟨av, cv, rfl⟩ := hv.slice
    clear hn hv hl ht hok
    go_enter Try.func8, Try.ntmps8
    go_wp2_with fail
    refine HF.out.mono ?_
    rintro e w1 ⟨rfl, b1⟩
    have B1 := Lib.hid b1
    clear b1
    go_wp2_with fail
    refine (awake_any _).mono ?_
    rintro e w2 ⟨rfl, b2⟩
    have B2 := Lib.hid (below_then B1.out b2)
    clear b2
    go_wp2
    go_ret
    exact ⟨rfl, B2.out⟩
  | true =>
    have HF := Lib.hid (fine_yes n ls s t hs ht v w hv hl hok)
    obtain ⟨hgr, hc⟩ := okR_spec hok
    have hb := node_of hc ht
    have ha := node_of hc hs
    obtain ⟨av, cv, rfl⟩ := hv.slice
    obtain ⟨m, rfl, hsm⟩ := small_of hgr hc
    obtain ⟨k, hk, hkm⟩ := nat_of hb
    obtain ⟨j, hj, hjm⟩ := nat_of ha
    rw [hk] at hb HF
    rw [hj] at ha HF
    have HC := Lib.hid (cnt_ok hc ha hb)
    have HRE := Lib.hid (rea_ok hc ha)
    rw [Int.toNat_natCast] at HRE
    have HCO := Lib.hid (fun g (hg : inN m g) => cnt_ok hc hg hb)
    have HGR := Lib.hid hgr
    have HSM := Lib.hid hsm
    have HNP := Lib.hid (fun g => npaths_small hsm.g hsm.l14 (k : Int) g)
    have HNO := Lib.hid (fun l hl => nO_small hsm.g hsm.l14 (k : Int) l hl)
    have HSN := Lib.hid (fun l i => nO_snoc ls (k : Int) l i)
    have HMEM := Lib.hid (show decide ((k : Int) ∈ toI (reachL m ls j)) = decide (0 < npaths ls k j) by
      apply decide_eq_decide.2
      rw [mem_reach hkm, npaths, List.length_pos_iff])
    have HSRT := Lib.hid (show (toI (reachL m ls j)).Pairwise (· < ·) from toI_sorted (selN_sorted m (fun i => decide (P ls i j ≠ []))))
    have HRLEN := Lib.hid (show (toI (reachL m ls j)).length ≤ 1000000 by
      have := selN_len m (fun i => decide (P ls i j ≠ []))
      have := hsm.n8
      rw [List.length_map, reachL]; omega)
    have hm8 := hsm.n8
    have hl14 := hsm.l14
    have HFIN := Lib.hid (show (if j = k then 1 else 0) + nO ls k (out ls j) = npaths ls k j by
      by_cases e : j = k
      · subst e
        have h := nO_end hsm.g (j : Int) ls.length (Nat.le_refl _)
        rw [if_pos rfl, npaths_end, show nO ls j (out ls j) = 0 from h]
      · rw [if_neg e, npaths_rec hsm.g.up (show (j : Int) ≠ k by omega)]; omega)
    have HIN := Lib.hid (fun (g : Nat) (h0 : (0 : Int) ≤ g) (h1 : (g : Int) < m) => (show inN m g from ⟨h0, h1⟩))
    clear hn hv hl ht hs hok hgr hc hb ha hk hj hsm
    obtain ⟨RL, hRL⟩ : ∃ x, toI (reachL m ls j) = x := ⟨_, rfl⟩
    rw [hRL] at HRE HMEM HSRT HRLEN
    clear hRL
    obtain ⟨N, hN⟩ : ∃ x, npaths ls k j = x := ⟨_, rfl⟩
    have hN0 := HNP.out j
    rw [hN] at HC HMEM HFIN hN0
    have HN := Lib.hid hN
    clear hN
    obtain ⟨bse, hbse⟩ : ∃ x : Nat, (if j = k then 1 else 0) = x := ⟨_, rfl⟩
    have hb1 : bse ≤ 1 := by rw [← hbse]; split <;> omega
    have HBS := Lib.hid hbse
    rw [hbse] at HFIN
    clear hbse
    go_enter Try.func8, Try.ntmps8
    go_wp2_with fail
    refine HF.out.mono ?_
    rintro e w1 ⟨rfl, b1⟩
    have B1 := Lib.hid b1
    clear b1
    go_wp2_with fail
    refine (Count_any m ls j k _ w1 (HV.out.below B1.out) HGR.out _ HC.out).mono ?_
    rintro e w2 ⟨rfl, b2⟩
    have B2 := Lib.hid (below_then B1.out b2)
    clear b2
    go_wp2_with fail
    refine (Reach_any m ls j _ w2 (HV.out.below B2.out) HGR.out _ HRE.out).mono ?_
    rintro e w3 ⟨v3, rfl, i3, b3⟩
    have B3 := Lib.hid (below_then B2.out b3)
    have I3 := Lib.hid i3
    obtain ⟨a3, c3, rfl⟩ := i3.slice
    clear b3 i3
    go_wp2_with fail
    refine (paths_any m ls HSM.out (k : Int) (by omega) _ (j : Int) w3 (HV.out.below B3.out)).mono ?_
    rintro e w4 ⟨v4, us, rfl, i4, b4⟩
    have B4 := Lib.hid (below_then B3.out b4)
    have I4 := Lib.hid (I3.out.below b4)
    have hus : us.length = N := by have := i4.len; rw [List.length_map] at this; rw [this]; exact HN.out
    obtain ⟨a4, c4, rfl, _⟩ := own_slice i4.top
    rw [hus]
    clear b4 i4 hus
    by_cases hp : 0 < N
    · have hp2 : (0 : Int) < (N : Int) := by omega
      have HM := Lib.hid (HMEM.out.trans (decide_eq_true hp))
      go_wp2_with fail
      refine (contains_any _ (k : Int) true HM.out _ w4 I4.out HRLEN.out).mono ?_
      rintro e w5 ⟨rfl, rfl⟩
      go_wp2_with fail
      refine (sorted_any _ HSRT.out _ w4 I4.out HRLEN.out).mono ?_
      rintro e w5 ⟨rfl, b5⟩
      have B5 := Lib.hid (below_then B4.out b5)
      clear b5 hp hp2
      by_cases hjk : j = k
      · subst hjk
        have HJK := Lib.hid (show (j : Nat) = j from rfl)
        go_wp2_with fail
        go_loopw [81, 16] (fun i sm wr => ∃ q : Nat, q ≤ ls.length ∧ i = .int .i64 q ∧ sm = intV ((bse : Int) + nO ls j (selN q (lv ls j))) ∧ Below w.heap.size w wr) (fun i _ _ => ls.length - (intOf i).toNat)
        case atStart => exact ⟨0, Nat.zero_le _, rfl, by rw [← HBS.out]; simp [HJK.out, selN, nO], B5.out⟩
        case round =>
          obtain ⟨q, hq, rfl, rfl, hB⟩ := hrel
          obtain ⟨wq, rfl⟩ : ∃ x, x = wr := ⟨_, rfl⟩
          by_cases hlt : q < ls.length
          · obtain ⟨bl, ol, rfl, hbb, q1, q2, q3⟩ := HV.out.elem hlt
            have hok := HSM.out.g.lk hlt
            obtain ⟨g, hg⟩ : ∃ g : Nat, (lk ls q).t = g := ⟨(lk ls q).t.toNat, by have := hok.t0; omega⟩
            obtain ⟨f, hf⟩ : ∃ f, (lk ls q).f = f := ⟨_, rfl⟩
            obtain ⟨c, hc⟩ : ∃ c, (lk ls q).c = c := ⟨_, rfl⟩
            have hgk := hok.t1
            have HSEL := Lib.hid (selN_succ q (lv ls j))
            have HLV := Lib.hid (show lv ls j q = decide (f = j) by rw [lv, hf])
            have HSNq := Lib.hid (HSN.out (selN q (lv ls j)) q)
            have hNq := HNO.out (selN q (lv ls j)) (by have := selN_len q (lv ls j); omega)
            rw [hg] at hgk HSNq
            obtain ⟨W1, hW1⟩ : ∃ W1, wq.alloc (.cells #[intV f, intV g, intV c] 52) = W1 := ⟨_, rfl⟩
            have hB1 : Below w.heap.size w W1 := by rw [← hW1]; exact hB.alloc hB.size _
            have c1 := (hB.cell (p := ⟨bl, ol + q * 3, none⟩) hbb).trans q1
            have c2 := (hB.cell (p := ⟨bl, ol + q * 3 + 1, none⟩) hbb).trans q2
            have c3 := (hB.cell (p := ⟨bl, ol + q * 3 + 2, none⟩) hbb).trans q3
            rw [hf] at c1
            rw [hg] at c2
            rw [hc] at c3
            have d1 : W1.cell? ⟨wq.heap.size, 0, none⟩ = some (intV f) := by rw [← hW1, World.cell?_alloc_new]; rfl
            have d2 : W1.cell? ⟨wq.heap.size, 1, none⟩ = some (intV g) := by rw [← hW1, World.cell?_alloc_new]; rfl
            have HB1 := Lib.hid hB1
            have HG := Lib.hid (HCO.out g (HIN.out g (by omega) hgk))
            have hNg := HNP.out g
            clear q1 q2 q3 hf hg hc hok hB hB1
            obtain ⟨z, hz⟩ : ∃ x, nO ls j (selN q (lv ls j)) = x := ⟨_, rfl⟩
            obtain ⟨y, hy⟩ : ∃ x, npaths ls j g = x := ⟨_, rfl⟩
            rw [hz] at HSNq hNq ⊢
            rw [hy] at HSNq HG hNg
            have HZ := Lib.hid hz
            clear hz hy
            by_cases hfs : f = j
            · subst hfs
              have hlv : lv ls j q = true := by rw [HLV.out]; simp
              have HNX := Lib.hid (show nO ls j (selN (q + 1) (lv ls j)) = z + y by rw [HSEL.out, if_pos hlv, HSNq.out])
              clear hlv
              go_wp2_with fail
              try rw [hW1]
              refine (Count_any m ls g j _ W1 (HV.out.below HB1.out) HGR.out _ HG.out).mono ?_
              rintro e w6 ⟨rfl, b6⟩
              have B6 := Lib.hid (below_then HB1.out b6)
              clear b6
              go_wp2
              go_roundw
              case rel => exact ⟨q + 1, by omega, by go_num, by rw [HNX.out]; congr 1; omega, B6.out⟩
              case measure => simp [intOf]; omega
            · have hlv : lv ls j q = false := by rw [HLV.out]; simpa using hfs
              have HNX := Lib.hid (show nO ls j (selN (q + 1) (lv ls j)) = z by rw [HSEL.out, if_neg (by rw [hlv]; simp), HZ.out])
              have hb1 : (f != (j : Int)) = true := by rw [bne_iff_ne]; exact hfs
              clear hlv hfs
              go_wp2_with fail
              go_roundw
              case rel => exact ⟨q + 1, by omega, by go_num, by rw [HNX.out], by first | exact HB1.out | (rw [hW1]; exact HB1.out)⟩
              case measure => simp [intOf]; omega
          · obtain rfl : q = ls.length := by omega
            have BQ := Lib.hid hB
            clear hB
            have he : (bse : Int) + nO ls j (selN ls.length (lv ls j)) = N := by have h : bse + nO ls j (selN ls.length (lv ls j)) = N := HFIN.out; omega
            rw [he]
            clear he
            go_wp2_with fail
            refine (awake_any _).mono ?_
            rintro e w6 ⟨rfl, b6⟩
            have B6 := Lib.hid (below_then BQ.out b6)
            clear b6
            go_wp2
            go_ret
            exact ⟨rfl, B6.out⟩
      · have hjk2 : ((j : Int) == (k : Int)) = false := beq_eq_false_iff_ne.2 (by omega)
        have HJK := Lib.hid hjk
        go_wp2_with fail
        go_loopw [81, 16] (fun i sm wr => ∃ q : Nat, q ≤ ls.length ∧ i = .int .i64 q ∧ sm = intV ((bse : Int) + nO ls k (selN q (lv ls j))) ∧ Below w.heap.size w wr) (fun i _ _ => ls.length - (intOf i).toNat)
        case atStart => exact ⟨0, Nat.zero_le _, rfl, by rw [← HBS.out]; simp [HJK.out, selN, nO], B5.out⟩
        case round =>
          obtain ⟨q, hq, rfl, rfl, hB⟩ := hrel
          obtain ⟨wq, rfl⟩ : ∃ x, x = wr := ⟨_, rfl⟩
          by_cases hlt : q < ls.length
          · obtain ⟨bl, ol, rfl, hbb, q1, q2, q3⟩ := HV.out.elem hlt
            have hok := HSM.out.g.lk hlt
            obtain ⟨g, hg⟩ : ∃ g : Nat, (lk ls q).t = g := ⟨(lk ls q).t.toNat, by have := hok.t0; omega⟩
            obtain ⟨f, hf⟩ : ∃ f, (lk ls q).f = f := ⟨_, rfl⟩
            obtain ⟨c, hc⟩ : ∃ c, (lk ls q).c = c := ⟨_, rfl⟩
            have hgk := hok.t1
            have HSEL := Lib.hid (selN_succ q (lv ls j))
            have HLV := Lib.hid (show lv ls j q = decide (f = j) by rw [lv, hf])
            have HSNq := Lib.hid (HSN.out (selN q (lv ls j)) q)
            have hNq := HNO.out (selN q (lv ls j)) (by have := selN_len q (lv ls j); omega)
            rw [hg] at hgk HSNq
            obtain ⟨W1, hW1⟩ : ∃ W1, wq.alloc (.cells #[intV f, intV g, intV c] 52) = W1 := ⟨_, rfl⟩
            have hB1 : Below w.heap.size w W1 := by rw [← hW1]; exact hB.alloc hB.size _
            have c1 := (hB.cell (p := ⟨bl, ol + q * 3, none⟩) hbb).trans q1
            have c2 := (hB.cell (p := ⟨bl, ol + q * 3 + 1, none⟩) hbb).trans q2
            have c3 := (hB.cell (p := ⟨bl, ol + q * 3 + 2, none⟩) hbb).trans q3
            rw [hf] at c1
            rw [hg] at c2
            rw [hc] at c3
            have d1 : W1.cell? ⟨wq.heap.size, 0, none⟩ = some (intV f) := by rw [← hW1, World.cell?_alloc_new]; rfl
            have d2 : W1.cell? ⟨wq.heap.size, 1, none⟩ = some (intV g) := by rw [← hW1, World.cell?_alloc_new]; rfl
            have HB1 := Lib.hid hB1
            have HG := Lib.hid (HCO.out g (HIN.out g (by omega) hgk))
            have hNg := HNP.out g
            clear q1 q2 q3 hf hg hc hok hB hB1
            obtain ⟨z, hz⟩ : ∃ x, nO ls k (selN q (lv ls j)) = x := ⟨_, rfl⟩
            obtain ⟨y, hy⟩ : ∃ x, npaths ls k g = x := ⟨_, rfl⟩
            rw [hz] at HSNq hNq ⊢
            rw [hy] at HSNq HG hNg
            have HZ := Lib.hid hz
            clear hz hy
            by_cases hfs : f = j
            · subst hfs
              have hlv : lv ls j q = true := by rw [HLV.out]; simp
              have HNX := Lib.hid (show nO ls k (selN (q + 1) (lv ls j)) = z + y by rw [HSEL.out, if_pos hlv, HSNq.out])
              clear hlv
              go_wp2_with fail
              try rw [hW1]
              refine (Count_any m ls g k _ W1 (HV.out.below HB1.out) HGR.out _ HG.out).mono ?_
              rintro e w6 ⟨rfl, b6⟩
              have B6 := Lib.hid (below_then HB1.out b6)
              clear b6
              go_wp2
              go_roundw
              case rel => exact ⟨q + 1, by omega, by go_num, by rw [HNX.out]; congr 1; omega, B6.out⟩
              case measure => simp [intOf]; omega
            · have hlv : lv ls j q = false := by rw [HLV.out]; simpa using hfs
              have HNX := Lib.hid (show nO ls k (selN (q + 1) (lv ls j)) = z by rw [HSEL.out, if_neg (by rw [hlv]; simp), HZ.out])
              have hb1 : (f != (j : Int)) = true := by rw [bne_iff_ne]; exact hfs
              clear hlv hfs
              go_wp2_with fail
              go_roundw
              case rel => exact ⟨q + 1, by omega, by go_num, by rw [HNX.out], by first | exact HB1.out | (rw [hW1]; exact HB1.out)⟩
              case measure => simp [intOf]; omega
          · obtain rfl : q = ls.length := by omega
            have BQ := Lib.hid hB
            clear hB
            have he : (bse : Int) + nO ls k (selN ls.length (lv ls j)) = N := by have h : bse + nO ls k (selN ls.length (lv ls j)) = N := HFIN.out; omega
            rw [he]
            clear he
            go_wp2_with fail
            refine (awake_any _).mono ?_
            rintro e w6 ⟨rfl, b6⟩
            have B6 := Lib.hid (below_then BQ.out b6)
            clear b6
            go_wp2
            go_ret
            exact ⟨rfl, B6.out⟩
    · have hp2 : ¬ (0 : Int) < (N : Int) := by omega
      have HM := Lib.hid (HMEM.out.trans (decide_eq_false hp))
      go_wp2_with fail
      refine (contains_any _ (k : Int) false HM.out _ w4 I4.out HRLEN.out).mono ?_
      rintro e w5 ⟨rfl, rfl⟩
      go_wp2_with fail
      refine (sorted_any _ HSRT.out _ w4 I4.out HRLEN.out).mono ?_
      rintro e w5 ⟨rfl, b5⟩
      have B5 := Lib.hid (below_then B4.out b5)
      clear b5 hp hp2
      by_cases hjk : j = k
      · subst hjk
        have HJK := Lib.hid (show (j : Nat) = j from rfl)
        go_wp2_with fail
        go_loopw [81, 16] (fun i sm wr => ∃ q : Nat, q ≤ ls.length ∧ i = .int .i64 q ∧ sm = intV ((bse : Int) + nO ls j (selN q (lv ls j))) ∧ Below w.heap.size w wr) (fun i _ _ => ls.length - (intOf i).toNat)
        case atStart => exact ⟨0, Nat.zero_le _, rfl, by rw [← HBS.out]; simp [HJK.out, selN, nO], B5.out⟩
        case round =>
          obtain ⟨q, hq, rfl, rfl, hB⟩ := hrel
          obtain ⟨wq, rfl⟩ : ∃ x, x = wr := ⟨_, rfl⟩
          by_cases hlt : q < ls.length
          · obtain ⟨bl, ol, rfl, hbb, q1, q2, q3⟩ := HV.out.elem hlt
            have hok := HSM.out.g.lk hlt
            obtain ⟨g, hg⟩ : ∃ g : Nat, (lk ls q).t = g := ⟨(lk ls q).t.toNat, by have := hok.t0; omega⟩
            obtain ⟨f, hf⟩ : ∃ f, (lk ls q).f = f := ⟨_, rfl⟩
            obtain ⟨c, hc⟩ : ∃ c, (lk ls q).c = c := ⟨_, rfl⟩
            have hgk := hok.t1
            have HSEL := Lib.hid (selN_succ q (lv ls j))
            have HLV := Lib.hid (show lv ls j q = decide (f = j) by rw [lv, hf])
            have HSNq := Lib.hid (HSN.out (selN q (lv ls j)) q)
            have hNq := HNO.out (selN q (lv ls j)) (by have := selN_len q (lv ls j); omega)
            rw [hg] at hgk HSNq
            obtain ⟨W1, hW1⟩ : ∃ W1, wq.alloc (.cells #[intV f, intV g, intV c] 52) = W1 := ⟨_, rfl⟩
            have hB1 : Below w.heap.size w W1 := by rw [← hW1]; exact hB.alloc hB.size _
            have c1 := (hB.cell (p := ⟨bl, ol + q * 3, none⟩) hbb).trans q1
            have c2 := (hB.cell (p := ⟨bl, ol + q * 3 + 1, none⟩) hbb).trans q2
            have c3 := (hB.cell (p := ⟨bl, ol + q * 3 + 2, none⟩) hbb).trans q3
            rw [hf] at c1
            rw [hg] at c2
            rw [hc] at c3
            have d1 : W1.cell? ⟨wq.heap.size, 0, none⟩ = some (intV f) := by rw [← hW1, World.cell?_alloc_new]; rfl
            have d2 : W1.cell? ⟨wq.heap.size, 1, none⟩ = some (intV g) := by rw [← hW1, World.cell?_alloc_new]; rfl
            have HB1 := Lib.hid hB1
            have HG := Lib.hid (HCO.out g (HIN.out g (by omega) hgk))
            have hNg := HNP.out g
            clear q1 q2 q3 hf hg hc hok hB hB1
            obtain ⟨z, hz⟩ : ∃ x, nO ls j (selN q (lv ls j)) = x := ⟨_, rfl⟩
            obtain ⟨y, hy⟩ : ∃ x, npaths ls j g = x := ⟨_, rfl⟩
            rw [hz] at HSNq hNq ⊢
            rw [hy] at HSNq HG hNg
            have HZ := Lib.hid hz
            clear hz hy
            by_cases hfs : f = j
            · subst hfs
              have hlv : lv ls j q = true := by rw [HLV.out]; simp
              have HNX := Lib.hid (show nO ls j (selN (q + 1) (lv ls j)) = z + y by rw [HSEL.out, if_pos hlv, HSNq.out])
              clear hlv
              go_wp2_with fail
              try rw [hW1]
              refine (Count_any m ls g j _ W1 (HV.out.below HB1.out) HGR.out _ HG.out).mono ?_
              rintro e w6 ⟨rfl, b6⟩
              have B6 := Lib.hid (below_then HB1.out b6)
              clear b6
              go_wp2
              go_roundw
              case rel => exact ⟨q + 1, by omega, by go_num, by rw [HNX.out]; congr 1; omega, B6.out⟩
              case measure => simp [intOf]; omega
            · have hlv : lv ls j q = false := by rw [HLV.out]; simpa using hfs
              have HNX := Lib.hid (show nO ls j (selN (q + 1) (lv ls j)) = z by rw [HSEL.out, if_neg (by rw [hlv]; simp), HZ.out])
              have hb1 : (f != (j : Int)) = true := by rw [bne_iff_ne]; exact hfs
              clear hlv hfs
              go_wp2_with fail
              go_roundw
              case rel => exact ⟨q + 1, by omega, by go_num, by rw [HNX.out], by first | exact HB1.out | (rw [hW1]; exact HB1.out)⟩
              case measure => simp [intOf]; omega
          · obtain rfl : q = ls.length := by omega
            have BQ := Lib.hid hB
            clear hB
            have he : (bse : Int) + nO ls j (selN ls.length (lv ls j)) = N := by have h : bse + nO ls j (selN ls.length (lv ls j)) = N := HFIN.out; omega
            rw [he]
            clear he
            go_wp2_with fail
            refine (awake_any _).mono ?_
            rintro e w6 ⟨rfl, b6⟩
            have B6 := Lib.hid (below_then BQ.out b6)
            clear b6
            go_wp2
            go_ret
            exact ⟨rfl, B6.out⟩
      · have hjk2 : ((j : Int) == (k : Int)) = false := beq_eq_false_iff_ne.2 (by omega)
        have HJK := Lib.hid hjk
        go_wp2_with fail
        go_loopw [81, 16] (fun i sm wr => ∃ q : Nat, q ≤ ls.length ∧ i = .int .i64 q ∧ sm = intV ((bse : Int) + nO ls k (selN q (lv ls j))) ∧ Below w.heap.size w wr) (fun i _ _ => ls.length - (intOf i).toNat)
        case atStart => exact ⟨0, Nat.zero_le _, rfl, by rw [← HBS.out]; simp [HJK.out, selN, nO], B5.out⟩
        case round =>
          obtain ⟨q, hq, rfl, rfl, hB⟩ := hrel
          obtain ⟨wq, rfl⟩ : ∃ x, x = wr := ⟨_, rfl⟩
          by_cases hlt : q < ls.length
          · obtain ⟨bl, ol, rfl, hbb, q1, q2, q3⟩ := HV.out.elem hlt
            have hok := HSM.out.g.lk hlt
            obtain ⟨g, hg⟩ : ∃ g : Nat, (lk ls q).t = g := ⟨(lk ls q).t.toNat, by have := hok.t0; omega⟩
            obtain ⟨f, hf⟩ : ∃ f, (lk ls q).f = f := ⟨_, rfl⟩
            obtain ⟨c, hc⟩ : ∃ c, (lk ls q).c = c := ⟨_, rfl⟩
            have hgk := hok.t1
            have HSEL := Lib.hid (selN_succ q (lv ls j))
            have HLV := Lib.hid (show lv ls j q = decide (f = j) by rw [lv, hf])
            have HSNq := Lib.hid (HSN.out (selN q (lv ls j)) q)
            have hNq := HNO.out (selN q (lv ls j)) (by have := selN_len q (lv ls j); omega)
            rw [hg] at hgk HSNq
            obtain ⟨W1, hW1⟩ : ∃ W1, wq.alloc (.cells #[intV f, intV g, intV c] 52) = W1 := ⟨_, rfl⟩
            have hB1 : Below w.heap.size w W1 := by rw [← hW1]; exact hB.alloc hB.size _
            have c1 := (hB.cell (p := ⟨bl, ol + q * 3, none⟩) hbb).trans q1
            have c2 := (hB.cell (p := ⟨bl, ol + q * 3 + 1, none⟩) hbb).trans q2
            have c3 := (hB.cell (p := ⟨bl, ol + q * 3 + 2, none⟩) hbb).trans q3
            rw [hf] at c1
            rw [hg] at c2
            rw [hc] at c3
            have d1 : W1.cell? ⟨wq.heap.size, 0, none⟩ = some (intV f) := by rw [← hW1, World.cell?_alloc_new]; rfl
            have d2 : W1.cell? ⟨wq.heap.size, 1, none⟩ = some (intV g) := by rw [← hW1, World.cell?_alloc_new]; rfl
            have HB1 := Lib.hid hB1
            have HG := Lib.hid (HCO.out g (HIN.out g (by omega) hgk))
            have hNg := HNP.out g
            clear q1 q2 q3 hf hg hc hok hB hB1
            obtain ⟨z, hz⟩ : ∃ x, nO ls k (selN q (lv ls j)) = x := ⟨_, rfl⟩
            obtain ⟨y, hy⟩ : ∃ x, npaths ls k g = x := ⟨_, rfl⟩
            rw [hz] at HSNq hNq ⊢
            rw [hy] at HSNq HG hNg
            have HZ := Lib.hid hz
            clear hz hy
            by_cases hfs : f = j
            · subst hfs
              have hlv : lv ls j q = true := by rw [HLV.out]; simp
              have HNX := Lib.hid (show nO ls k (selN (q + 1) (lv ls j)) = z + y by rw [HSEL.out, if_pos hlv, HSNq.out])
              clear hlv
              go_wp2_with fail
              try rw [hW1]
              refine (Count_any m ls g k _ W1 (HV.out.below HB1.out) HGR.out _ HG.out).mono ?_
              rintro e w6 ⟨rfl, b6⟩
              have B6 := Lib.hid (below_then HB1.out b6)
              clear b6
              go_wp2
              go_roundw
              case rel => exact ⟨q + 1, by omega, by go_num, by rw [HNX.out]; congr 1; omega, B6.out⟩
              case measure => simp [intOf]; omega
            · have hlv : lv ls j q = false := by rw [HLV.out]; simpa using hfs
              have HNX := Lib.hid (show nO ls k (selN (q + 1) (lv ls j)) = z by rw [HSEL.out, if_neg (by rw [hlv]; simp), HZ.out])
              have hb1 : (f != (j : Int)) = true := by rw [bne_iff_ne]; exact hfs
              clear hlv hfs
              go_wp2_with fail
              go_roundw
              case rel => exact ⟨q + 1, by omega, by go_num, by rw [HNX.out], by first | exact HB1.out | (rw [hW1]; exact HB1.out)⟩
              case measure => simp [intOf]; omega
          · obtain rfl : q = ls.length := by omega
            have BQ := Lib.hid hB
            clear hB
            have he : (bse : Int) + nO ls k (selN ls.length (lv ls j)) = N := by have h : bse + nO ls k (selN ls.length (lv ls j)) = N := HFIN.out; omega
            rw [he]
            clear he
            go_wp2_with fail
            refine (awake_any _).mono ?_
            rintro e w6 ⟨rfl, b6⟩
            have B6 := Lib.hid (below_then BQ.out b6)
            clear b6
            go_wp2
            go_ret
            exact ⟨rfl, B6.out⟩
end Go.Proofs.Ytipcelgoachjjaa
