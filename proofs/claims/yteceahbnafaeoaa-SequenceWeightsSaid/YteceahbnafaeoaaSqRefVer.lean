/- The reference's Verify. -/
import Derived.Test.YteceahbnafaeoaaSqRefU
import Derived.Test.YteceahbnafaeoaaSqRow
import Derived.Test.YteceahbnafaeoaaSpVerify
namespace Go.Proofs.Yteceahbnafaeoaa
set_option linter.unusedSimpArgs false
set_option linter.unusedVariables false
set_option maxRecDepth 100000
open Go.RowKit Go.Deep

theorem ver_bad (l is : List Int) (cov : List (List Int)) (hl : ¬ 1024 < l.length) (h : verB l is cov = false) : verR l is cov = 18 := by unfold verR; rw [if_neg hl, h]; rfl
theorem verB_first (l is : List Int) (cov : List (List Int)) (h : incB l is = false) : verB l is cov = false := by unfold verB; rw [h]; rfl
theorem verB_len (l is : List Int) (cov : List (List Int)) (h : is.length ≠ cov.length) : verB l is cov = false := by unfold verB; rw [decide_eq_false h, Bool.and_false]; rfl
theorem verB_pile (l is : List Int) (cov : List (List Int)) {k : Nat} (hk : k < cov.length) (h : pileB l cov[k] = false) : verB l is cov = false := by
  unfold verB
  have : cov.all (pileB l) = false := by rw [List.all_eq_false]; exact ⟨cov[k], List.getElem_mem hk, by rw [h]; decide⟩
  rw [this, Bool.false_and, Bool.and_false]
theorem verB_cnt (l is : List Int) (cov : List (List Int)) (h : cntB l cov = false) : verB l is cov = false := by unfold verB; rw [h, Bool.and_false, Bool.and_false]
theorem pile_off (l c : List Int) {i : Nat} (hi : i < c.length) (h : okD l c i = false) : pileB l c = false := by
  unfold pileB desB
  rw [all_falseP hi h, Bool.and_false]
theorem pile_on (l c : List Int) (h0 : 0 < c.length) (h : (List.range c.length).all (okD l c) = true) : pileB l c = true := by
  unfold pileB desB
  rw [h, decide_eq_true h0]; rfl
theorem count_take (c : List Int) (i : Nat) (hi : i < c.length) (j : Int) : (c.take (i + 1)).count j = (c.take i).count j + if j = c[i] then 1 else 0 := by
  rw [take_succ_int c i hi, List.count_append, List.count_singleton]
  by_cases h : j = c[i]
  · rw [if_pos h, if_pos (by simp [h])]
  · rw [if_neg h, if_neg (by simp; exact fun e => h e.symm)]
theorem cntB_iff (l : List Int) (cov : List (List Int)) : cntB l cov = true ↔ ∀ i : Nat, i < l.length → cov.flatten.count (i : Int) = 1 := by
  unfold cntB
  rw [List.all_eq_true]
  constructor
  · intro h i hi
    simpa using h i (by simpa using hi)
  · intro h i hi
    simpa using h i (by simpa using hi)
set_option maxHeartbeats 8000000 in
theorem refVer_any (l is : List Int) (cov : List (List Int)) (hl12 : l.length ≤ 12 ∨ 1024 < l.length) (hlm : l.length ≤ 1000000) (his : is.length ≤ 1000000) (hcv : cov.length ≤ 12) (hcl : ∀ c ∈ cov, c.length ≤ 12) (v u x : Value) (w : World) (hv : IntsAt w v l) (hu : IntsAt w u is) (hx : ListsAt w x cov) :
    Calls Try.prog 31 #[v, u, x] w fun e w' => e = .returned (intV (verR l is cov)) ∧ Below w.heap.size w w' := by
  have HV := Lib.hid hv
  have HU := Lib.hid hu
  have HX := Lib.hid hx
  have HI := Lib.hid (refIncr_any l is his hlm v u w hv hu)
  obtain ⟨a, cap, rfl⟩ := hv.slice
  obtain ⟨au, cu, rfl⟩ := hu.slice
  obtain ⟨ax, cx, rfl⟩ := hx.slice
  by_cases h1 : 1024 < l.length
  · have t1 : decide ((1024 : Int) < (l.length : Int)) = true := decide_eq_true (by omega)
    have e : verR l is cov = 4 := by unfold verR; rw [if_pos h1]
    rw [e]
    clear hv hu hx e
    go_enter Try.func31, Try.ntmps31
    go_wp2
    go_ret
    exact ⟨rfl, Below.refl _ _⟩
  have t1 : decide ((1024 : Int) < (l.length : Int)) = false := decide_eq_false (by omega)
  have hl : l.length ≤ 12 := by omega
  obtain ⟨r, hr⟩ : ∃ r, verR l is cov = r := ⟨_, rfl⟩
  have HBAD := Lib.hid (fun h => hr.symm.trans (ver_bad l is cov h1 h))
  have HGOOD := Lib.hid (show verB l is cov = true → r = 0 from fun h => by rw [← hr]; unfold verR; rw [if_neg h1, if_pos h])
  have HVF := Lib.hid (verB_first l is cov)
  have HVL := Lib.hid (verB_len l is cov)
  have HVP := Lib.hid (fun k hk h => verB_pile l is cov (k := k) hk h)
  have HVC := Lib.hid (verB_cnt l is cov)
  have HCL := Lib.hid hcl
  rw [hr]
  obtain ⟨p, hp⟩ : ∃ p, incB l is = p := ⟨_, rfl⟩
  have HP := Lib.hid hp
  rw [hp] at HI
  clear hv hu hx hr h1 hp hcl hl12 his
  cases p with
  | false =>
    have HR := Lib.hid (HBAD.out (HVF.out HP.out))
    go_enter Try.func31, Try.ntmps31
    go_wp2_with fail
    refine HI.out.mono ?_
    rintro e w2 ⟨rfl, h2⟩
    have HB2 := Lib.hid h2
    clear h2
    go_wp2
    go_ret
    exact ⟨by rw [HR.out]; rfl, HB2.out⟩
  | true =>
    by_cases hlen : is.length = cov.length
    · have hne : ((is.length : Int) != (cov.length : Int)) = false := by rw [hlen]; simp
      have HLN := Lib.hid hlen
      have hmk := run_make_row' (P := Try.prog) 22 3 (intV 0) 8 rfl info_int rfl
      have hmk1 := fun W => hmk .i64 .i64 l.length (by omega) (by omega) W
      clear hlen hmk
      go_enter Try.func31, Try.ntmps31
      go_wp2_with fail
      refine HI.out.mono ?_
      rintro e w2 ⟨rfl, h2⟩
      have HB2 := Lib.hid h2
      clear h2
      go_wp2_with fail
      clear hmk1 hne
      have hrow := RowN.of_row (World.rowIs_made w2 (intV 0) l.length 3)
      obtain ⟨wa, hwa⟩ : ∃ x, w2.alloc (.cells (madeCells #[intV 0] l.length) 3) = x := ⟨_, rfl⟩
      have hBa : Below w.heap.size w wa := by rw [← hwa]; exact HB2.out.alloc HB2.out.size _
      rw [hwa] at hrow
      try rw [hwa]
      have HROW0 := Lib.hid hrow
      have HB0 := Lib.hid hBa
      obtain ⟨R, hR⟩ : ∃ R, w2.heap.size = R := ⟨_, rfl⟩
      rw [hR] at HROW0
      try rw [hR]
      have hRw : w.heap.size ≤ R := by rw [← hR]; exact HB2.out.size
      clear hwa hrow hBa hR
      go_loopw [8] (fun i wr => ∃ k : Nat, k ≤ cov.length ∧ i = .int .i64 k ∧ Below w.heap.size w wr ∧ (cov.take k).all (pileB l) = true ∧ RowN wr R 3 l.length (fun j => intV ((cov.take k).flatten.count (j : Int) : Nat))) (fun i _ => cov.length - (intOf i).toNat)
      case atStart => exact ⟨0, Nat.zero_le _, rfl, HB0.out, rfl, HROW0.out.congr fun j _ => by simp⟩
      case round =>
        obtain ⟨k, hk, rfl, hB, hall, hrow⟩ := hrel
        obtain ⟨wk, rfl⟩ : ∃ x, x = wr := ⟨_, rfl⟩
        have HB := Lib.hid hB
        have HALL := Lib.hid hall
        have HROW := Lib.hid hrow
        by_cases hlt : k < cov.length
        · obtain ⟨bk, ok, sk, ck, rfl, hbb, c0, hu⟩ := HX.out.elem hlt
          have c1 := (hB.cell (p := ⟨bk, ok + k, none⟩) hbb).trans c0
          have HBADK := Lib.hid (fun h => HBAD.out (HVP.out k hlt h))
          have HTKS := Lib.hid (show pileB l cov[k] = true → (cov.take (k + 1)).all (pileB l) = true from fun h => by rw [List.take_succ_eq_append_getElem hlt, List.all_append, hall]; simp [h])
          have HFS := Lib.hid (flat_succ cov k hlt)
          have hcb := HCL.out cov[k] (List.getElem_mem hlt)
          have hfl : (cov.take k).flatten.length ≤ 144 := by
            have h1 := flat_bound 12 (cov.take k) (fun c hc => HCL.out c (List.mem_of_mem_take hc))
            rw [List.length_take] at h1
            have h2 : 12 * min k cov.length ≤ 12 * 12 := Nat.mul_le_mul_left _ (by omega)
            omega
          obtain ⟨S, hS⟩ : ∃ S, (cov.take k).flatten = S := ⟨_, rfl⟩
          obtain ⟨c, hc⟩ : ∃ c, cov[k] = c := ⟨_, rfl⟩
          rw [hS, hc] at HFS
          rw [hc] at HBADK HTKS hcb c1 hu
          rw [hS] at hfl
          have HROW1 := Lib.hid (show RowN wk R 3 l.length (fun j => intV (S.count (j : Int) : Nat)) by rw [← hS]; exact hrow)
          have HUC := Lib.hid hu
          obtain ⟨m, hm⟩ : ∃ m, c.length = m := ⟨_, rfl⟩
          have HM := Lib.hid hm
          rw [hm] at c1 hcb
          clear hB hall hrow c0 hbb hS hc hm hu HROW
          by_cases hm0 : m = 0
          · have HR := Lib.hid (HBADK.out (by unfold pileB; rw [decide_eq_false (show ¬ 0 < c.length by have := HM.out; omega)]; rfl))
            subst hm0
            go_wp2
            go_ret
            exact ⟨by rw [HR.out]; rfl, HB.out⟩
          · have hmz : ((m : Int) == 0) = false := by rw [beq_eq_false_iff_ne]; omega
            have HMP := Lib.hid (Nat.pos_of_ne_zero hm0)
            clear hm0
            go_wp2
            clear c1
            go_loopw [10] (fun iv wr => ∃ i : Nat, i ≤ m ∧ iv = .int .i64 i ∧ Below w.heap.size w wr ∧ (List.range i).all (okD l c) = true ∧ RowN wr R 3 l.length (fun j => intV (S.count (j : Int) + (c.take i).count (j : Int) : Nat))) (fun iv _ => m - (intOf iv).toNat)
            case atStart => exact ⟨0, Nat.zero_le _, rfl, HB.out, rfl, HROW1.out.congr fun j _ => by simp⟩
            case round =>
              obtain ⟨i, hi, rfl, hBi, hall, hrow⟩ := hrel
              obtain ⟨wi, rfl⟩ : ∃ x, x = wr := ⟨_, rfl⟩
              have HBI := Lib.hid hBi
              have HALLI := Lib.hid hall
              have HROW := Lib.hid hrow
              have HBD := Lib.hid (fun j => hBi.trans (below_drewN_n w.heap.size wi j))
              by_cases hlti : i < m
              · have hic : i < c.length := by have := HM.out; omega
                obtain ⟨b, off, eb, hbb, c0⟩ := (show IntsAt w (.slice sk c.length ck) c from HUC.out).elem hic
                have hcell : wi.cell? ⟨b, off + i, none⟩ = some (.int .i64 c[i]) := (hBi.cell (p := ⟨b, off + i, none⟩) hbb).trans c0
                subst eb
                have hxk : ix c i = c[i] := ix_get c i hic
                have HCT := Lib.hid (fun j => count_take c i hic j)
                have i0 : (0 : Int) ≤ (i : Int) := by omega
                have i1 : (i : Int) < (m : Int) := by omega
                obtain ⟨x, hx⟩ : ∃ x, c[i] = x := ⟨_, rfl⟩
                rw [hx] at hcell hxk HCT
                have HXK := Lib.hid hxk
                have HFF := Lib.hid (fun (h : okD l c i = false) => HBADK.out (pile_off l c hic h))
                clear hall hBi c0 hbb hx hxk hrow hic
                by_cases hx0 : x < 0
                · have HRF := Lib.hid (HFF.out (okD_out (by rw [HXK.out]; unfold inB; rw [decide_eq_false (show ¬ 0 ≤ x by omega)]; rfl)))
                  have t0 : decide (x < 0) = true := decide_eq_true hx0
                  go_wp2_with fail
                  go_quiet (fail)
                  clear hcell
                  go_wp2
                  go_ret
                  exact ⟨by rw [HRF.out]; rfl, HBD.out _⟩
                have t0 : decide (x < 0) = false := decide_eq_false hx0
                by_cases hx1 : (l.length : Int) ≤ x
                · have HRF := Lib.hid (HFF.out (okD_out (by rw [HXK.out]; unfold inB; rw [decide_eq_false (show ¬ x < (l.length : Int) by omega), Bool.and_false])))
                  have t1 : decide ((l.length : Int) ≤ x) = true := decide_eq_true hx1
                  go_wp2_with fail
                  go_quiet (fail)
                  clear hcell
                  go_wp2
                  go_ret
                  exact ⟨by rw [HRF.out]; rfl, HBD.out _⟩
                have hin : inB l x = true := by unfold inB; rw [decide_eq_true (show 0 ≤ x by omega), decide_eq_true (show x < (l.length : Int) by omega)]; rfl
                have HQ := Lib.hid hin
                obtain ⟨z, hz, hzz⟩ := in_nat hin
                subst hzz
                have t1 : decide (l.length ≤ z) = false := decide_eq_false (by omega)
                obtain ⟨bl, ol, hal, hbl, cl⟩ := HV.out.elem hz
                have d2 := (HBI.out.cell (p := ⟨bl, ol + z, none⟩) hbl).trans cl
                subst hal
                have z0 : (0 : Int) ≤ (z : Int) := by omega
                have z1 : (z : Int) < (l.length : Int) := by omega
                have hlz := at0_get l z hz
                obtain ⟨lz, hlzz⟩ : ∃ lz, l[z] = lz := ⟨_, rfl⟩
                rw [hlzz] at d2 hlz
                have HLZ := Lib.hid hlz
                have hzb : z ≤ 12 := by omega
                have HZL := Lib.hid hz
                clear hbl cl hlz hlzz hz hin hx0 hx1
                by_cases hk0 : i = 0
                · subst hk0
                  rw [Nat.add_zero] at hcell
                  have HS := Lib.hid (all_succP HALLI.out (okD_zero (by rw [HXK.out]; exact HQ.out)))
                  have t2 : decide ((0 : Int) < ((0 : Nat) : Int)) = false := rfl
                  go_wp2_with fail
                  go_quiet (fail)
                  clear d2
                  obtain ⟨wx, hwx⟩ : ∃ x, wi.drewN nq = x := ⟨_, rfl⟩
                  have hcell2 : wx.cell? ⟨b, off, none⟩ = some (.int .i64 z) := by rw [← hwx]; exact hcell
                  have HRX := Lib.hid (show RowN wx R 3 l.length (fun j => intV (S.count (j : Int) + (c.take 0).count (j : Int) : Nat)) by rw [← hwx]; exact HROW.out.drewN nq)
                  have HBX := Lib.hid (show Below w.heap.size w wx by rw [← hwx]; exact HBD.out nq)
                  rw [hwx]
                  clear hwx hcell
                  have hcz := HRX.out.cell HZL.out
                  have hfz := HRX.out.frozen z
                  obtain ⟨q, hq⟩ : ∃ q, S.count (z : Int) + (c.take 0).count (z : Int) = q := ⟨_, rfl⟩
                  have hqb : q ≤ 1000 := by
                    rw [← hq]
                    have h1 := List.count_le_length (a := (z : Int)) (l := S)
                    have h2 := List.count_le_length (a := (z : Int)) (l := c.take 0)
                    have h3 := List.length_take_le 0 c
                    omega
                  simp only [hq] at hcz
                  have hwq : IntKind.i64.wrap ((q : Int) + 1) = ((q + 1 : Nat) : Int) := by rw [show (q : Int) + 1 = ((q + 1 : Nat) : Int) by omega]; exact IntWalk.i64_in _ (by omega)
                  obtain ⟨q1, hq1⟩ : ∃ q1, q + 1 = q1 := ⟨_, rfl⟩
                  rw [hq1] at hwq
                  have HQC := Lib.hid (And.intro hq hq1)
                  have HSET := Lib.hid (HRX.out.set z (intV q1))
                  have HBS := Lib.hid (HBX.out.setCell (p := ⟨R, z, none⟩) hRw (intV q1))
                  clear hq hq1
                  go_wp2
                  go_roundw
                  case rel =>
                    refine ⟨0 + 1, by omega, by go_num, HBS.out, HS.out, HSET.out.congr fun j hj => ?_⟩
                    rw [HCT.out]
                    by_cases e : j = z
                    · subst e
                      have h9 := HQC.out
                      rw [if_pos rfl, if_pos rfl]
                      congr 2
                      omega
                    · rw [if_neg e, if_neg (by omega)]; simp
                  case measure => simp [intOf]; omega
                · obtain ⟨p, hkp⟩ : ∃ p, i = p + 1 := ⟨i - 1, by omega⟩
                  have hpc : p < c.length := by have := HM.out; omega
                  obtain ⟨b', off', e', hb', cp⟩ := (show IntsAt w (.slice (some ⟨b, off, none⟩) c.length ck) c from HUC.out).elem hpc
                  cases e'
                  have dp := (HBI.out.cell (p := ⟨b, off + p, none⟩) hb').trans cp
                  have hyi := okD_in (all_getP HALLI.out (show p < i by omega))
                  have hyp : ix c p = c[p] := ix_get c p hpc
                  rw [hyp] at hyi
                  obtain ⟨y, hy, hyy⟩ := in_nat hyi
                  rw [hyy] at dp hyp
                  have HNX := Lib.hid (okD_next (p := p) HQ.out hyp (by rw [← hkp]; exact HXK.out))
                  rw [← hkp] at HNX
                  obtain ⟨bl', ol', hal, hbl', cl'⟩ := HV.out.elem hy
                  cases hal
                  have d1 := (HBI.out.cell (p := ⟨bl, ol + y, none⟩) hbl').trans cl'
                  have hly := at0_get l y hy
                  obtain ⟨ly, hlyy⟩ : ∃ ly, l[y] = ly := ⟨_, rfl⟩
                  rw [hlyy] at d1 hly
                  rw [HLZ.out, hly] at HNX
                  have y0 : (0 : Int) ≤ (y : Int) := by omega
                  have y1 : (y : Int) < (l.length : Int) := by omega
                  have hwp : IntKind.i64.wrap ((i : Int) - 1) = (p : Int) := by rw [show (i : Int) - 1 = (p : Int) by omega]; exact IntWalk.i64_in _ (by omega)
                  have p0 : (0 : Int) ≤ (p : Int) := by omega
                  have p1 : (p : Int) < (m : Int) := by omega
                  have hkpos : 0 < i := by omega
                  clear hb' cp hyi hyp hyy hbl' cl' hly hlyy hy hkp hpc hk0
                  by_cases hyz : z ≤ y
                  · have t3 : decide (z ≤ y) = true := decide_eq_true hyz
                    have HRF := Lib.hid (HFF.out (by rw [HNX.out, decide_eq_false (show ¬ (y : Int) < z by omega)]; rfl))
                    clear d1 d2
                    go_wp2_with fail
                    go_quiet (fail)
                    clear dp hcell
                    go_wp2
                    go_ret
                    exact ⟨by rw [HRF.out]; rfl, HBD.out _⟩
                  · have t3 : decide (z ≤ y) = false := decide_eq_false hyz
                    rw [decide_eq_true (show (y : Int) < z by omega), Bool.true_and] at HNX
                    by_cases hll2 : ly < lz
                    · have t4 : decide (ly < lz) = true := decide_eq_true hll2
                      have HRF := Lib.hid (HFF.out (by rw [HNX.out, decide_eq_false (show ¬ lz ≤ ly by omega)]))
                      go_wp2_with fail
                      go_quiet (fail)
                      clear d1 d2 dp hcell
                      go_wp2
                      go_ret
                      exact ⟨by rw [HRF.out]; rfl, HBD.out _⟩
                    · have t4 : decide (ly < lz) = false := decide_eq_false hll2
                      have HS := Lib.hid (all_succP HALLI.out (by rw [HNX.out, decide_eq_true (show lz ≤ ly by omega)]))
                      go_wp2_with fail
                      go_quiet (fail)
                      clear d1 d2 dp hwp p0 p1
                      obtain ⟨wx, hwx⟩ : ∃ x, wi.drewN nq = x := ⟨_, rfl⟩
                      have hcell2 : wx.cell? ⟨b, off + i, none⟩ = some (.int .i64 z) := by rw [← hwx]; exact hcell
                      have HRX := Lib.hid (show RowN wx R 3 l.length (fun j => intV (S.count (j : Int) + (c.take i).count (j : Int) : Nat)) by rw [← hwx]; exact HROW.out.drewN nq)
                      have HBX := Lib.hid (show Below w.heap.size w wx by rw [← hwx]; exact HBD.out nq)
                      rw [hwx]
                      clear hwx hcell
                      have hcz := HRX.out.cell HZL.out
                      have hfz := HRX.out.frozen z
                      obtain ⟨q, hq⟩ : ∃ q, S.count (z : Int) + (c.take i).count (z : Int) = q := ⟨_, rfl⟩
                      have hqb : q ≤ 1000 := by
                        rw [← hq]
                        have h1 := List.count_le_length (a := (z : Int)) (l := S)
                        have h2 := List.count_le_length (a := (z : Int)) (l := c.take i)
                        have h3 := List.length_take_le i c
                        omega
                      simp only [hq] at hcz
                      have hwq : IntKind.i64.wrap ((q : Int) + 1) = ((q + 1 : Nat) : Int) := by rw [show (q : Int) + 1 = ((q + 1 : Nat) : Int) by omega]; exact IntWalk.i64_in _ (by omega)
                      obtain ⟨q1, hq1⟩ : ∃ q1, q + 1 = q1 := ⟨_, rfl⟩
                      rw [hq1] at hwq
                      have HQC := Lib.hid (And.intro hq hq1)
                      have HSET := Lib.hid (HRX.out.set z (intV q1))
                      have HBS := Lib.hid (HBX.out.setCell (p := ⟨R, z, none⟩) hRw (intV q1))
                      clear hq hq1
                      go_wp2
                      go_roundw
                      case rel =>
                        refine ⟨i + 1, by omega, by go_num, HBS.out, HS.out, HSET.out.congr fun j hj => ?_⟩
                        rw [HCT.out]
                        by_cases e : j = z
                        · subst e
                          have h9 := HQC.out
                          rw [if_pos rfl, if_pos rfl]
                          congr 2
                          omega
                        · rw [if_neg e, if_neg (by omega)]; simp
                      case measure => simp [intOf]; omega
              · obtain rfl : i = m := by omega
                have HPO := Lib.hid (HTKS.out (pile_on l c (by have := HM.out; have := HMP.out; omega) (by rw [HM.out]; exact hall)))
                have HRN := Lib.hid (show RowN wi R 3 l.length (fun j => intV ((cov.take (k + 1)).flatten.count (j : Int) : Nat)) from hrow.congr fun j _ => by rw [HFS.out, List.count_append, List.take_of_length_le (by rw [HM.out]; exact Nat.le_refl _)])
                clear hall hrow hBi
                go_wp2
                go_roundw
                case rel => exact ⟨k + 1, by omega, by go_num, HBI.out, HPO.out, HRN.out⟩
                case measure => simp [intOf]; omega
        · obtain rfl : k = cov.length := by omega
          rw [List.take_length] at hall hrow
          have HALL2 := Lib.hid hall
          have HROW2 := Lib.hid hrow
          have hfl : cov.flatten.length ≤ 144 := by
            have h1 := flat_bound 12 cov HCL.out
            have h2 : 12 * cov.length ≤ 12 * 12 := Nat.mul_le_mul_left _ hcv
            omega
          obtain ⟨F, hF⟩ : ∃ F, cov.flatten = F := ⟨_, rfl⟩
          have HCI := Lib.hid (cntB_iff l cov)
          rw [hF] at HROW2 HCI hfl
          clear hall hrow hB HALL HROW hF
          go_wp2
          go_loopw [11] (fun iv wr => ∃ i : Nat, i ≤ l.length ∧ iv = .int .i64 i ∧ wr = wk ∧ ∀ j : Nat, j < i → F.count (j : Int) = 1) (fun iv _ => l.length - (intOf iv).toNat)
          case atStart => exact ⟨0, Nat.zero_le _, rfl, rfl, fun j hj => by omega⟩
          case round =>
            obtain ⟨i, hi, rfl, rfl, hone⟩ := hrel
            have HONE := Lib.hid hone
            by_cases hlti : i < l.length
            · have hci := HROW2.out.cell hlti
              obtain ⟨q, hq⟩ : ∃ q, F.count (i : Int) = q := ⟨_, rfl⟩
              rw [hq] at hci
              have HQQ := Lib.hid hq
              have hqb : q ≤ 144 := by rw [← hq]; exact Nat.le_trans List.count_le_length hfl
              have i0 : (0 : Int) ≤ (i : Int) := by omega
              have i1 : (i : Int) < (l.length : Int) := by omega
              clear hone hq
              by_cases hq1 : q = 1
              · subst hq1
                go_wp2
                go_roundw
                case rel => exact ⟨i + 1, by omega, by go_num, trivial, fun j hj => by
                  rcases Nat.lt_or_ge j i with h | h
                  · exact HONE.out j h
                  · obtain rfl : j = i := by omega
                    exact HQQ.out⟩
                case measure => simp [intOf]; omega
              · have hne : ((q : Int) != 1) = true := by rw [bne_iff_ne]; omega
                have HRF := Lib.hid (HBAD.out (HVC.out (by
                  rw [Bool.eq_false_iff]
                  intro h
                  have := HCI.out.1 h i hlti
                  rw [HQQ.out] at this
                  exact hq1 this)))
                go_wp2
                go_ret
                exact ⟨by rw [HRF.out]; rfl, HB.out⟩
            · obtain rfl : i = l.length := by omega
              have HRT := Lib.hid (HGOOD.out (by
                unfold verB
                rw [HP.out, decide_eq_true HLN.out, HALL2.out, HCI.out.2 hone]; rfl))
              clear hone
              go_wp2
              go_ret
              exact ⟨by rw [HRT.out]; rfl, HB.out⟩
    · have hne : ((is.length : Int) != (cov.length : Int)) = true := by rw [bne_iff_ne]; omega
      have HR := Lib.hid (HBAD.out (HVL.out hlen))
      clear hlen
      go_enter Try.func31, Try.ntmps31
      go_wp2_with fail
      refine HI.out.mono ?_
      rintro e w2 ⟨rfl, h2⟩
      have HB2 := Lib.hid h2
      clear h2
      go_wp2
      go_ret
      exact ⟨by rw [HR.out]; rfl, HB2.out⟩
end Go.Proofs.Yteceahbnafaeoaa
