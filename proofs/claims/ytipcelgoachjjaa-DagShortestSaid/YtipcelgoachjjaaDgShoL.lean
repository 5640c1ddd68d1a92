/- The law DagShortest. -/
import Derived.Deep.RegionHeld3
import Derived.Test.YtipcelgoachjjaaDgAll
import Derived.Test.YtipcelgoachjjaaDgSlices
namespace Go.Proofs.Ytipcelgoachjjaa
set_option linter.unusedSimpArgs false
set_option linter.unusedVariables false
set_option maxRecDepth 100000
open Go.RowKit Go.Deep

set_option maxHeartbeats 1000000 in
theorem sho1_any (FP q : List Int) (lf : FP.length ≤ 1000000) (lq : q.length ≤ 1000000) (bp : Nat) (vp u : Value) (w : World) (hc : w.cell? ⟨bp, 0, none⟩ = some vp) (hp : IntsAt w vp FP) (hu : IntsAt w u q) (r : Bool) (hr : decide (FP = q) = r) :
    Calls Try.prog 31 #[u, .pointer (some ⟨bp, 0, none⟩)] w fun e w' => e = .returned (.bool r) ∧ Below w.heap.size w w' := by
  have HE := Lib.hid (equal_any FP q r hr vp u w hp hu lf lq)
  obtain ⟨ap, cp, rfl⟩ := hp.slice
  obtain ⟨au, cu, rfl⟩ := hu.slice
  clear hp hu hr
  go_enter Try.func31, Try.ntmps31
  go_wp2_with fail
  refine HE.out.mono ?_
  rintro e w1 ⟨rfl, mm, rfl⟩
  go_wp2
  go_ret
  exact ⟨rfl, below_drewN _ _⟩
set_option maxHeartbeats 2000000 in
theorem sho2_any {n : Int} (ls : List LkV) (hg : Gr n ls) (FP : List Int) (q : List Nat) (hq : ∀ i ∈ q, i < ls.length) (D : Int) (lf : FP.length ≤ 1000000) (lq : q.length ≤ 4096) (h1 : D ≤ cst ls q) (h2 : cst ls q = D → 0 ≤ lexI (toI q) FP) (bl bc bp : Nat) (vl vp u : Value) (w : World)
    (hcl : w.cell? ⟨bl, 0, none⟩ = some vl) (hcc : w.cell? ⟨bc, 0, none⟩ = some (intV D)) (hcp : w.cell? ⟨bp, 0, none⟩ = some vp) (hl : LinksAt w vl ls) (hp : IntsAt w vp FP) (hu : IntsAt w u (toI q)) :
    Calls Try.prog 33 #[u, .pointer (some ⟨bl, 0, none⟩), .pointer (some ⟨bc, 0, none⟩), .pointer (some ⟨bp, 0, none⟩)] w fun e w' => e = .returned (.bool false) ∧ Below w.heap.size w w' := by
  obtain ⟨d, hd⟩ : ∃ d, cst ls q = d := ⟨_, rfl⟩
  obtain ⟨z, hz⟩ : ∃ d, lexI (toI q) FP = d := ⟨_, rfl⟩
  have HCO := Lib.hid (cost_any ls hg q hq lq d hd vl u w hl hu)
  have HCM := Lib.hid (compare_any (toI q) FP z hz u vp w hu hp (by rw [List.length_map]; omega) lf)
  rw [hd] at h1 h2
  rw [hz] at h2
  obtain ⟨al, cl, rfl⟩ := hl.slice
  obtain ⟨ap, cp, rfl⟩ := hp.slice
  obtain ⟨au, cu, rfl⟩ := hu.slice
  rw [List.length_map] at *
  clear hl hp hu hd hz hq
  by_cases he : d = D
  · have hz0 := h2 he
    subst he
    have hzn : ¬ z < 0 := by omega
    clear h2 hz0
    go_enter Try.func33, Try.ntmps33
    go_wp2_with fail
    refine HCO.out.mono ?_
    rintro e w1 ⟨rfl, rfl⟩
    go_wp2_with fail
    refine HCM.out.mono ?_
    rintro e w1 ⟨rfl, rfl⟩
    go_wp2
    go_ret
    exact ⟨ret_bool (by simp; omega), Below.refl _ _⟩
  · have heb : (d == D) = false := by simpa using he
    have hdl : ¬ d < D := by omega
    clear h2
    go_enter Try.func33, Try.ntmps33
    go_wp2_with fail
    refine HCO.out.mono ?_
    rintro e w1 ⟨rfl, rfl⟩
    go_wp2
    go_ret
    exact ⟨ret_bool (decide_eq_false (by omega)), Below.refl _ _⟩
set_option maxHeartbeats 8000000 in
theorem dagShortest_any (w : World) (n : Int) (v : Value) (ls : List LkV) (s t : Int) (hn : (Lit.int .i64 n).wf = true) (hv : LinksAt w v ls) (hl : ls.length ≤ maxLen) (hs : (Lit.int .u8 s).wf = true) (ht : (Lit.int .u8 t).wf = true) :
    Calls Try.prog 5 #[intV n, v, u8V s, u8V t] w fun e w' => e = .returned (.bool true) ∧ Below w.heap.size w w' := by
  have ht := wf_u8 ht
  have hs := wf_u8 hs
  obtain ⟨B5, hB5⟩ : ∃ x, w.heap.size = x := ⟨_, rfl⟩
  obtain ⟨w0, hw0⟩ : ∃ x, w.alloc (.cells #[v] 22) = x := ⟨_, rfl⟩
  have hb0 : Below w.heap.size w w0 := by rw [← hw0]; exact alloc_below _ _
  have hc5 : w0.cell? ⟨B5, 0, none⟩ = some v := by rw [← hw0, ← hB5, World.cell?_alloc_new]; rfl
  have hlt5 : B5 < w0.heap.size := by rw [← hw0]; simp; omega
  have hv0 := hv.below hb0
  have HV := Lib.hid hv0
  have HB0 := Lib.hid hb0
  cases hok : okR n ls with
  | false =>
    have HF := Lib.hid (fine_no n ls s t hs ht v w0 hv0 hl hok)
    obtain ⟨av, cv, rfl⟩ := hv.slice
    clear hn hv hl ht hs hok hb0 hv0 hlt5
    go_enter Try.func5, Try.ntmps5
    go_wp2_with fail
    refine HF.out.mono ?_
    rintro e w1 ⟨rfl, b1⟩
    have B1 := Lib.hid (below_then HB0.out b1)
    clear b1
    go_wp2_with fail
    refine (awake_any _).mono ?_
    rintro e w2 ⟨rfl, b2⟩
    have B2 := Lib.hid (below_then B1.out b2)
    clear b2
    go_wp2
    go_ret
    exact ⟨rfl, by first | exact B2.out | (rw [hB5] at B2; exact B2.out)⟩
  | true =>
    have HF := Lib.hid (fine_yes n ls s t hs ht v w0 hv0 hl hok)
    obtain ⟨hgr, hc⟩ := okR_spec hok
    have hb := node_of hc ht
    have ha := node_of hc hs
    obtain ⟨av, cv, rfl⟩ := hv.slice
    obtain ⟨m, rfl, hsm⟩ := small_of hgr hc
    obtain ⟨k, hk, hkm⟩ := nat_of hb
    obtain ⟨j, hj, hjm⟩ := nat_of ha
    rw [hk] at hb HF
    rw [hj] at ha HF
    have HS := Lib.hid (sho_ok hc ha hb)
    have HGR := Lib.hid hgr
    have HSM := Lib.hid hsm
    have hm8 := hsm.n8
    have hkm2 : (k : Int) < (m : Int) := by omega
    obtain ⟨L, hL⟩ : ∃ l, (P ls k j).map toI = l := ⟨_, rfl⟩
    have HPA := Lib.hid (fun W hW => paths_any m ls hsm (k : Int) hkm2 (.slice av ls.length cv) (j : Int) W hW)
    rw [hL] at HPA
    have HE0 := Lib.hid (fun (W : World) (hB : Below w0.heap.size w0 W) => (hB.cell (p := ⟨B5, 0, none⟩) hlt5).trans hc5)
    have HB5L := Lib.hid hlt5
    obtain ⟨D, hD⟩ : ∃ x, least ls k j = x := ⟨_, rfl⟩
    rw [hD] at HS
    by_cases hD1 : D = -1
    · have hLn : L.length = 0 := by rw [← hL, (low_P hsm.g).1 (hD.trans hD1)]; rfl
      have HD1 := Lib.hid hD1
      clear hn hv hl ht hs hok hgr hc hb ha hk hj hsm hD1 hD hL hb0 hv0 hlt5
      go_enter Try.func5, Try.ntmps5
      go_wp2_with fail
      refine HF.out.mono ?_
      rintro e w1 ⟨rfl, b1⟩
      have B1 := Lib.hid b1
      have e1 := HE0.out w1 b1
      clear b1
      go_wp2_with fail
      refine (Shortest_any m ls j k _ w1 (HV.out.below B1.out) HGR.out ([], 0, 6) (by rw [HS.out, if_pos HD1.out])).mono ?_
      rintro e w2 ⟨v2, rfl, i2, b2⟩
      obtain ⟨a2, c2, rfl⟩ := i2.slice
      obtain ⟨wa, hwa⟩ : ∃ x, w2.alloc (.cells #[.slice a2 0 c2] 23) = x := ⟨_, rfl⟩
      obtain ⟨w3, hw3⟩ : ∃ x, wa.alloc (.cells #[intV 0] 3) = x := ⟨_, rfl⟩
      have hsa : wa.heap.size = w2.heap.size + 1 := by rw [← hwa]; simp
      have hs3 : w3.heap.size = w2.heap.size + 1 + 1 := by rw [← hw3, World.size_alloc, hsa]
      have hb23 : Below w2.heap.size w2 w3 := by rw [← hw3, ← hwa]; exact ((Below.refl _ w2).alloc (Nat.le_refl _) _).alloc (by simp) _
      have B23 := Lib.hid hb23
      have B2 := Lib.hid (below_then B1.out b2)
      have B3 := Lib.hid (below_then B2.out hb23)
      have e5 := HE0.out w3 B3.out
      have hl12 : w2.heap.size < w3.heap.size := by omega
      have hl13 : w2.heap.size + 1 < w3.heap.size := by omega
      have e12 : w3.cell? ⟨w2.heap.size, 0, none⟩ = some (.slice a2 0 c2) := by rw [← hw3, World.cell?_alloc_lt _ _ _ (by rw [hsa]; simp), ← hwa, World.cell?_alloc_new]; rfl
      have e13 : w3.cell? ⟨w2.heap.size + 1, 0, none⟩ = some (intV 0) := by rw [← hw3, ← hsa, World.cell?_alloc_new]; rfl
      have e5x : ((w2.alloc (.cells #[.slice a2 0 c2] 23)).alloc (.cells #[intV 0] 3)).cell? ⟨B5, 0, none⟩ = some (.slice av ls.length cv) := by rw [hwa, hw3]; exact e5
      have HW := Lib.hid (And.intro hwa hw3)
      have HE := Lib.hid (And.intro e12 e13)
      clear hb23 b2 i2 e1 hwa hw3 e5 e12 e13
      go_wp2_with fail
      try rw [HW.out.1, HW.out.2]
      clear e5x
      have e12 := HE.out.1
      have e13 := HE.out.2
      refine (HPA.out w3 (HV.out.below B3.out)).mono ?_
      rintro e w4 ⟨v4, us, rfl, i4, b4⟩
      have B4 := Lib.hid (below_then B3.out b4)
      have g12 := (b4.cell (p := ⟨w2.heap.size, 0, none⟩) hl12).trans e12
      have g13 := (b4.cell (p := ⟨w2.heap.size + 1, 0, none⟩) hl13).trans e13
      obtain ⟨a4, c4, rfl, _⟩ := own_slice i4.top
      rw [i4.len, hLn]
      clear b4 i4 e12 e13
      go_wp2_with fail
      refine (awake_any _).mono ?_
      rintro e w5 ⟨rfl, b5⟩
      have B5' := Lib.hid (below_then HB0.out (below_then B4.out b5))
      clear b5
      go_wp2
      go_ret
      exact ⟨rfl, by first | exact B5'.out | (rw [hB5] at B5'; exact B5'.out)⟩
    · have hne : least ls k j ≠ -1 := by rw [hD]; exact hD1
      obtain ⟨f1, f2⟩ := first_mem hsm.g k j hne
      rw [hD] at f2
      have hlex := fun q hq => first_lex hsm.g k j q hq
      rw [hD] at hlex
      have hle := fun q hq => least_le_cst hsm.g (t := k) (s := j) (q := q) hq
      rw [hD] at hle
      have HLOW := Lib.hid (fun q hq => P_low hsm.g k j q hq)
      have HL8 := Lib.hid (fun q hq => P_len8 hsm.g (t := k) j q hq)
      obtain ⟨fp, hfp⟩ : ∃ l, first ls k j = l := ⟨_, rfl⟩
      rw [hfp] at f1 f2 HS hlex
      have hf8 : fp.length ≤ 8 := by have := HL8.out fp f1; omega
      have HF1 := Lib.hid f1
      have HF2 := Lib.hid f2
      have HLEX := Lib.hid hlex
      have HLE := Lib.hid hle
      have HLL := Lib.hid hL
      have hN16 : L.length ≤ 16384 := by rw [← hL, List.length_map]; exact npaths_small hsm.g hsm.l14 k j
      have hN0 : ¬ L.length = 0 := by
        rw [← hL, List.length_map]
        intro h
        rw [List.length_eq_zero_iff.1 h] at f1; cases f1
      have HD1 := Lib.hid hD1
      obtain ⟨FP, hFP⟩ : ∃ l, toI fp = l := ⟨_, rfl⟩
      have HFP := Lib.hid hFP
      have hFL : FP.length ≤ 8 := by rw [← hFP, List.length_map]; exact hf8
      rw [hFP] at HS
      clear hn hv hl ht hs hok hgr hc hb ha hk hj hsm hD1 hD hL hb0 hv0 hlt5 hne f1 f2 hlex hle hfp hFP
      go_enter Try.func5, Try.ntmps5
      go_wp2_with fail
      refine HF.out.mono ?_
      rintro e w1 ⟨rfl, b1⟩
      have B1 := Lib.hid b1
      have e1 := HE0.out w1 b1
      clear b1
      go_wp2_with fail
      refine (Shortest_any m ls j k _ w1 (HV.out.below B1.out) HGR.out (FP, D, 0) (by rw [HS.out, if_neg HD1.out])).mono ?_
      rintro e w2 ⟨v2, rfl, i2, b2⟩
      have I2 := Lib.hid i2
      obtain ⟨a2, c2, rfl⟩ := i2.slice
      obtain ⟨wa, hwa⟩ : ∃ x, w2.alloc (.cells #[.slice a2 FP.length c2] 23) = x := ⟨_, rfl⟩
      obtain ⟨w3, hw3⟩ : ∃ x, wa.alloc (.cells #[intV D] 3) = x := ⟨_, rfl⟩
      have hsa : wa.heap.size = w2.heap.size + 1 := by rw [← hwa]; simp
      have hs3 : w3.heap.size = w2.heap.size + 1 + 1 := by rw [← hw3, World.size_alloc, hsa]
      have hb23 : Below w2.heap.size w2 w3 := by rw [← hw3, ← hwa]; exact ((Below.refl _ w2).alloc (Nat.le_refl _) _).alloc (by simp) _
      have B23 := Lib.hid hb23
      have B2 := Lib.hid (below_then B1.out b2)
      have B3 := Lib.hid (below_then B2.out hb23)
      have e5 := HE0.out w3 B3.out
      have hl12 : w2.heap.size < w3.heap.size := by omega
      have hl13 : w2.heap.size + 1 < w3.heap.size := by omega
      have e12 : w3.cell? ⟨w2.heap.size, 0, none⟩ = some (.slice a2 FP.length c2) := by rw [← hw3, World.cell?_alloc_lt _ _ _ (by rw [hsa]; simp), ← hwa, World.cell?_alloc_new]; rfl
      have e13 : w3.cell? ⟨w2.heap.size + 1, 0, none⟩ = some (intV D) := by rw [← hw3, ← hsa, World.cell?_alloc_new]; rfl
      clear hb23 b2 i2 e1
      go_wp2_with fail
      try rw [hw3]
      refine (HPA.out w3 (HV.out.below B3.out)).mono ?_
      rintro e w4 ⟨v4, us, rfl, i4, b4⟩
      have B4 := Lib.hid (below_then B3.out b4)
      have g5 := HE0.out w4 B4.out
      have g12 := (b4.cell (p := ⟨w2.heap.size, 0, none⟩) hl12).trans e12
      have g13 := (b4.cell (p := ⟨w2.heap.size + 1, 0, none⟩) hl13).trans e13
      have k5 : B5 < w4.heap.size := Nat.lt_of_lt_of_le HB5L.out B4.out.size
      have k12 : w2.heap.size < w4.heap.size := Nat.lt_of_lt_of_le hl12 b4.size
      have k13 : w2.heap.size + 1 < w4.heap.size := Nat.lt_of_lt_of_le hl13 b4.size
      have I24 := Lib.hid (I2.out.below (below_then B23.out b4))
      have HLI := Lib.hid i4.lists
      obtain ⟨a4, c4, rfl, _⟩ := own_slice i4.top
      rw [i4.len] at HLI ⊢
      have HCF1 := Lib.hid (show ∀ W', Below w4.heap.size w4 W' → Calls Try.prog 30 #[.slice a4 L.length c4, .func (.func 31) #[] #[.pointer (some ⟨w2.heap.size, 0, none⟩)]] W' fun e w' => e = .returned (.bool true) ∧ Below W'.heap.size W' w' from fun W' hB =>
        containsL_any L (fun q => decide (FP = q)) 31 #[.pointer (some ⟨w2.heap.size, 0, none⟩)] Try.call31 true (List.any_eq_true.2 ⟨FP, by rw [← HLL.out, ← HFP.out]; exact List.mem_map.2 ⟨fp, HF1.out, rfl⟩, by simp⟩) _ W' (HLI.out.below hB) (by omega)
          (fun W hW l hl u hu => by
            have hWW := below_then hB hW
            have hl8 : l.length ≤ 1000000 := by
              rw [← HLL.out] at hl
              obtain ⟨q, hq, rfl⟩ := List.mem_map.1 hl
              have := HL8.out q hq
              rw [List.length_map]; omega
            exact sho1_any FP l (by omega) hl8 w2.heap.size _ u W ((hWW.cell (p := ⟨w2.heap.size, 0, none⟩) k12).trans g12) (I24.out.below hWW) hu _ rfl))
      have HCF2 := Lib.hid (show ∀ W', Below w4.heap.size w4 W' → Calls Try.prog 30 #[.slice a4 L.length c4, .func (.func 33) #[] #[.pointer (some ⟨B5, 0, none⟩), .pointer (some ⟨w2.heap.size + 1, 0, none⟩), .pointer (some ⟨w2.heap.size, 0, none⟩)]] W' fun e w' => e = .returned (.bool false) ∧ Below W'.heap.size W' w' from fun W' hB =>
        containsL_any L (fun _ => false) 33 #[.pointer (some ⟨B5, 0, none⟩), .pointer (some ⟨w2.heap.size + 1, 0, none⟩), .pointer (some ⟨w2.heap.size, 0, none⟩)] Try.call33 false (by simp) _ W' (HLI.out.below hB) (by omega)
          (fun W hW l hl u hu => by
            have hWW := below_then hB hW
            rw [← HLL.out] at hl
            obtain ⟨q, hq, rfl⟩ := List.mem_map.1 hl
            have h8 := HL8.out q hq
            exact sho2_any ls HSM.out.g FP q (HLOW.out q hq) D (by omega) (by omega) (HLE.out q hq) (fun e => by rw [← HFP.out, lexI_toI]; exact HLEX.out q hq e) B5 (w2.heap.size + 1) w2.heap.size _ _ u W ((hWW.cell (p := ⟨B5, 0, none⟩) k5).trans g5) ((hWW.cell (p := ⟨w2.heap.size + 1, 0, none⟩) k13).trans g13) ((hWW.cell (p := ⟨w2.heap.size, 0, none⟩) k12).trans g12) (HV.out.below (below_then B4.out hWW)) (I24.out.below hWW) hu))
      have HCO := Lib.hid (show ∀ W', Below w4.heap.size w4 W' → Calls Try.prog 32 #[.slice av ls.length cv, .slice a2 FP.length c2] W' fun e w' => e = .returned (intV D) ∧ W' = w' from fun W' hB =>
        cost_any ls HSM.out.g fp (HLOW.out fp HF1.out) (by omega) D HF2.out _ _ W' (HV.out.below (below_then B4.out hB)) (by rw [HFP.out]; exact I24.out.below hB))
      have HNW := Lib.hid (show ∀ W', Below w4.heap.size w4 W' → W'.cell? ⟨B5, 0, none⟩ = some (.slice av ls.length cv) ∧ W'.cell? ⟨w2.heap.size, 0, none⟩ = some (.slice a2 FP.length c2) ∧ W'.cell? ⟨w2.heap.size + 1, 0, none⟩ = some (intV D) from fun W' hB => ⟨(hB.cell (p := ⟨B5, 0, none⟩) k5).trans g5, (hB.cell (p := ⟨w2.heap.size, 0, none⟩) k12).trans g12, (hB.cell (p := ⟨w2.heap.size + 1, 0, none⟩) k13).trans g13⟩)
      clear b4 i4 e12 e13 e5 hwa hw3
      go_wp2_with fail
      go_region_held3 (fun w' => w'.cell? ⟨B5, 0, none⟩ = some (.slice av ls.length cv) ∧ w'.cell? ⟨w2.heap.size, 0, none⟩ = some (.slice a2 FP.length c2) ∧ w'.cell? ⟨w2.heap.size + 1, 0, none⟩ = some (intV D))
        (first | exact ⟨g5, g12, g13⟩ | exact HS5.out | assumption)
        (first
          | ((try go_simp); go_at_call 30; refine (HCF1.out _ (below_drew1 _ _)).mono ?_; rintro e w5 ⟨rfl, hB5'⟩; have HB5' := Lib.hid ((below_drew1 w4.heap.size w4).trans (hB5'.mono (Nat.le_refl _))); have HS5 := Lib.hid (HNW.out w5 HB5'.out); clear hB5')
          | ((try go_simp); go_at_call 32; refine (HCO.out _ HB5'.out).mono ?_; rintro e w6 ⟨rfl, rfl⟩)
          | (trace_state; sorry))
      all_goals
        go_wp2_with fail
        refine (HCF2.out _ HB5'.out).mono ?_
        rintro e w6 ⟨rfl, hB6⟩
        have B6 := Lib.hid (below_then (below_then B4.out HB5'.out) hB6)
        clear hB6
        go_wp2_with fail
        refine (awake_any _).mono ?_
        rintro e w7 ⟨rfl, b7⟩
        have B7 := Lib.hid (below_then HB0.out (below_then B6.out b7))
        clear b7
        go_wp2
        go_ret
        exact ⟨rfl, by first | exact B7.out | (rw [hB5] at B7; exact B7.out)⟩
end Go.Proofs.Ytipcelgoachjjaa
