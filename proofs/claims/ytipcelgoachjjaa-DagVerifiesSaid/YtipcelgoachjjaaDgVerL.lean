/- The law DagVerifies. -/
import Derived.Test.YtipcelgoachjjaaDgVerM
namespace Go.Proofs.Ytipcelgoachjjaa
set_option linter.unusedSimpArgs false
set_option linter.unusedVariables false
set_option maxRecDepth 100000
open Go.RowKit Go.Deep

theorem IntsAt.take {W : World} {a : Option Addr} {n c : Nat} {xs : List Int} (h : IntsAt W (.slice a n c) xs) (k : Nat) (hk : k ≤ xs.length) : IntsAt W (.slice a k c) (xs.take k) := by
  obtain ⟨a', c', e, hc⟩ := h
  cases e
  refine ⟨a, c, by rw [List.length_take, Nat.min_eq_left hk], fun h0 => ?_⟩
  rw [List.length_take, Nat.min_eq_left hk] at h0
  obtain ⟨b, off, h1, h2, h3⟩ := hc (by omega)
  refine ⟨b, off, h1, h2, fun j hj => ?_⟩
  rw [List.length_take, Nat.min_eq_left hk] at hj
  rw [List.getElem_take]
  exact h3 j (by omega)
set_option maxHeartbeats 8000000 in
theorem dagVerifies_any (w : World) (n : Int) (v : Value) (ls : List LkV) (s t : Int) (u : Value) (path : List Int) (x : Value) (pots : List Int) (hn : (Lit.int .i64 n).wf = true) (hv : LinksAt w v ls) (hl : ls.length ≤ maxLen)
    (hs : (Lit.int .u8 s).wf = true) (ht : (Lit.int .u8 t).wf = true) (hu : IntsR w u path) (lu : path.length ≤ maxLen) (hx : IntsR w x pots) (lx : pots.length ≤ maxLen) :
    Calls Try.prog 7 #[intV n, v, u8V s, u8V t, u, x] w fun e w' => e = .returned (.bool true) ∧ Below w.heap.size w w' := by
  have ht := wf_u8 ht
  have hs := wf_u8 hs
  have HV := Lib.hid hv
  have HU := Lib.hid hu.1
  have HX := Lib.hid hx.1
  have HXR := Lib.hid hx.2
  unfold maxLen at lu lx
  obtain ⟨au, cu, rfl⟩ := hu.1.slice
  obtain ⟨ax, cx, rfl⟩ := hx.1.slice
  cases hok : okR n ls with
  | false =>
    have HF := Lib.hid (fine_no n ls s t hs ht v w hv hl hok)
    obtain ⟨av, cv, rfl⟩ := hv.slice
    clear hn hv hl ht hok hu hx
    go_enter Try.func7, Try.ntmps7
    go_wp2_with fail
    refine HF.out.mono ?_
    rintro e w1 ⟨rfl, b1⟩
    have B1 := Lib.hid b1
    clear b1
    go_wp2_with fail
    refine (awake_any _).mono ?_
    rintro e w2 ⟨rfl, b2⟩
    have B2 := Lib.hid (below_then B1.out b2)
    clear b2
    go_wp2
    go_ret
    exact ⟨rfl, B2.out⟩
  | true =>
    have HF := Lib.hid (fine_yes n ls s t hs ht v w hv hl hok)
    obtain ⟨hgr, hc⟩ := okR_spec hok
    have hb := node_of hc ht
    have ha := node_of hc hs
    obtain ⟨av, cv, rfl⟩ := hv.slice
    by_cases h1 : 20 < path.length
    · clear hn hv hl ht hok hu hx
      go_enter Try.func7, Try.ntmps7
      go_wp2_with fail
      refine HF.out.mono ?_
      rintro e w1 ⟨rfl, b1⟩
      have B1 := Lib.hid b1
      clear b1
      go_wp2_with fail
      refine (awake_any _).mono ?_
      rintro e w2 ⟨rfl, b2⟩
      have B2 := Lib.hid (below_then B1.out b2)
      clear b2
      go_wp2
      go_ret
      exact ⟨rfl, B2.out⟩
    by_cases h2 : 20 < pots.length
    · clear hn hv hl ht hok hu hx
      go_enter Try.func7, Try.ntmps7
      go_wp2_with fail
      refine HF.out.mono ?_
      rintro e w1 ⟨rfl, b1⟩
      have B1 := Lib.hid b1
      clear b1
      go_wp2_with fail
      refine (awake_any _).mono ?_
      rintro e w2 ⟨rfl, b2⟩
      have B2 := Lib.hid (below_then B1.out b2)
      clear b2
      go_wp2
      go_ret
      exact ⟨rfl, B2.out⟩
    obtain ⟨m, rfl, hsm⟩ := small_of hgr hc
    obtain ⟨k, hk, hkm⟩ := nat_of hb
    obtain ⟨j, hj, hjm⟩ := nat_of ha
    rw [hk] at hb HF
    rw [hj] at ha HF
    have h00 := nodes_ok2 hc ha hb
    have HS := Lib.hid (sho_ok hc ha hb)
    have HP := Lib.hid (pot_ok hc hb)
    rw [Int.toNat_natCast] at HP
    have HGR := Lib.hid hgr
    have HG := Lib.hid hsm.g
    have H00 := Lib.hid h00
    have hm8 := hsm.n8
    have hl14 := hsm.l14
    obtain ⟨q, hq⟩ : ∃ r, verR m ls j k path pots = r := ⟨_, rfl⟩
    have HQ := Lib.hid hq
    have hq01 : q = 0 ∨ q = 18 := by rw [← hq, ver_val h00]; split <;> simp
    have HZ := Lib.hid (fun h : q = 0 => ver_zero h00 (hq.trans h))
    have HQR := Lib.hid (show ∀ x ∈ tab m (least ls k), x ≤ 9223372036854775807 from fun x hx => by
      obtain ⟨i, hi, rfl⟩ := List.mem_iff_getElem.1 hx
      rw [tab_len] at hi
      rw [tab_get]
      by_cases e : least ls k i = -1
      · omega
      · have := hsm.low (t := k) (s := i) (by omega) (by omega) e; omega)
    clear hn hv hl ht hs hok hgr hc hb ha hk hj hu hx hq
    obtain ⟨D, hD⟩ : ∃ x, least ls k j = x := ⟨_, rfl⟩
    rw [hD] at HS HZ
    by_cases hD1 : D = -1
    · have hq18 : q = 18 := by
        rcases hq01 with h | h
        · exact absurd hD1 (HZ.out h).1
        · exact h
      subst hq18
      have HD1 := Lib.hid hD1
      clear hD1 hD hq01 hsm h00
      go_enter Try.func7, Try.ntmps7
      go_wp2_with fail
      refine HF.out.mono ?_
      rintro e w1 ⟨rfl, b1⟩
      have B1 := Lib.hid b1
      clear b1
      go_wp2_with fail
      refine (Shortest_any m ls j k _ w1 (HV.out.below B1.out) HGR.out ([], 0, 6) (by rw [HS.out, if_pos HD1.out])).mono ?_
      rintro e w2 ⟨v2, rfl, i2, b2⟩
      have B2 := Lib.hid (below_then B1.out b2)
      obtain ⟨a2, c2, rfl⟩ := i2.slice
      clear b2 i2
      go_wp2_with fail
      refine (Potentials_any m ls k _ w2 (HV.out.below B2.out) HGR.out _ HP.out).mono ?_
      rintro e w3 ⟨v3, rfl, i3, b3⟩
      have B3 := Lib.hid (below_then B2.out b3)
      obtain ⟨a3, c3, rfl⟩ := i3.slice
      have hlt3 : (tab m (least ls k)).length = m := tab_len _ _
      clear b3 i3
      rw [hlt3]
      go_wp2_with fail
      refine (Verify_any m ls j k path pots (by omega) (by omega) HXR.out _ _ _ w3 (HV.out.below B3.out) (HU.out.below B3.out) (HX.out.below B3.out) HGR.out 18 HQ.out).mono ?_
      rintro e w4 ⟨rfl, b4⟩
      have B4 := Lib.hid (below_then B3.out b4)
      clear b4
      go_wp2_with fail
      refine (awake_any _).mono ?_
      rintro e w5 ⟨rfl, b5⟩
      have B5 := Lib.hid (below_then B4.out b5)
      clear b5
      go_wp2
      go_ret
      exact ⟨rfl, B5.out⟩
    · have hne : least ls k j ≠ -1 := by rw [hD]; exact hD1
      obtain ⟨f1, f2⟩ := first_mem hsm.g k j hne
      have hwa := P_walkA hsm.g k _ j 0 f1
      rw [f2, hD, Int.zero_add] at hwa
      have HL1 := Lib.hid (ver_least h00 hne)
      have HLow := Lib.hid (P_low hsm.g k j _ f1)
      have hlen8 := P_len8 hsm.g j _ f1
      obtain ⟨FP, hFP⟩ : ∃ l, toI (first ls k j) = l := ⟨_, rfl⟩
      have hfl : FP.length = (first ls k j).length := by rw [← hFP, List.length_map]
      rw [hFP] at HS HL1 hwa
      have HWA := Lib.hid hwa
      have hFL : FP.length ≤ 8 := by omega
      have hD0 := hsm.low (t := k) (s := j) (by omega) (by omega) hne
      rw [hD] at hD0
      have HPJ := Lib.hid (show pt (tab m (least ls k)) j = D by rw [pt_tab (by omega) (by omega), hD])
      have HD1 := Lib.hid hD1
      have HPL := Lib.hid (fun qq hqq => P_low hsm.g k j qq hqq)
      have HP8 := Lib.hid (fun qq hqq => P_len8 hsm.g (t := k) j qq hqq)
      have HLESS := Lib.hid (show ∀ (p' : List Int) (i : Int), FP = p' ++ [i] → verR m ls j k p' (tab m (least ls k)) = 18 from fun p' i e => ver_less h00 ⟨D, by rw [← e]; exact hwa⟩)
      have HMORE := Lib.hid (show ∀ pots' : List Int, pt pots' j ≠ D → verR m ls j k FP pots' = 18 from fun pots' h => ver_more h00 hwa h)
      clear hne f1 f2 hD hFP hfl hwa h00 hlen8 hD1
      go_enter Try.func7, Try.ntmps7
      go_wp2_with fail
      refine HF.out.mono ?_
      rintro e w1 ⟨rfl, b1⟩
      have B1 := Lib.hid b1
      clear b1
      go_wp2_with fail
      refine (Shortest_cap m ls j k _ w1 (HV.out.below B1.out) HGR.out (FP, D, 0) (by rw [HS.out, if_neg HD1.out])).mono ?_
      rintro e w2 ⟨v2, rfl, ⟨i2, hcap2⟩, b2⟩
      have B2 := Lib.hid (below_then B1.out b2)
      have I2 := Lib.hid i2
      obtain ⟨a2, c2, rfl⟩ := i2.slice
      have hc2 : FP.length ≤ c2 := hcap2 _ _ _ rfl
      clear b2 i2 hcap2
      go_wp2_with fail
      refine (Potentials_any m ls k _ w2 (HV.out.below B2.out) HGR.out _ HP.out).mono ?_
      rintro e w3 ⟨v3, rfl, i3, b3⟩
      have B3 := Lib.hid (below_then B2.out b3)
      have I3 := Lib.hid i3
      have I23 := Lib.hid (I2.out.below b3)
      obtain ⟨a3, c3, rfl⟩ := i3.slice
      have hlt3 : (tab m (least ls k)).length = m := tab_len _ _
      clear b3 i3
      obtain ⟨TB, hTB⟩ : ∃ l, tab m (least ls k) = l := ⟨_, rfl⟩
      rw [hTB] at I3 HL1 HLESS HPJ HQR hlt3
      rw [hTB]
      have HTL := Lib.hid hlt3
      rw [hlt3] at I3 ⊢
      clear hTB hlt3
      go_wp2_with fail
      refine (Verify_any m ls j k FP TB (by omega) (by have := HTL.out; omega) HQR.out _ _ _ w3 (HV.out.below B3.out) I23.out I3.out HGR.out 0 HL1.out).mono ?_
      rintro e w4 ⟨rfl, b4⟩
      have B4 := Lib.hid (below_then B3.out b4)
      have I24 := Lib.hid (I23.out.below b4)
      have I34 := Lib.hid (I3.out.below b4)
      clear b4
      by_cases hF0 : 0 < FP.length
      · obtain ⟨K, hK⟩ : ∃ K, FP.length = K + 1 := ⟨FP.length - 1, by omega⟩
        have HLS := Lib.hid (HLESS.out (FP.take K) (FP[K]'(by omega)) (by
          have h := List.take_succ_eq_append_getElem (show K < FP.length by omega)
          rw [← h, ← hK, List.take_length]))
        have HTK := Lib.hid (show (FP.take K).length = K by rw [List.length_take]; omega)
        have HI24 := Lib.hid (I24.out.take K (by omega))
        have HKK := Lib.hid hK
        have hK8 : K ≤ 8 := by omega
        obtain ⟨b2', o2', ha2⟩ : ∃ b o, a2 = some ⟨b, o, none⟩ := by
          obtain ⟨b, o, h, _⟩ := I24.out.elem (j := 0) hF0
          exact ⟨b, o, h⟩
        subst ha2
        rw [hK] at I24 hc2 ⊢
        have hK0 : (0 : Int) ≤ (K : Int) := by omega
        have hK1 : (K : Int) ≤ (c2 : Int) := by omega
        have hK2 : K ≤ c2 := by omega
        have hcz : ¬ c2 = 0 := by omega
        clear hK hF0 I2 I23
        go_wp2_with fail
        refine (Verify_any m ls j k (FP.take K) TB (by have := HTK.out; omega) (by have := HTL.out; omega) HQR.out _ _ _ w4 (HV.out.below B4.out) HI24.out I34.out HGR.out 18 HLS.out).mono ?_
        rintro e w5 ⟨rfl, b5⟩
        have B5 := Lib.hid (below_then B4.out b5)
        have I25 := Lib.hid (I24.out.below b5)
        have I35 := Lib.hid (I34.out.below b5)
        have hFK : FP.length = K + 1 := HKK.out
        clear b5 I24 HI24
        go_wp2_with fail
        refine (clone_any TB (by have := HTL.out; omega) (by have := HTL.out; omega) _ w5 I35.out).mono ?_
        rintro e wy ⟨v6, rfl, hown, b6⟩
        have BY := Lib.hid (below_then B5.out b6)
        have BY5 := Lib.hid b6
        have I26 := Lib.hid (I25.out.below b6)
        rw [HTL.out] at hown
        obtain ⟨g, cg, rfl, hbg, hrow⟩ := RowN.of_own hown (by omega)
        have hrow := hrow.congr (f' := fun i => intV (pt TB i)) fun i hi => by
          have hi2 : i < TB.length := by have := HTL.out; omega
          rw [pt_get hi2]
          simp [hi2]
        have hcj := hrow.cell hjm
        have hfj := hrow.frozen j
        rw [HPJ.out] at hcj
        have hj0 : (0 : Int) ≤ (j : Int) := by omega
        have hj1 : (j : Int) < (m : Int) := by omega
        have hD8 : D ≤ 8796093022208 := hD0.2
        have HROW := Lib.hid (hrow.set j (intV (D + 1)))
        have HBS := Lib.hid (b6.setCell (p := ⟨g, j, none⟩) hbg (intV (D + 1)))
        clear hown b6 hrow
        go_wp2_with fail
        clear hcj hfj
        obtain ⟨w6, hw6⟩ : ∃ x, wy.setCell ⟨g, j, none⟩ (intV (D + 1)) = x := ⟨_, rfl⟩
        have hw6' : wy.setCell ⟨g, j, none⟩ (Value.int .i64 (D + 1)) = w6 := hw6
        rw [hw6] at HROW HBS
        try rw [hw6']
        have B6 := Lib.hid (below_then B5.out HBS.out)
        have I27 := Lib.hid (I25.out.below HBS.out)
        have HMO := Lib.hid (show IntsAt w6 (.slice (some ⟨g, 0, none⟩) m cg) (TB.set j (D + 1)) from RowN.ints HROW.out (by rw [List.length_set, HTL.out]) (fun i hi => by
          rw [List.length_set] at hi
          rw [List.getElem_set]
          by_cases e : i = j
          · subst e; rw [if_pos rfl, if_pos rfl]
          · rw [if_neg e, if_neg (fun h => e h.symm), pt_get hi]))
        have HM18 := Lib.hid (HMORE.out (TB.set j (D + 1)) (by
          rw [pt_get (by rw [List.length_set, HTL.out]; exact hjm), List.getElem_set_self]; omega))
        have HMR := Lib.hid (show ∀ x ∈ TB.set j (D + 1), x ≤ 9223372036854775807 from fun x hx => by
          rcases List.mem_or_eq_of_mem_set hx with h | rfl
          · exact HQR.out x h
          · omega)
        clear hw6 hw6' HROW
        refine (Verify_any m ls j k FP (TB.set j (D + 1)) (by omega) (by rw [List.length_set]; have := HTL.out; omega) HMR.out _ _ _ w6 (HV.out.below B6.out) I27.out HMO.out HGR.out 18 HM18.out).mono ?_
        rintro e w7 ⟨rfl, b7⟩
        have B7 := Lib.hid (below_then B6.out b7)
        clear b7
        go_wp2_with fail
        refine (Verify_any m ls j k path pots (by omega) (by omega) HXR.out _ _ _ w7 (HV.out.below B7.out) (HU.out.below B7.out) (HX.out.below B7.out) HGR.out q HQ.out).mono ?_
        rintro e w8 ⟨rfl, b8⟩
        have B8 := Lib.hid (below_then B7.out b8)
        clear b8
        rcases hq01 with h | h
        · subst h
          obtain ⟨_, qq, hqq, hpq, hcq⟩ := HZ.out rfl
          have HCO := Lib.hid (cost_any ls HG.out qq (HPL.out qq hqq) (by have := HP8.out qq hqq; omega) D hcq _ _ w8 (HV.out.below B8.out) (by rw [← hpq]; exact HU.out.below B8.out))
          clear hqq hpq hcq
          go_wp2_with fail
          refine HCO.out.mono ?_
          rintro e w9 ⟨rfl, rfl⟩
          go_wp2_with fail
          refine (awake_any _).mono ?_
          rintro e w9 ⟨rfl, b9⟩
          have B9 := Lib.hid (below_then B8.out b9)
          clear b9
          go_wp2
          go_ret
          exact ⟨rfl, B9.out⟩
        · subst h
          go_wp2_with fail
          refine (awake_any _).mono ?_
          rintro e w9 ⟨rfl, b9⟩
          have B9 := Lib.hid (below_then B8.out b9)
          clear b9
          go_wp2
          go_ret
          exact ⟨rfl, B9.out⟩
      · have hF1 : FP.length = 0 := by omega
        have I25 := Lib.hid (show IntsAt w4 (.slice a2 0 c2) FP by have := I24.out; rwa [hF1] at this)
        have I35 := I34
        have B5 := B4
        obtain ⟨w5, hw5⟩ : ∃ x, w4 = x := ⟨_, rfl⟩
        rw [hw5] at I25 I35 B5 ⊢
        have HF1 := Lib.hid hF1
        rw [hF1] at hc2 ⊢
        clear hw5 I24 I2 I23 hF0
        go_wp2_with fail
        refine (clone_any TB (by have := HTL.out; omega) (by have := HTL.out; omega) _ w5 I35.out).mono ?_
        rintro e wy ⟨v6, rfl, hown, b6⟩
        have BY := Lib.hid (below_then B5.out b6)
        have BY5 := Lib.hid b6
        have I26 := Lib.hid (I25.out.below b6)
        rw [HTL.out] at hown
        obtain ⟨g, cg, rfl, hbg, hrow⟩ := RowN.of_own hown (by omega)
        have hrow := hrow.congr (f' := fun i => intV (pt TB i)) fun i hi => by
          have hi2 : i < TB.length := by have := HTL.out; omega
          rw [pt_get hi2]
          simp [hi2]
        have hcj := hrow.cell hjm
        have hfj := hrow.frozen j
        rw [HPJ.out] at hcj
        have hj0 : (0 : Int) ≤ (j : Int) := by omega
        have hj1 : (j : Int) < (m : Int) := by omega
        have hD8 : D ≤ 8796093022208 := hD0.2
        have HROW := Lib.hid (hrow.set j (intV (D + 1)))
        have HBS := Lib.hid (b6.setCell (p := ⟨g, j, none⟩) hbg (intV (D + 1)))
        clear hown b6 hrow
        go_wp2_with fail
        clear hcj hfj
        obtain ⟨w6, hw6⟩ : ∃ x, wy.setCell ⟨g, j, none⟩ (intV (D + 1)) = x := ⟨_, rfl⟩
        have hw6' : wy.setCell ⟨g, j, none⟩ (Value.int .i64 (D + 1)) = w6 := hw6
        rw [hw6] at HROW HBS
        try rw [hw6']
        have B6 := Lib.hid (below_then B5.out HBS.out)
        have I27 := Lib.hid (I25.out.below HBS.out)
        have HMO := Lib.hid (show IntsAt w6 (.slice (some ⟨g, 0, none⟩) m cg) (TB.set j (D + 1)) from RowN.ints HROW.out (by rw [List.length_set, HTL.out]) (fun i hi => by
          rw [List.length_set] at hi
          rw [List.getElem_set]
          by_cases e : i = j
          · subst e; rw [if_pos rfl, if_pos rfl]
          · rw [if_neg e, if_neg (fun h => e h.symm), pt_get hi]))
        have HM18 := Lib.hid (HMORE.out (TB.set j (D + 1)) (by
          rw [pt_get (by rw [List.length_set, HTL.out]; exact hjm), List.getElem_set_self]; omega))
        have HMR := Lib.hid (show ∀ x ∈ TB.set j (D + 1), x ≤ 9223372036854775807 from fun x hx => by
          rcases List.mem_or_eq_of_mem_set hx with h | rfl
          · exact HQR.out x h
          · omega)
        clear hw6 hw6' HROW
        refine (Verify_any m ls j k FP (TB.set j (D + 1)) (by omega) (by rw [List.length_set]; have := HTL.out; omega) HMR.out _ _ _ w6 (HV.out.below B6.out) I27.out HMO.out HGR.out 18 HM18.out).mono ?_
        rintro e w7 ⟨rfl, b7⟩
        have B7 := Lib.hid (below_then B6.out b7)
        clear b7
        go_wp2_with fail
        refine (Verify_any m ls j k path pots (by omega) (by omega) HXR.out _ _ _ w7 (HV.out.below B7.out) (HU.out.below B7.out) (HX.out.below B7.out) HGR.out q HQ.out).mono ?_
        rintro e w8 ⟨rfl, b8⟩
        have B8 := Lib.hid (below_then B7.out b8)
        clear b8
        rcases hq01 with h | h
        · subst h
          obtain ⟨_, qq, hqq, hpq, hcq⟩ := HZ.out rfl
          have HCO := Lib.hid (cost_any ls HG.out qq (HPL.out qq hqq) (by have := HP8.out qq hqq; omega) D hcq _ _ w8 (HV.out.below B8.out) (by rw [← hpq]; exact HU.out.below B8.out))
          clear hqq hpq hcq
          go_wp2_with fail
          refine HCO.out.mono ?_
          rintro e w9 ⟨rfl, rfl⟩
          go_wp2_with fail
          refine (awake_any _).mono ?_
          rintro e w9 ⟨rfl, b9⟩
          have B9 := Lib.hid (below_then B8.out b9)
          clear b9
          go_wp2
          go_ret
          exact ⟨rfl, B9.out⟩
        · subst h
          go_wp2_with fail
          refine (awake_any _).mono ?_
          rintro e w9 ⟨rfl, b9⟩
          have B9 := Lib.hid (below_then B8.out b9)
          clear b9
          go_wp2
          go_ret
          exact ⟨rfl, B9.out⟩
end Go.Proofs.Ytipcelgoachjjaa
