/- SequenceProofs: the law's walk. -/
import Derived.Test.YteceahbnafaeoaaSqLongest
import Derived.Test.YteceahbnafaeoaaSqLess
namespace Go.Proofs.Yteceahbnafaeoaa
set_option linter.unusedSimpArgs false
set_option linter.unusedVariables false
set_option maxRecDepth 100000
open Go.RowKit Go.Deep

theorem inB_r64 {l : List Int} (hl : l.length ≤ maxLen) {x : Int} (h : inB l x = true) : -9223372036854775808 ≤ x ∧ x ≤ 9223372036854775807 := by
  obtain ⟨q, rfl, hq⟩ := inB_nat h
  unfold maxLen at hl
  omega
theorem incB_r64 {l c : List Int} (hl : l.length ≤ maxLen) (h : incB l c = true) : R64 c := fun x hx => by
  obtain ⟨i, hi, rfl⟩ := List.getElem_of_mem hx
  exact inB_r64 hl (incB_in h hi)
theorem pile_in {l c : List Int} (h : pileB l c = true) : ∀ x ∈ c, inB l x = true := fun x hx => by
  obtain ⟨i, hi, rfl⟩ := List.getElem_of_mem hx
  unfold pileB at h
  rw [Bool.and_eq_true] at h
  have := (List.all_eq_true.1 h.2) i (by simpa using hi)
  unfold okD at this
  rw [Bool.and_eq_true, ix_get _ _ hi] at this
  exact this.1
theorem place_flat (l : List Int) (i x : Int) : ∀ ps, (place l i x ps).flatten.length = ps.flatten.length + 1
  | [] => rfl
  | p :: ps => by
    have ih := place_flat l i x ps
    unfold place
    split
    · simp only [List.flatten_cons, List.length_append, List.length_singleton]; omega
    · simp only [List.flatten_cons, List.length_append, ih]; omega
theorem cov_flat (l : List Int) : ∀ n, (covN l n).flatten.length = n
  | 0 => rfl
  | n + 1 => by rw [covN, place_flat, cov_flat l n]
theorem mem_flat_le {c : List Int} : ∀ {L : List (List Int)}, c ∈ L → c.length ≤ L.flatten.length
  | d :: L, h => by
    rw [List.flatten_cons, List.length_append]
    rcases List.mem_cons.1 h with rfl | h
    · omega
    · have := mem_flat_le h; omega
theorem cov_each (l : List Int) (hl : l.length ≤ maxLen) : R64s (covR l) ∧ ∀ c ∈ covR l, c.length ≤ l.length := by
  refine ⟨fun c hc x hx => inB_r64 hl (pile_in (cov_ok l l.length (Nat.le_refl _) |>.pile c hc).1 x hx), fun c hc => ?_⟩
  have := mem_flat_le hc
  rwa [covR, cov_flat] at this
set_option maxHeartbeats 4000000 in
theorem proofs_law (H : SqOk) (l : List Int) (v : Value) (w : World) (m t : Nat) (hm : m < 65536) (ht : t ≤ 255) (hv : IntsAt w v l) (hr : R64 l) (hl : l.length ≤ maxLen) :
    Calls Try.prog 6 #[v, .int .u16 m, .int .u8 t] w fun e w' => e = .returned (.bool true) ∧ Below w.heap.size w w' := by
  obtain ⟨a, cap, rfl⟩ := hv.slice
  have HV := Lib.hid hv
  by_cases h12 : 12 < l.length
  · clear hv hr
    have hb : decide ((12 : Int) < (l.length : Int)) = true := decide_eq_true (by omega)
    unfold maxLen at hl
    go_enter Try.func6, Try.ntmps6
    go_wp2_with fail
    refine (awake_any H w).mono ?_
    rintro e w1 ⟨rfl, h1⟩
    have B := Lib.hid h1
    clear h1
    go_wp2
    go_ret
    exact ⟨rfl, B.out⟩
  · have hb : decide ((12 : Int) < (l.length : Int)) = false := decide_eq_false (by omega)
    have e1 : incE l = (incR l, 0) := by unfold incE; rw [if_neg (by omega)]
    have e2 : covE l = (covR l, 0) := by unfold covE; rw [if_neg (by omega)]
    have hinc : incB l (incR l) = true := inc_ok l (ones l)
    obtain ⟨hcr, hcl⟩ := cov_each l hl
    have hlen : (covR l).length = (incR l).length := by rw [cov_len, inc_len]
    have hL : (incR l).length ≤ 12 := by have := lis_le l; rw [inc_len]; omega
    have hlm : ∀ n : Nat, n ≤ 12 → n ≤ maxLen := fun n h => by unfold maxLen; omega
    have C1 := Lib.hid (fun W h => H.incr l (.slice a l.length cap) W h hr hl)
    have C2 := Lib.hid (fun W h => H.cover l (.slice a l.length cap) W h hr hl)
    have hv0 : verR l (incR l) (covR l) = 0 := by unfold verR; rw [if_neg (by omega), ver_ok l _ hinc, inc_len]; simp
    have CV0 := Lib.hid (fun u x W (h1 : IntsAt W (.slice a l.length cap) l) h2 h3 => H.verify l (incR l) (covR l) _ u x W h1 h2 h3 hr (incB_r64 hl hinc) hcr hl (hlm _ hL) (hlm _ (by omega)) (fun c hc => hlm _ (by have := hcl c hc; omega)))
    have hv1 : ∀ b, incB l b = true → verR l b (covR l) = if b.length = (incR l).length then 0 else 18 := fun b hbb => by
      unfold verR; rw [if_neg (by omega), ver_ok l b hbb, inc_len]; simp
    have hbl : (chosen m l.length).length ≤ 12 := by have := chosen_len m l.length; omega
    have CV1 := Lib.hid (fun (hi : incB l (chosen m l.length) = true) u x W (h1 : IntsAt W (.slice a l.length cap) l) h2 h3 => H.verify l (chosen m l.length) (covR l) _ u x W h1 h2 h3 hr (incB_r64 hl hi) hcr hl (hlm _ hbl) (hlm _ (by omega)) (fun c hc => hlm _ (by have := hcl c hc; omega)))
    have HV1 := Lib.hid (fun hi => hv1 (chosen m l.length) hi)
    have CR := Lib.hid (fun W h => rises_any l m hm (by omega) (.slice a l.length cap) W h)
    have CC := Lib.hid (fun h0 v W h => cloneL_any (covR l) (by omega) h0 v W h)
    have CD := Lib.hid (fun k hk hs h1 u w0 W h2 h3 h4 => deleteL_any (covR l) (by omega) k hk hs h1 u w0 W h2 h3 h4)
    have CV2 := Lib.hid (fun k (hk : k < (covR l).length) u x W (h1 : IntsAt W (.slice a l.length cap) l) h2 h3 => H.verify l (incR l) ((covR l).eraseIdx k) _ u x W h1 h2 h3 hr (incB_r64 hl hinc) (fun c hc => hcr c (List.mem_of_mem_eraseIdx hc)) hl (hlm _ hL) (by rw [List.length_eraseIdx, if_pos hk]; exact hlm _ (by omega)) (fun c hc => hlm _ (by have := hcl c (List.mem_of_mem_eraseIdx hc); omega)))
    have HV2 := Lib.hid (show ∀ k, k < (covR l).length → verR l (incR l) ((covR l).eraseIdx k) = 18 from fun k hk => by
      unfold verR verB
      rw [if_neg (by omega), List.length_eraseIdx, if_pos hk, decide_eq_false (by omega)]; simp)
    rw [e1] at C1
    rw [e2] at C2
    rw [hv0] at CV0
    obtain ⟨A, hAA⟩ : ∃ A, incR l = A := ⟨_, rfl⟩
    obtain ⟨C, hCC⟩ : ∃ C, covR l = C := ⟨_, rfl⟩
    obtain ⟨b, hbb⟩ : ∃ b, chosen m l.length = b := ⟨_, rfl⟩
    rw [hAA] at C1 CV0 CV2 HV1 HV2 hlen hL
    rw [hCC] at C2 CV0 CV1 CC CD CV2 HV1 HV2 hlen
    rw [hbb] at CV1 CR HV1 hbl
    have HLEN := Lib.hid hlen
    clear hv hr hl h12 e1 e2 hinc hcr hcl hlm hv0 hv1 hAA hCC hbb hlen
    have hz : ((0 : Int) != 0) = false := rfl
    go_enter Try.func6, Try.ntmps6
    go_wp2_with fail
    refine (C1.out w HV.out).mono ?_
    rintro e w1 ⟨va, rfl, hi1, h1⟩
    simp only at hi1
    have HA := Lib.hid hi1
    have B1 := Lib.hid h1
    obtain ⟨aa, ca, rfl⟩ := hi1.slice
    clear hi1 h1 C1
    go_wp2_with fail
    refine (C2.out w1 (HV.out.below B1.out)).mono ?_
    rintro e w2 ⟨vc, rfl, hi2, h2⟩
    simp only at hi2
    have HC := Lib.hid hi2
    have HA2 := Lib.hid (HA.out.below h2)
    have B2 := Lib.hid (below_then B1.out h2)
    obtain ⟨ac, cc, rfl⟩ := hi2.slice
    clear hi2 h2 C2
    go_wp2_with fail
    refine (CV0.out _ _ w2 (HV.out.below B2.out) HA2.out HC.out).mono ?_
    rintro e w3 ⟨rfl, h3⟩
    have HC3 := Lib.hid (HC.out.below h3)
    have HA3 := Lib.hid (HA2.out.below h3)
    have B3 := Lib.hid (below_then B2.out h3)
    clear h3 CV0
    have hll : ((A.length : Int) != (C.length : Int)) = false := by rw [HLEN.out]; simp
    go_wp2_with fail
    refine (CR.out w3 (HV.out.below B3.out)).mono ?_
    rintro e w4 ⟨u, rfl, hu, h4⟩
    have HU := Lib.hid hu
    have HC4 := Lib.hid (HC3.out.below h4)
    have HA4 := Lib.hid (HA3.out.below h4)
    have B4 := Lib.hid (below_then B3.out h4)
    clear hu h4 CR hll
    obtain ⟨r, hr⟩ : ∃ r, incB l b = r := ⟨_, rfl⟩
    rw [hr] at HU CV1 HV1 ⊢
    clear hr
    cases r with
    | false =>
      go_upto_region 10 with fail
      by_cases h0 : C.length = 0
      · have hz0 : ((C.length : Int) == 0) = true := by rw [h0]; rfl
        go_wp2_with fail
        refine (awake_any H w4).mono ?_
        rintro e w9 ⟨rfl, h9⟩
        have B9 := Lib.hid (below_then B4.out h9)
        clear h9
        go_wp2
        go_ret
        exact ⟨rfl, B9.out⟩
      · have hz0 : ((C.length : Int) == 0) = false := by rw [beq_eq_false_iff_ne]; omega
        obtain ⟨k, hk⟩ : ∃ k, t % C.length = k := ⟨_, rfl⟩
        have hkl : k < C.length := by rw [← hk]; exact Nat.mod_lt _ (by omega)
        have htk : (t : Int).tmod (C.length : Int) = (k : Int) := by rw [← hk]; rfl
        have hln : (C.length : Int) ≠ 0 := by omega
        have hCL := HLEN.out
        have w3' : IntKind.i64.wrap ((k : Int) + 1) = ((k + 1 : Nat) : Int) := by rw [show (k : Int) + 1 = ((k + 1 : Nat) : Int) by omega]; exact IntWalk.i64_in _ (by omega)
        have CC1 := Lib.hid (CC.out (by omega) _ w4 HC4.out)
        clear hk hCL
        go_wp2_with fail
        refine CC1.out.mono ?_
        rintro e w6 ⟨u6, hs, rfl, ho, hhl, hI, h6⟩
        have CD1 := Lib.hid (CD.out k hkl hs hhl u6 w4 w6 h6 hI ho)
        clear ho hhl hI h6 CC1
        go_wp2_with fail
        refine CD1.out.mono ?_
        rintro e w7 ⟨x, rfl, hx, h7⟩
        have B7 := Lib.hid (below_then B4.out h7)
        have CV3 := Lib.hid (CV2.out k hkl _ x w7 (HV.out.below B7.out) (HA4.out.below h7) hx)
        have HV3 := Lib.hid (HV2.out k hkl)
        clear hx h7 CD1
        go_wp2_with fail
        refine CV3.out.mono ?_
        rintro e w8 ⟨rfl, h8⟩
        rw [HV3.out]
        have B8 := Lib.hid (below_then B7.out h8)
        clear h8 CV3
        go_wp2_with fail
        refine (awake_any H w8).mono ?_
        rintro e w9 ⟨rfl, h9⟩
        have B9 := Lib.hid (below_then B8.out h9)
        clear h9
        go_wp2
        go_ret
        exact ⟨rfl, B9.out⟩
    | true =>
      have hu := HU.out rfl
      have HU4 := Lib.hid hu
      obtain ⟨au, cu, rfl⟩ := hu.slice
      have CV4 := Lib.hid (CV1.out rfl _ _ w4 (HV.out.below B4.out) hu HC4.out)
      have hv1 := HV1.out rfl
      obtain ⟨q, hq⟩ : ∃ q, ((b.length : Int) == (A.length : Int)) = q := ⟨_, rfl⟩
      obtain ⟨z, hz1⟩ : ∃ z, verR l b C = z := ⟨_, rfl⟩
      have hzq : (z == 0) = q := by
        rw [← hz1, hv1, ← hq]
        by_cases hqq : b.length = A.length
        · rw [if_pos hqq, hqq]; simp
        · rw [if_neg hqq]
          rw [show ((b.length : Int) == (A.length : Int)) = false by rw [beq_eq_false_iff_ne]; omega]; rfl
      rw [hz1] at CV4
      have hqq : (q != q) = false := by simp
      clear hu hv1 hz1
      go_upto_region 8 with fail
      go_wp2_with fail
      refine CV4.out.mono ?_
      rintro e w5 ⟨rfl, h5⟩
      have HC5 := Lib.hid (HC4.out.below h5)
      have HA5 := Lib.hid (HA4.out.below h5)
      have B5 := Lib.hid (below_then B4.out h5)
      clear h5 CV4
      go_upto_region 10 with fail
      clear hzq hqq hq
      by_cases h0 : C.length = 0
      · have hz0 : ((C.length : Int) == 0) = true := by rw [h0]; rfl
        go_wp2_with fail
        refine (awake_any H w5).mono ?_
        rintro e w9 ⟨rfl, h9⟩
        have B9 := Lib.hid (below_then B5.out h9)
        clear h9
        go_wp2
        go_ret
        exact ⟨rfl, B9.out⟩
      · have hz0 : ((C.length : Int) == 0) = false := by rw [beq_eq_false_iff_ne]; omega
        obtain ⟨k, hk⟩ : ∃ k, t % C.length = k := ⟨_, rfl⟩
        have hkl : k < C.length := by rw [← hk]; exact Nat.mod_lt _ (by omega)
        have htk : (t : Int).tmod (C.length : Int) = (k : Int) := by rw [← hk]; rfl
        have hln : (C.length : Int) ≠ 0 := by omega
        have hCL := HLEN.out
        have w3' : IntKind.i64.wrap ((k : Int) + 1) = ((k + 1 : Nat) : Int) := by rw [show (k : Int) + 1 = ((k + 1 : Nat) : Int) by omega]; exact IntWalk.i64_in _ (by omega)
        have CC1 := Lib.hid (CC.out (by omega) _ w5 HC5.out)
        clear hk hCL
        go_wp2_with fail
        refine CC1.out.mono ?_
        rintro e w6 ⟨u6, hs, rfl, ho, hhl, hI, h6⟩
        have CD1 := Lib.hid (CD.out k hkl hs hhl u6 w5 w6 h6 hI ho)
        clear ho hhl hI h6 CC1
        go_wp2_with fail
        refine CD1.out.mono ?_
        rintro e w7 ⟨x, rfl, hx, h7⟩
        have B7 := Lib.hid (below_then B5.out h7)
        have CV3 := Lib.hid (CV2.out k hkl _ x w7 (HV.out.below B7.out) (HA5.out.below h7) hx)
        have HV3 := Lib.hid (HV2.out k hkl)
        clear hx h7 CD1
        go_wp2_with fail
        refine CV3.out.mono ?_
        rintro e w8 ⟨rfl, h8⟩
        rw [HV3.out]
        have B8 := Lib.hid (below_then B7.out h8)
        clear h8 CV3
        go_wp2_with fail
        refine (awake_any H w8).mono ?_
        rintro e w9 ⟨rfl, h9⟩
        have B9 := Lib.hid (below_then B8.out h9)
        clear h9
        go_wp2
        go_ret
        exact ⟨rfl, B9.out⟩
end Go.Proofs.Yteceahbnafaeoaa
