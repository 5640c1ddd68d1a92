/- slices.Concat, isCover, Verify. -/
import Derived.Test.YteceahbnafaeoaaSpConcat
import Derived.Test.YteceahbnafaeoaaSpPerm
namespace Go.Proofs.Yteceahbnafaeoaa
set_option linter.unusedSimpArgs false
set_option linter.unusedVariables false
set_option maxRecDepth 100000
open Go.RowKit Go.Deep

theorem flat_succ (L : List (List Int)) (k : Nat) (h : k < L.length) : (L.take (k + 1)).flatten = (L.take k).flatten ++ L[k] := by
  rw [List.take_succ_eq_append_getElem h, List.flatten_append]; simp
theorem flat_bound (m : Nat) : ∀ L : List (List Int), (∀ c ∈ L, c.length ≤ m) → L.flatten.length ≤ m * L.length
  | [], _ => by simp
  | c :: L, h => by
    have h1 := flat_bound m L (fun d hd => h d (by simp [hd]))
    have h2 := h c (by simp)
    rw [List.flatten_cons, List.length_append, List.length_cons, Nat.mul_add]; omega
theorem flat_take (L : List (List Int)) (hL : L.length ≤ 1024) (hl : ∀ c ∈ L, c.length ≤ 1024) (k : Nat) (hk : k ≤ L.length) : (L.take k).flatten.length ≤ 1048576 := by
  have h1 := flat_bound 1024 (L.take k) (fun c hc => hl c (List.mem_of_mem_take hc))
  rw [List.length_take] at h1
  have h2 : 1024 * min k L.length ≤ 1024 * 1024 := Nat.mul_le_mul_left _ (by omega)
  omega
set_option maxHeartbeats 4000000 in
theorem concatP_any (L : List (List Int)) (hL : L.length ≤ 1024) (hl : ∀ c ∈ L, c.length ≤ 1024) (v : Value) (w : World) (hv : ListsAt w v L) :
    Calls Try.prog 75 #[v] w fun e w' => ∃ u, e = .returned u ∧ IntsAt w' u L.flatten ∧ Below w.heap.size w w' := by
  have HV := Lib.hid hv
  obtain ⟨a, cap, rfl⟩ := hv.slice
  have HFT := Lib.hid (fun k hk => flat_take L hL hl k hk)
  have HFS := Lib.hid (fun k hk => flat_succ L k hk)
  have HLL := Lib.hid hl
  obtain ⟨i0, hi, hz0, hz1, hz2⟩ := info_parts info_int
  clear hv hl
  go_enter Try.func75, Try.ntmps75
  go_wp2
  go_loopw [3, 11] (fun sv i wr => ∃ k s : Nat, k ≤ L.length ∧ i = .int .i64 k ∧ sv = .int .i64 s ∧ s = (L.take k).flatten.length ∧ wr = w) (fun _ i _ => L.length - (intOf i).toNat)
  case atStart => exact ⟨0, 0, Nat.zero_le _, rfl, rfl, by simp, rfl⟩
  case round =>
    obtain ⟨k, s, hk, rfl, rfl, hs, rfl⟩ := hrel
    obtain ⟨wk, rfl⟩ : ∃ x, x = wr := ⟨_, rfl⟩
    have HS := Lib.hid hs
    have hsb : s ≤ 1048576 := by rw [hs]; exact HFT.out k hk
    clear hs
    by_cases hlt : k < L.length
    · obtain ⟨b, off, u, c, rfl, hbb, c0, hu⟩ := HV.out.elem hlt
      have hsb2 := HFT.out (k + 1) (by omega)
      rw [HFS.out k hlt, List.length_append, ← HS.out] at hsb2
      have HS2 := Lib.hid (show s + L[k].length = (L.take (k + 1)).flatten.length by rw [HFS.out k hlt, List.length_append, HS.out])
      obtain ⟨m, hm⟩ : ∃ m, L[k].length = m := ⟨_, rfl⟩
      rw [hm] at c0 hsb2 HS2
      have hws : IntKind.i64.wrap ((s : Int) + (m : Int)) = ((s + m : Nat) : Int) := by rw [show (s : Int) + (m : Int) = ((s + m : Nat) : Int) by omega]; exact IntWalk.i64_in _ (by omega)
      have hnn : ¬ ((s + m : Nat) : Int) < 0 := by omega
      obtain ⟨t, ht⟩ : ∃ t, s + m = t := ⟨_, rfl⟩
      rw [ht] at hws hnn HS2
      clear hu hbb hm ht
      go_wp2
      go_roundw
      case rel => exact ⟨k + 1, t, by omega, by go_num, rfl, HS2.out, trivial⟩
      case measure => simp [intOf]; omega
    · obtain rfl : k = L.length := by omega
      have GR := Lib.hid (growP_any s (by omega) wk)
      go_wp2_with fail
      refine GR.out.mono ?_
      rintro e w2 ⟨u, rfl, ho, h2⟩
      have HO := Lib.hid ho
      have HB2 := Lib.hid h2
      clear ho h2
      go_wp2
      go_loopw [6, 27] (fun nv i wr => ∃ k : Nat, k ≤ L.length ∧ i = .int .i64 k ∧ wr.ownsRow wk.heap.size 3 1 nv (L.take k).flatten.length ((L.take k).flatten.map intV) ∧ Below wk.heap.size wk wr) (fun _ i _ => L.length - (intOf i).toNat)
      case atStart => exact ⟨0, Nat.zero_le _, rfl, HO.out, HB2.out⟩
      case round =>
        obtain ⟨k, hk, rfl, ho, hB⟩ := hrel
        obtain ⟨wr2, rfl⟩ : ∃ x, x = wr := ⟨_, rfl⟩
        have HO3 := Lib.hid ho
        have HB3 := Lib.hid hB
        by_cases hlt : k < L.length
        · obtain ⟨b, off, u, c, rfl, hbb, c0, hu⟩ := HV.out.elem hlt
          have c1 := (hB.cell (p := ⟨b, off + k, none⟩) hbb).trans c0
          have HI := Lib.hid (hu.below hB)
          have HF := Lib.hid (HFS.out k hlt)
          have hsb2 := HFT.out (k + 1) (by omega)
          rw [HF.out, List.length_append] at hsb2
          obtain ⟨S, hS⟩ : ∃ S, (L.take k).flatten = S := ⟨_, rfl⟩
          obtain ⟨y, hy⟩ : ∃ y, L[k] = y := ⟨_, rfl⟩
          rw [hS, hy] at hsb2 HF
          rw [hS] at HO3
          rw [hy] at c1 HI
          clear ho hB c0 hbb hu hS hy
          go_wp2_with (at_builtin; refine wpList_append_intsP rfl _ _ 22 rfl wk.heap.size 3 i0 (.int .i64 0) 8 Try.underlying22 hi hz0 hz1 hz2 rfl _ _ _ rfl HO3.out u c y rfl HI.out (by unfold maxLen; omega) (by omega) HB3.out.size ?_; intro v' w3 hown' hgrow; have HO4 := Lib.hid hown'; have HB4 := Lib.hid (HB3.out.grown hgrow HB3.out.size (fun q hq => (HO3.out.lt q hq).1)); clear hown' hgrow)
          go_roundw
          case rel => exact ⟨k + 1, by omega, by go_num, by rw [HF.out, List.length_append, List.map_append]; exact HO4.out, HB4.out⟩
          case measure => simp [intOf]; omega
        · obtain rfl : k = L.length := by omega
          have HI := Lib.hid (IntsAt.of_own ho)
          rw [List.take_length] at HI
          clear ho hB
          go_wp2
          go_ret
          exact ⟨_, rfl, HI.out, HB3.out⟩
set_option maxHeartbeats 4000000 in
theorem isCoverP_any (l : List Int) (hl : l.length ≤ 1024) (cov : List (List Int)) (hc : cov.length ≤ 1024) (hcl : ∀ c ∈ cov, c.length ≤ maxLen) (v u : Value) (w : World) (hv : IntsAt w v l) (hu : ListsAt w u cov) :
    Calls Try.prog 58 #[v, u] w fun e w' => e = .returned (.bool (cov.all (desB l) && (decide (cov.flatten.length = l.length) && permB cov.flatten))) ∧ Below w.heap.size w w' := by
  have HV := Lib.hid hv
  have HU := Lib.hid hu
  obtain ⟨a, cap, rfl⟩ := hv.slice
  obtain ⟨au, cu, rfl⟩ := hu.slice
  have HSD := Lib.hid (fun c hc x W (h : IntsAt W (.slice a l.length cap) l) h2 => isSubD_any l c hc (.slice a l.length cap) x W h h2)
  have HCL := Lib.hid hcl
  obtain ⟨r, hr⟩ : ∃ r, (cov.all (desB l) && (decide (cov.flatten.length = l.length) && permB cov.flatten)) = r := ⟨_, rfl⟩
  have HR := Lib.hid hr
  rw [hr]
  clear hv hu hcl hr
  go_enter Try.func58, Try.ntmps58
  go_wp2
  go_loopw [10] (fun i wr => ∃ k : Nat, k ≤ cov.length ∧ i = .int .i64 k ∧ Below w.heap.size w wr ∧ (cov.take k).all (desB l) = true) (fun i _ => cov.length - (intOf i).toNat)
  case atStart => exact ⟨0, Nat.zero_le _, rfl, Below.refl _ _, rfl⟩
  case round =>
    obtain ⟨k, hk, rfl, hB, hall⟩ := hrel
    obtain ⟨wk, rfl⟩ : ∃ x, x = wr := ⟨_, rfl⟩
    have HB := Lib.hid hB
    have HALL := Lib.hid hall
    by_cases hlt : k < cov.length
    · obtain ⟨b, off, u, c, rfl, hbb, c0, hu⟩ := HU.out.elem hlt
      have c1 := (hB.cell (p := ⟨b, off + k, none⟩) hbb).trans c0
      obtain ⟨q, hq⟩ : ∃ q, desB l cov[k] = q := ⟨_, rfl⟩
      have HS := Lib.hid (HSD.out cov[k] (HCL.out _ (List.getElem_mem hlt)) _ wk (HV.out.below hB) (hu.below hB))
      have HFF := Lib.hid (show q = false → r = false from fun h => by
        rw [← HR.out, show cov.all (desB l) = false by rw [List.all_eq_false]; exact ⟨cov[k], List.getElem_mem hlt, by rw [hq, h]; decide⟩]; rfl)
      have HTT := Lib.hid (show q = true → (cov.take (k + 1)).all (desB l) = true from fun h => by
        rw [List.take_succ_eq_append_getElem hlt, List.all_append, HALL.out]; simp [hq, h])
      rw [hq] at HS
      obtain ⟨m, hm⟩ : ∃ m, cov[k].length = m := ⟨_, rfl⟩
      rw [hm] at c1 HS
      clear hB hall c0 hbb hu hq hm
      cases q with
      | false =>
        have HRF := Lib.hid (HFF.out rfl)
        go_wp2_with fail
        refine HS.out.mono ?_
        rintro e w4 ⟨rfl, h4⟩
        have HB4 := Lib.hid (below_then HB.out h4)
        clear h4
        go_wp2
        go_ret
        exact ⟨by rw [HRF.out]; rfl, HB4.out⟩
      | true =>
        have HT := Lib.hid (HTT.out rfl)
        go_wp2_with fail
        refine HS.out.mono ?_
        rintro e w4 ⟨rfl, h4⟩
        have HB4 := Lib.hid (below_then HB.out h4)
        clear h4
        go_wp2
        go_roundw
        case rel => exact ⟨k + 1, by omega, by go_num, HB4.out, HT.out⟩
        case measure => simp [intOf]; omega
    · obtain rfl : k = cov.length := by omega
      rw [List.take_length] at hall
      have hdl : ∀ c ∈ cov, c.length ≤ 1024 := fun c hc => Nat.le_trans (des_length (List.all_eq_true.1 hall c hc)) hl
      have hr2 := HR.out
      rw [hall, Bool.true_and] at hr2
      have CC := Lib.hid (concatP_any cov hc hdl _ wk (HU.out.below hB))
      have hfb : cov.flatten.length ≤ 1048576 := by have := flat_take cov hc hdl cov.length (Nat.le_refl _); rwa [List.take_length] at this
      obtain ⟨F, hF⟩ : ∃ F, cov.flatten = F := ⟨_, rfl⟩
      rw [hF] at CC hfb hr2
      have HPM := Lib.hid (fun x W r hr h => permP_any F (by omega) x W h r hr)
      clear hall hB hdl hF
      by_cases hlen : F.length = l.length
      · rw [decide_eq_true hlen, Bool.true_and] at hr2
        have heq : ((F.length : Int) == (l.length : Int)) = true := by rw [hlen]; simp
        have HR2 := Lib.hid hr2
        obtain ⟨fn, hfn⟩ : ∃ fn, F.length = fn := ⟨_, rfl⟩
        rw [hfn] at heq
        have HFN := Lib.hid hfn
        clear hlen hr2 hfn
        go_wp2_with fail
        refine CC.out.mono ?_
        rintro e w4 ⟨x, rfl, hx, h4⟩
        have HX := Lib.hid hx
        have HB4 := Lib.hid (below_then HB.out h4)
        obtain ⟨xa, xc, rfl⟩ := hx.slice
        clear hx h4
        have HP2 := Lib.hid (HPM.out _ w4 r HR2.out HX.out)
        rw [HFN.out] at HP2 ⊢
        go_wp2_with fail
        refine HP2.out.mono ?_
        rintro e w5 ⟨rfl, h5⟩
        have HB5 := Lib.hid (below_then HB4.out h5)
        clear h5
        go_wp2
        go_ret
        exact ⟨rfl, HB5.out⟩
      · rw [decide_eq_false hlen, Bool.false_and] at hr2
        have heq : ((F.length : Int) == (l.length : Int)) = false := by rw [beq_eq_false_iff_ne]; omega
        have HR2 := Lib.hid hr2
        obtain ⟨fn, hfn⟩ : ∃ fn, F.length = fn := ⟨_, rfl⟩
        rw [hfn] at heq
        have HFN := Lib.hid hfn
        clear hlen hr2 hfn
        go_wp2_with fail
        refine CC.out.mono ?_
        rintro e w4 ⟨x, rfl, hx, h4⟩
        have HB4 := Lib.hid (below_then HB.out h4)
        obtain ⟨xa, xc, rfl⟩ := hx.slice
        clear hx h4
        rw [HFN.out]
        go_wp2
        go_ret
        exact ⟨by rw [← HR2.out]; rfl, HB4.out⟩
set_option maxHeartbeats 4000000 in
theorem verifyP_any (l is : List Int) (cov : List (List Int)) (v u x : Value) (w : World) (hv : IntsAt w v l) (hu : IntsAt w u is) (hx : ListsAt w x cov) (his : is.length ≤ maxLen) (hcv : cov.length ≤ maxLen) (hcl : ∀ c ∈ cov, c.length ≤ maxLen) :
    Calls Try.prog 30 #[v, u, x] w fun e w' => e = .returned (intV (verR l is cov)) ∧ Below w.heap.size w w' := by
  have HV := Lib.hid hv
  have HU := Lib.hid hu
  have HX := Lib.hid hx
  by_cases h1 : 1024 < l.length
  · have TL := Lib.hid (tooLong_any l v true (decide_eq_true h1) w hv)
    have e : verR l is cov = 4 := by unfold verR; rw [if_pos h1]
    rw [e]
    obtain ⟨a, cap, rfl⟩ := hv.slice
    obtain ⟨au, cu, rfl⟩ := hu.slice
    obtain ⟨ax, cx, rfl⟩ := hx.slice
    clear hv hu hx e
    go_enter Try.func30, Try.ntmps30
    go_wp2_with fail
    refine TL.out.mono ?_
    rintro e w1 ⟨rfl, rfl⟩
    go_wp2
    go_ret
    exact ⟨rfl, Below.refl _ _⟩
  have hl : l.length ≤ 1024 := by omega
  have TL := Lib.hid (tooLong_any l v false (decide_eq_false h1) w hv)
  have HI := Lib.hid (isIncr_any l is his v u w hv hu)
  have HE := Lib.hid (show verR l is cov = if verP l is cov then 0 else 18 by unfold verR; rw [if_neg h1, ver_prog])
  have HCC := Lib.hid (fun hc W h h2 => isCoverP_any l hl cov hc hcl v x W h h2)
  obtain ⟨a, cap, rfl⟩ := hv.slice
  obtain ⟨au, cu, rfl⟩ := hu.slice
  obtain ⟨ax, cx, rfl⟩ := hx.slice
  have HHI := Lib.hid (fun h => inc_length (l := l) (c := is) h)
  clear hv hu hx h1
  by_cases hlen : is.length = cov.length
  · have hne : ((is.length : Int) != (cov.length : Int)) = false := by rw [hlen]; simp
    have HLN := Lib.hid hlen
    obtain ⟨p, hp⟩ : ∃ p, incB l is = p := ⟨_, rfl⟩
    have HE2 := Lib.hid (show verR l is cov = if p && (cov.all (desB l) && (decide (cov.flatten.length = l.length) && permB cov.flatten)) then 0 else 18 by rw [HE.out]; unfold verP; rw [decide_eq_true hlen, hp, Bool.true_and])
    have HIP := Lib.hid (show p = true → cov.length ≤ 1024 from fun h => by have := HHI.out (hp.trans h); omega)
    rw [hp] at HI
    clear hlen hp
    cases p with
    | false =>
      have HE3 := Lib.hid (show verR l is cov = 18 by rw [HE2.out]; rfl)
      rw [HE3.out]
      go_enter Try.func30, Try.ntmps30
      go_wp2_with fail
      refine TL.out.mono ?_
      rintro e w1 ⟨rfl, rfl⟩
      go_wp2_with fail
      refine HI.out.mono ?_
      rintro e w2 ⟨rfl, h2⟩
      have HB2 := Lib.hid h2
      clear h2
      go_wp2
      go_ret
      exact ⟨rfl, HB2.out⟩
    | true =>
      have HC2 := Lib.hid (HCC.out (HIP.out rfl))
      obtain ⟨q, hq⟩ : ∃ q, (cov.all (desB l) && (decide (cov.flatten.length = l.length) && permB cov.flatten)) = q := ⟨_, rfl⟩
      rw [hq] at HC2 HE2
      rw [Bool.true_and] at HE2
      rw [HE2.out]
      clear hq
      cases q
      all_goals
        go_enter Try.func30, Try.ntmps30
        go_wp2_with fail
        refine TL.out.mono ?_
        rintro e w1 ⟨rfl, rfl⟩
        go_wp2_with fail
        refine HI.out.mono ?_
        rintro e w2 ⟨rfl, h2⟩
        have HB2 := Lib.hid h2
        clear h2
        go_wp2_with fail
        refine (HC2.out w2 (HV.out.below HB2.out) (HX.out.below HB2.out)).mono ?_
        rintro e w3 ⟨rfl, h3⟩
        have HB3 := Lib.hid (below_then HB2.out h3)
        clear h3
        go_wp2
        go_ret
        exact ⟨rfl, HB3.out⟩
  · have hne : ((is.length : Int) != (cov.length : Int)) = true := by rw [bne_iff_ne]; omega
    have HE3 := Lib.hid (show verR l is cov = 18 by rw [HE.out]; unfold verP; rw [decide_eq_false hlen]; rfl)
    rw [HE3.out]
    clear hlen
    go_enter Try.func30, Try.ntmps30
    go_wp2_with fail
    refine TL.out.mono ?_
    rintro e w1 ⟨rfl, rfl⟩
    go_wp2
    go_ret
    exact ⟨rfl, Below.refl _ _⟩
end Go.Proofs.Yteceahbnafaeoaa
