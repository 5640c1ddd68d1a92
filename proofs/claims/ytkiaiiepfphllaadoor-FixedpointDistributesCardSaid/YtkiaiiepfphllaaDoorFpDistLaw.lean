/- The walk of FixedpointDistributes. -/
import Derived.Test.YtkiaiiepfphllaaDoorFpNumbers
namespace Go.Proofs.YtkiaiiepfphllaaDoor
set_option linter.unusedSimpArgs false
set_option linter.unusedVariables false
set_option maxRecDepth 100000
open Go.RowKit

def partL (len : Nat) (z : List Int) : List Int := (z.take (min len 20)).map fun x => x % 1048576
def Parts (l : List Int) : Prop := ∀ x ∈ l, 0 ≤ x ∧ x < 1048576
theorem parts_all {l : List Int} (h : Parts l) : l.all partOk = true := List.all_eq_true.2 fun x hx => by have := h x hx; simp [partOk]; omega
theorem parts_sum : ∀ (l : List Int) (n : Nat), l.length ≤ n → Parts l → 0 ≤ sumZ l ∧ sumZ l ≤ 1048576 * (n : Int) := by
  intro l
  induction l with
  | nil => intro n _ _; simp [sumZ]; omega
  | cons x l ih =>
    intro n hn h
    obtain ⟨k, rfl⟩ : ∃ k, n = k + 1 := ⟨n - 1, by simp at hn; omega⟩
    have h1 := h x (List.mem_cons_self ..)
    have h2 := ih k (by simp at hn; omega) (fun y hy => h y (List.mem_cons_of_mem _ hy))
    rw [sumZ_cons]; omega
theorem distL_sum (total all : Int) : ∀ (l : List Int) (s : Int), sumZ (distL total all s l) = total * (s + sumZ l) / all - total * s / all := by
  intro l
  induction l with
  | nil => intro s; simp [distL, sumZ]
  | cons x l ih => intro s; rw [distL, sumZ_cons, ih, sumZ_cons, show s + x + sumZ l = s + (x + sumZ l) by omega]; omega
theorem distL_take (total all : Int) (l : List Int) (j : Nat) : ∀ s : Int, (distL total all s l).take j = distL total all s (l.take j) := by
  induction l generalizing j with
  | nil => intro s; simp [distL]
  | cons x l ih =>
    intro s
    cases j with
    | zero => simp [distL]
    | succ j => rw [distL, List.take_succ_cons, List.take_succ_cons, distL, ih]
theorem distL_get (total all : Int) (l : List Int) (j : Nat) (h : j < l.length) : (distL total all 0 l)[j]? = some (total * (sumZ (l.take j) + l[j]) / all - total * sumZ (l.take j) / all) := by
  have h1 := distL_take total all l (j + 1) 0
  rw [List.take_succ_eq_append_getElem h, distL_snoc, Int.zero_add] at h1
  have h2 := congrArg (·[j]?) h1
  have h3 : (distL total all 0 (l.take j)).length = j := by rw [distL_len, List.length_take]; omega
  simp only [List.getElem?_take, Nat.lt_succ_self, if_true] at h2
  rw [h2, List.getElem?_append_right (by omega), h3, Nat.sub_self]
  rfl
theorem quot_facts (a s y all f1 f2 : Int) (h0 : 0 < all) (h1 : a * s / all = f1) (h2 : a * (s + y) / all = f2) :
    -all < (f2 - f1) * all - a * y ∧ (f2 - f1) * all - a * y < all ∧ (y = 0 → f2 - f1 = 0) := by
  have e1 := Int.mul_ediv_add_emod (a * s) all
  have e2 := Int.emod_nonneg (a * s) (show all ≠ 0 by omega)
  have e3 := Int.emod_lt_of_pos (a * s) h0
  have d1 := Int.mul_ediv_add_emod (a * (s + y)) all
  have d2 := Int.emod_nonneg (a * (s + y)) (show all ≠ 0 by omega)
  have d3 := Int.emod_lt_of_pos (a * (s + y)) h0
  rw [h1] at e1
  rw [h2, Int.mul_add] at d1
  rw [Int.mul_add] at d2 d3
  have g : (f2 - f1) * all = all * f2 - all * f1 := by rw [Int.sub_mul, Int.mul_comm f2, Int.mul_comm f1]
  refine ⟨by omega, by omega, fun h => ?_⟩
  subst h
  rw [Int.add_zero] at h2
  omega
theorem quot_small (a s all : Int) (h1 : -1048576 ≤ a) (h2 : a ≤ 1048576) (h0 : 0 < all) (h3 : 0 ≤ s) (h4 : s ≤ all) : -1048576 ≤ a * s / all ∧ a * s / all ≤ 1048576 := by
  have e1 := Int.mul_le_mul_of_nonneg_right h2 h3
  have e2 := Int.mul_le_mul_of_nonneg_right h1 h3
  refine ⟨(Int.le_ediv_iff_mul_le h0).2 (by omega), Int.ediv_le_of_le_mul h0 (by omega)⟩
theorem prod_small (a y : Int) (h1 : -1048576 ≤ a) (h2 : a ≤ 1048576) (h3 : 0 ≤ y) (h4 : y ≤ 1048576) : -1099511627776 ≤ a * y ∧ a * y ≤ 1099511627776 := by
  have e1 := Int.mul_le_mul_of_nonneg_right h2 h3
  have e2 := Int.mul_le_mul_of_nonneg_right h1 h3
  omega
theorem distR_ok (n : Int) (X : List Int) (hn : -1048576 ≤ n ∧ n ≤ 1048576) (hX : Parts X) (hl : X.length ≤ 20) : distR n X = if sumZ X = 0 then ([], 5) else (distL n (sumZ X) 0 X, 0) := by
  have hb := parts_sum X 20 hl hX
  rw [distR, if_neg (by omega), if_pos (isLen_of (by omega) (by omega)), if_pos (parts_all hX), if_pos (by omega)]
theorem partL_facts (len : Nat) (z : List Int) : Parts (partL len z) ∧ (partL len z).length ≤ 20 := by
  refine ⟨fun x hx => ?_, by simp [partL]; omega⟩
  obtain ⟨y, _, rfl⟩ := List.mem_map.1 hx
  omega
theorem ints_open {w : World} {v : Value} {D : List Int} {j : Nat} (h : IntsAt w v D) (hl : D.length = j) (hj : 0 < j) :
    ∃ b o c, v = .slice (some ⟨b, o, none⟩) j c ∧ b < w.heap.size ∧ ∀ k, k < j → w.cell? ⟨b, o + k, none⟩ = some (.int .i64 (D.getD k 0)) := by
  subst hl
  obtain ⟨a, c, rfl, hc⟩ := h
  obtain ⟨b, o, rfl, hb, hcs⟩ := hc hj
  exact ⟨b, o, c, rfl, hb, fun k hk => by rw [List.getD_eq_getElem?_getD, List.getElem?_eq_getElem hk]; exact hcs k hk⟩

set_option maxHeartbeats 4000000 in
theorem dists_walk (a0 : Int) (a : Option Addr) (len cap : Nat) (z : List Int) (w : World) (h0 : -2147483648 ≤ a0 ∧ a0 ≤ 2147483647) (hr : RowIn .u32 w a len cap z) (hT : Tab w) :
    Calls Tryd.prog 9 #[.int .i32 a0, .slice a len cap] w fun e w' => e = .returned (.bool true) ∧ Below w.heap.size w w' := by
  obtain ⟨i0, hi, hz0, hz1, hz2⟩ := info_parts info_int
  obtain ⟨l0, u0⟩ := h0
  obtain ⟨n, hn⟩ : ∃ n, a0.tmod 1048576 = n := ⟨_, rfl⟩
  have n0 : -1048576 < n := by rw [← hn]; exact Int.lt_tmod_of_pos a0 (by omega)
  have n1 : n < 1048576 := by rw [← hn]; exact Int.tmod_lt_of_pos a0 (by omega)
  have HT := Lib.hid hT
  clear hT
  obtain ⟨hP, hl20⟩ := partL_facts len z
  obtain ⟨m, hm⟩ : ∃ m : Nat, min len 20 = m := ⟨_, rfl⟩
  have hmi : min (len : Int) 20 = (m : Int) := by omega
  have hm20 : m ≤ 20 := by omega
  have hX : partL len z = (z.take m).map fun x => x % 1048576 := by rw [partL, hm]
  obtain ⟨X, hXX⟩ : ∃ X, partL len z = X := ⟨_, rfl⟩
  have hrow : m ≤ cap ∧ cap ≤ 9223372036854775807 ∧ X.length = m ∧ (∀ j, j < m → ∃ y, X[j]? = some (y % 1048576) ∧ 0 ≤ y ∧ y ≤ 4294967295 ∧ ∃ x : Addr, a = some x ∧ w.cell? (x.add j) = some (.int .u32 y)) ∧ (0 < m ∨ a = none ∨ ∃ x : Addr, a = some x) := by
    rcases hr with ⟨rfl, rfl, rfl, rfl⟩ | ⟨x, rfl, hlc, hcm, hzl, hcell, hwf⟩
    · have : m = 0 := by omega
      subst this
      exact ⟨Nat.le_refl _, by omega, by rw [← hXX, hX]; rfl, fun j hj => absurd hj (by omega), .inr (.inl rfl)⟩
    · unfold maxLen at hcm
      refine ⟨by omega, by omega, by rw [← hXX, hX]; simp; omega, fun j hj => ⟨z.getD j 0, ?_, (wf_u32 (hwf _ ?_)).1, (wf_u32 (hwf _ ?_)).2, x, rfl, hcell j (by omega)⟩, .inr (.inr ⟨x, rfl⟩)⟩
      · rw [← hXX, hX, List.getElem?_map, List.getElem?_take, if_pos hj, List.getD_eq_getElem?_getD, List.getElem?_eq_getElem (by omega)]; rfl
      · rw [List.getD_eq_getElem?_getD, List.getElem?_eq_getElem (by omega)]; exact List.getElem_mem _
      · rw [List.getD_eq_getElem?_getD, List.getElem?_eq_getElem (by omega)]; exact List.getElem_mem _
  rw [hXX] at hP hl20
  obtain ⟨hmc, hcm, hXl, hcells, hshape⟩ := hrow
  have HC := Lib.hid hcells
  have HP := Lib.hid hP
  clear hX hXX hcells hP hr hm
  have hshape2 : a = none ∨ ∃ x : Addr, a = some x := by cases a with
    | none => exact .inl rfl
    | some x => exact .inr ⟨x, rfl⟩
  clear hshape
  have hmn : a = none → m = 0 := fun h => by
    rcases Nat.eq_zero_or_pos m with h0 | h0
    · exact h0
    · obtain ⟨y, _, _, _, x, hx, _⟩ := HC.out 0 h0
      rw [h] at hx; cases hx
  go_enter Tryd.func9, Tryd.ntmps9
  go_wp2_with fail
  go_loopw [6, 7, 25] (fun o s i wr => ∃ j : Nat, j ≤ m ∧ i = .int .i64 j ∧ s = .int .i64 (sumZ (X.take j)) ∧ wr.ownsRow w.heap.size 3 1 o j ((X.take j).map intV) ∧ Below w.heap.size w wr)
    (fun _ _ i _ => m - (intOf i).toNat)
  case atStart => exact ⟨0, Nat.zero_le _, rfl, rfl, World.ownsRow_nil _ _ _ _, Below.refl _ _⟩
  case round =>
    obtain ⟨j, hj, rfl, rfl, hown, hB⟩ := hrel
    have hsb := parts_sum (X.take j) 20 (by simp; omega) (fun x hx => HP.out x (List.mem_of_mem_take hx))
    obtain ⟨s, hs⟩ : ∃ s, sumZ (X.take j) = s := ⟨_, rfl⟩
    rw [hs] at hsb ⊢
    obtain ⟨s0, s1⟩ := hsb
    have HS := Lib.hid hs
    have HO := Lib.hid hown
    clear hs hown
    by_cases hlt : j < m
    · obtain ⟨y, hy, y0, y1, x, rfl, hc⟩ := HC.out j hlt
      have hc' : wr.cell? (x.add j) = some (.int .u32 y) := (hB.cell (by rw [add_block]; have := cell_lt hc; rwa [add_block] at this)).trans hc
      have HY := Lib.hid hy
      have z0 : 0 ≤ y % 1048576 := by omega
      have z1 : y % 1048576 < 1048576 := by omega
      clear hc hy
      go_wp2_with (at_builtin; refine wpList_append_own _ rfl _ _ 30 rfl w.heap.size 3 i0 (.int .i64 0) 1 8 Tryd.underlying30 hi hz0 hz1 hz2 rfl (by decide) _ _ _ rfl (HO.out.alloc _) ⟨wr.heap.size, 0, none⟩ 1 1 [.int .i64 _] rfl rfl (int_news _ _ _ _ rfl) (by simp [Value.oneCell']) (by unfold maxLen; omega) (by omega) (by have := hB.size; simp; omega) ?_; intro v' w1 hown' hgrow hnn; clear hnn; have HO1 := Lib.hid hown'; have HB1 := Lib.hid (own_below hB hB.size HO.out hgrow); clear hown' hgrow)
      have e : X.take (j + 1) = X.take j ++ [y % 1048576] := by
        rw [List.take_succ_eq_append_getElem (by omega)]; congr 1; have := HY.out; rw [List.getElem?_eq_getElem (by omega)] at this; simpa using this
      go_roundw
      case rel =>
        refine ⟨j + 1, by omega, by go_num, ?_, ?_, HB1.out⟩
        · rw [e, sumZ_snoc, HS.out]
        · have h1 := HO1.out
          rw [e, List.map_append]
          exact h1
      case measure => simp [intOf]; omega
    · obtain rfl : j = m := by omega
      have hXt : X.take j = X := List.take_of_length_le (by omega)
      have hsX : sumZ X = s := by rw [← HS.out, hXt]
      have hown := HO.out
      rw [hXt] at hown
      have hD := distR_ok n X (by omega) HP.out hl20
      rw [hsX] at hD
      by_cases hs0 : s = 0
      · rw [if_pos hs0] at hD
        subst hs0
        have C := Lib.hid (fun v (hv : IntsAt wr v X) => dist_at n X ([], 5) hD v wr hv (by omega))
        have V := Lib.hid (IntsAt.of_own hown)
        have HB := Lib.hid hB
        clear hD hXt hsX hown hB hlt hj hmn hshape2
        go_wp2_with fail
        refine (C.out _ V.out).mono ?_
        rintro e w1 ⟨v1, rfl, hv1, q⟩
        have B1 := Lib.hid (below_seq HB.out q (Nat.le_refl _))
        obtain ⟨a1, c1, rfl, -⟩ := hv1
        clear q
        go_wp2_with fail
        refine (awake_any _ (HT.out.below B1.out)).mono ?_
        rintro e w9 ⟨rfl, q9⟩
        have B9 := Lib.hid (below_seq B1.out q9 (Nat.le_refl _))
        clear q9
        go_wp2
        go_ret
        exact ⟨rfl, B9.out⟩
      · rw [if_neg hs0] at hD
        have hj0 : 0 < j := by
          rcases Nat.eq_zero_or_pos j with h0 | h0
          · exfalso; apply hs0; rw [← hsX, List.length_eq_zero_iff.1 (show X.length = 0 by omega)]; rfl
          · exact h0
        have sp : 0 < s := by omega
        have hs0b : (s == 0) = false := by simpa using hs0
        rcases hown.2 with ⟨-, hh⟩ | ⟨g, cp, cur, rfl, hgb, hgh, hnc, hcp, -⟩
        · exact absurd hh (by omega)
        have hgl : g < wr.heap.size := (Array.getElem?_eq_some_iff.1 hgh).1
        have hLc : ∀ k, k < j → wr.cell? ⟨g, k, none⟩ = some (.int .i64 (X.getD k 0)) := fun k hk => by
          rw [hown.cellAt k (by omega), List.getElem?_map, List.getD_eq_getElem?_getD, List.getElem?_eq_getElem (by omega)]; rfl
        obtain ⟨D, hDD⟩ : ∃ D, distL n s 0 X = D := ⟨_, rfl⟩
        have hDl : D.length = j := by rw [← hDD, distL_len, hXl]
        have hDk : ∀ k (hk : k < j), D.getD k 0 = n * (sumZ (X.take k) + X.getD k 0) / s - n * sumZ (X.take k) / s := fun k hk => by
          rw [← hDD, List.getD_eq_getElem?_getD, distL_get n s X k (by omega), List.getD_eq_getElem?_getD, List.getElem?_eq_getElem (by omega)]; rfl
        rw [hDD] at hD
        have C := Lib.hid (fun v (hv : IntsAt wr v X) => dist_at n X (D, 0) hD v wr hv (by omega))
        have V := Lib.hid (IntsAt.of_own hown)
        have HB := Lib.hid hB
        have HLC := Lib.hid hLc
        have HDK := Lib.hid hDk
        have HDL := Lib.hid hDl
        have HSX := Lib.hid hsX
        have hnn : 0 ≤ sumZ X := by rw [hsX]; omega
        clear hD hXt hsX hown hB hlt hj hmn hshape2 hs0 hLc hDk hDl hDD hgh HO HS hnn
        have HXL := Lib.hid hXl
        clear hXl
        unfold maxLen at hcp
        go_wp2_with fail
        refine (C.out _ V.out).mono ?_
        rintro e w1 ⟨v1, rfl, hv1, q⟩
        have B1 := Lib.hid (below_seq HB.out q (Nat.le_refl _))
        have HLC1 := Lib.hid (fun k (hk : k < j) => (q.cell (p := ⟨g, k, none⟩) hgl).trans (HLC.out k hk))
        obtain ⟨b1, o1, c1, rfl, hb1, hcd1⟩ := ints_open hv1 HDL.out hj0
        have HDC := Lib.hid hcd1
        clear q hcd1 hgl
        go_wp2_with fail
        go_loop [12, 70] (fun sm i => ∃ k : Nat, k ≤ j ∧ i = .int .i64 k ∧ sm = .int .i64 (n * sumZ (X.take k) / s)) (fun _ i => j - (intOf i).toNat)
        case atStart => exact ⟨0, Nat.zero_le _, rfl, by simp [sumZ]⟩
        case round =>
          obtain ⟨k, hk, rfl, rfl⟩ := hrel
          have hsk := parts_sum (X.take k) 20 (by simp; omega) (fun x hx => HP.out x (List.mem_of_mem_take hx))
          have hsle := sum_take_le X k (parts_all HP.out)
          rw [HSX.out] at hsle
          obtain ⟨r, hr⟩ : ∃ r, sumZ (X.take k) = r := ⟨_, rfl⟩
          rw [hr] at hsk hsle ⊢
          obtain ⟨f1, hf1⟩ : ∃ f, n * r / s = f := ⟨_, rfl⟩
          have hq1 := quot_small n r s (by omega) (by omega) sp hsk.1 hsle
          rw [hf1] at hq1 ⊢
          obtain ⟨q0, q1⟩ := hq1
          by_cases hkj : k < j
          · have hc1 := HDC.out k hkj
            have hc2 := HLC1.out k hkj
            have hdk := HDK.out k hkj
            have hy := HP.out (X.getD k 0) (by rw [List.getD_eq_getElem?_getD, List.getElem?_eq_getElem (by rw [HXL.out]; exact hkj)]; exact List.getElem_mem _)
            have e : X.take (k + 1) = X.take k ++ [X.getD k 0] := by
              rw [List.take_succ_eq_append_getElem (by rw [HXL.out]; exact hkj), List.getD_eq_getElem?_getD, List.getElem?_eq_getElem (by rw [HXL.out]; exact hkj)]; rfl
            have hsle2 := sum_take_le X (k + 1) (parts_all HP.out)
            rw [HSX.out, e, sumZ_snoc, hr] at hsle2
            have hsk2 : sumZ (X.take (k + 1)) = r + X.getD k 0 := by rw [e, sumZ_snoc, hr]
            obtain ⟨y, hyy⟩ : ∃ y, X.getD k 0 = y := ⟨_, rfl⟩
            obtain ⟨x, hxx⟩ : ∃ x, D.getD k 0 = x := ⟨_, rfl⟩
            rw [hyy] at hc2 hdk hy hsle2 hsk2
            rw [hxx] at hc1 hdk
            rw [hr, hf1] at hdk
            obtain ⟨f2, hf2⟩ : ∃ f, n * (r + y) / s = f := ⟨_, rfl⟩
            have hq2 := quot_small n (r + y) s (by omega) (by omega) sp (by omega) (by omega)
            obtain ⟨g1, g2, g3⟩ := quot_facts n r y s f1 f2 sp hf1 hf2
            rw [hf2] at hdk hq2
            rw [← hdk] at g1 g2 g3
            have hpy := prod_small n y (by omega) (by omega) hy.1 (by omega)
            obtain ⟨P, hP⟩ : ∃ P, x * s = P := ⟨_, rfl⟩
            obtain ⟨Q, hQ⟩ : ∃ Q, n * y = Q := ⟨_, rfl⟩
            rw [hP, hQ] at g1 g2
            rw [hQ] at hpy
            have w1' : IntKind.i64.wrap (x * s) = P := by rw [hP]; exact IntWalk.i64_in _ (by omega)
            have W2 := Lib.hid (show IntKind.i64.wrap (n * y) = Q by rw [hQ]; exact IntWalk.i64_in _ (by clear w1'; omega))
            have W1 := Lib.hid w1'
            have H2 := Lib.hid hsk2
            have HF2 := Lib.hid hf2
            have HDX := Lib.hid hdk
            obtain ⟨x0, x1⟩ : -2097152 ≤ x ∧ x ≤ 2097152 := by clear w1' ; omega
            have hsum : f1 + x = f2 := by clear w1'; omega
            have HSUM := Lib.hid hsum
            clear w1' hP hQ hsk2 hf2 hf1 hr hdk hyy hxx e hsum
            have hway : (y = 0 ∧ x = 0) ∨ 0 < y := by
              rcases Int.lt_or_le 0 y with h | h
              · exact .inr h
              · exact .inl ⟨by omega, by have := g3 (by omega); have := HDX.out; omega⟩
            clear g3
            rcases hway with ⟨rfl, rfl⟩ | hy0
            · have w1 := W1.out
              have w2 := W2.out
              go_wp2
              go_round
              case rel => exact ⟨k + 1, by omega, by go_num, by rw [H2.out, HF2.out, ← HSUM.out]; go_num⟩
              case measure => simp [intOf]; omega
            · have hyb : (y == 0) = false := by simp; omega
              have w1 := W1.out
              have w2 := W2.out
              go_wp2
              go_round
              case rel => exact ⟨k + 1, by omega, by go_num, by rw [H2.out, HF2.out, ← HSUM.out]⟩
              case measure => simp [intOf]; omega
          · obtain rfl : k = j := by omega
            have hfn : f1 = n := by
              rw [← hf1, ← hr, List.take_of_length_le (by rw [HXL.out]; exact Nat.le_refl _), HSX.out, Int.mul_ediv_cancel _ (by omega)]
            subst hfn
            clear hf1 hr
            go_wp2_with fail
            refine (awake_any _ (HT.out.below B1.out)).mono ?_
            rintro e w9 ⟨rfl, q9⟩
            have B9 := Lib.hid (below_seq B1.out q9 (Nat.le_refl _))
            clear q9
            go_wp2
            go_ret
            exact ⟨rfl, B9.out⟩
theorem dists_law (a0 : Int) (a : Option Addr) (len cap : Nat) (z : List Int) (w : World) (w0 : (Lit.int .i32 a0).wf = true) (hr : RowIn .u32 w a len cap z) (hT : Tab w) :
    Calls Tryd.prog 9 #[.int .i32 a0, .slice a len cap] w fun e w' => e = .returned (.bool true) ∧ Below w.heap.size w w' :=
  dists_walk a0 a len cap z w (wf_i32 w0) hr hT
end Go.Proofs.YtkiaiiepfphllaaDoor
