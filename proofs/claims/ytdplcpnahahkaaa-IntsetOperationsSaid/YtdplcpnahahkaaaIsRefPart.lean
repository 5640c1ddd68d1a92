/- The reference's Partition. -/
import Derived.Test.YtdplcpnahahkaaaIsRefOps
import Derived.Test.YtdplcpnahahkaaaIsPart
namespace Go.Proofs.Ytdplcpnahahkaaa
set_option linter.unusedSimpArgs false
set_option linter.unusedVariables false
set_option maxRecDepth 100000
open Go.RowKit Go.Deep

def rowC (f : Nat → Nat) : List Value := (List.range 64).map fun x => intV (f x : Nat)
theorem rowC_at (f : Nat → Nat) {j : Nat} (h : j < 64) : (rowC f)[j]? = some (intV (f j : Nat)) := by
  rw [rowC, List.getElem?_map, List.getElem?_range h]; rfl
theorem rowC_set (f : Nat → Nat) {j : Nat} (h : j < 64) (v : Nat) : (rowC f).set j (intV (v : Nat)) = rowC fun x => if x = j then v else f x := by
  apply List.ext_getElem?
  intro x
  rw [List.getElem?_set]
  by_cases hx : x < 64
  · have h1 := rowC_at (fun x => if x = j then v else f x) hx
    by_cases e : j = x
    · subst e
      rw [if_pos rfl, if_pos (by simpa [rowC] using hx), h1]
      show some (intV (v : Int)) = some (intV ((if j = j then v else f j : Nat) : Int))
      rw [if_pos rfl]
    · rw [if_neg e, rowC_at _ hx, h1]
      show some (intV (f x : Int)) = some (intV ((if x = j then v else f x : Nat) : Int))
      rw [if_neg (fun h => e h.symm)]
  · have h1 : (rowC f)[x]? = none := List.getElem?_eq_none (by simp [rowC]; omega)
    have h2 : (rowC fun x => if x = j then v else f x)[x]? = none := List.getElem?_eq_none (by simp [rowC]; omega)
    rw [h1, h2, if_neg (by omega)]
theorem rowC_congr {f g : Nat → Nat} (h : ∀ x, x < 64 → f x = g x) : rowC f = rowC g := by
  rw [rowC, rowC]
  refine List.map_congr_left fun x hx => ?_
  rw [h x (List.mem_range.1 hx)]
theorem rowC_zero : (madeCells (Value.cells (.int .i64 0)) (64 * 1)).toList = rowC fun _ => 0 := by
  rw [Nat.mul_one]
  exact (toList_madeCells_one (.int .i64 0) 64).trans (by rw [rowC, show (fun x : Nat => intV (((fun _ => 0) x : Nat) : Int)) = fun _ => Value.int .i64 0 from rfl, List.map_const', List.length_range])
theorem has_snoc (l : List Int) (k : Nat) (h : k < l.length) (x : Nat) : has (l.take (k + 1)) x = (has (l.take k) x || decide ((x : Int) = l[k])) := by
  rw [Bool.eq_iff_iff]
  simp only [has, Bool.or_eq_true, decide_eq_true_eq]
  rw [take_succ_int l k h, List.mem_append, List.mem_singleton]
theorem not_before {l : List Int} (h : errL l = 0) (k : Nat) (hk : k < l.length) : l[k] ∉ l.take k := by
  intro hm
  obtain ⟨j, hj, e⟩ := List.getElem_of_mem hm
  rw [List.length_take] at hj
  rw [List.getElem_take] at e
  have := List.pairwise_iff_getElem.1 ((err_iff l).1 h).1 j k (by omega) hk (by omega)
  omega
def stepC (A : List (List Int)) (l : List Int) (k : Nat) (x : Nat) : Nat := cnt A x + if has (l.take k) x = true then 1 else 0
theorem stepC_zero (A : List (List Int)) (l : List Int) (x : Nat) : stepC A l 0 x = cnt A x := by simp [stepC, has]
theorem stepC_end (A : List (List Int)) (l : List Int) (x : Nat) : stepC A l l.length x = cnt (A ++ [l]) x := by rw [stepC, List.take_length, cnt_append, cnt_one]
theorem stepC_succ {A : List (List Int)} {l : List Int} (h : errL l = 0) {k : Nat} (hk : k < l.length) {y : Nat} (hy : l[k] = y) (x : Nat) : stepC A l (k + 1) x = if x = y then stepC A l k y + 1 else stepC A l k x := by
  have hn := not_before h k hk
  rw [hy] at hn
  rw [stepC, has_snoc l k hk x, hy]
  by_cases e : x = y
  · subst e
    rw [if_pos rfl, stepC]
    have : has (l.take k) x = false := by rw [has, decide_eq_false_iff_not]; exact hn
    rw [this]; simp
  · rw [if_neg e, stepC]
    have : decide ((x : Int) = (y : Int)) = false := by rw [decide_eq_false_iff_not]; omega
    rw [this, Bool.or_false]
theorem cnt_le (A : List (List Int)) (x : Nat) : cnt A x ≤ A.length := List.length_filter_le _ _
theorem stepC_le (A : List (List Int)) (l : List Int) (k x : Nat) : stepC A l k x ≤ A.length + 1 := by
  have := cnt_le A x
  rw [stepC]; split <;> omega

set_option maxHeartbeats 8000000 in
theorem refPart_any (n : Int) (L : List (List Int)) (r : Bool × Int) (hr : partR n L = r) (v : Value) (w : World) (hv : ListsAt w v L) (hl : L.length ≤ 1000000) (hs : ∀ l ∈ L, l.length ≤ 1000000) :
    Calls Try.prog 19 #[intV n, v] w fun e w' => e = .returned (.tuple #[.bool r.1, intV r.2]) ∧ Below w.heap.size w w' := by
  obtain ⟨i0, hi, hz0, hz1, hz2⟩ := info_parts info_int
  have HV := Lib.hid hv
  have HL := Lib.hid hs
  obtain ⟨a, cap, rfl, _⟩ := hv
  have HR := Lib.hid hr
  clear hr hs
  by_cases hn : n < 0 ∨ 64 < n
  · have HRR := Lib.hid (show r = (false, 2) by rw [← HR.out, partR, if_pos hn])
    clear HV HR hi hz0 hz1 hz2
    rcases (show n < 0 ∨ (0 ≤ n ∧ 64 < n) by omega) with h1 | ⟨h0, h1⟩
    all_goals
      go_enter Try.func19, Try.ntmps19
      go_wp2
      go_ret2
      exact ⟨ret_of HRR.out, Below.refl _ _⟩
  · obtain ⟨n0, n1⟩ : 0 ≤ n ∧ n ≤ 64 := by omega
    go_enter Try.func19, Try.ntmps19
    go_wp2
    go_loopw [6] (fun i wr => ∃ k m : Nat, k ≤ L.length ∧ i = .int .i64 k ∧ wr = w.drewN m ∧ ∀ l ∈ L.take k, errL l = 0) (fun i _ => L.length - (intOf i).toNat)
    case atStart => exact ⟨0, 0, Nat.zero_le _, rfl, rfl, by simp⟩
    case round =>
      obtain ⟨k, m, hk, rfl, hwr, ha⟩ := hrel
      obtain ⟨wk, rfl⟩ : ∃ x, x = wr := ⟨_, rfl⟩
      have HA := Lib.hid ha
      have HW := Lib.hid hwr
      have hB : Below w.heap.size w wk := by rw [hwr]; exact below_drewN _ _
      have HB := Lib.hid hB
      clear ha hwr
      by_cases hlt : k < L.length
      · obtain ⟨b, off, u, c, rfl, hb, hcell, hx⟩ := (HV.out.below hB).elem hlt
        have HT := Lib.hid (List.take_succ_eq_append_getElem hlt)
        have hmem := List.getElem_mem hlt
        have hlen := HL.out _ hmem
        have HM := Lib.hid hmem
        obtain ⟨x, hxx⟩ : ∃ x, L[k] = x := ⟨_, rfl⟩
        rw [hxx] at hcell hx HT hlen HM
        have C := Lib.hid (refCheck_any x _ wk hx hlen)
        obtain ⟨q, hq⟩ : ∃ q, errL x = q := ⟨_, rfl⟩
        rw [hq] at C
        have HQ := Lib.hid hq
        clear hmem hxx hx hlen hB hq
        by_cases h0 : q = 0
        · subst h0
          go_wp2_with fail
          refine C.out.mono ?_
          rintro e w1 ⟨rfl, m', hm'⟩
          have HM' := Lib.hid hm'
          clear hm' C
          go_wp2
          go_roundw
          case rel =>
            refine ⟨k + 1, _, by omega, by go_num, by rw [HM'.out, HW.out, World.drewN_drewN], ?_⟩
            rw [HT.out]
            intro l hl
            rcases List.mem_append.1 hl with h | h
            · exact HA.out l h
            · simp at h; rw [h]; exact HQ.out
          case measure => simp [intOf]; omega
        · have h0' : (q != 0) = true := by rw [bne_iff_ne]; exact h0
          have HRR := Lib.hid (show r = (false, 1) by rw [← HR.out, partR, if_neg hn, if_pos ⟨x, HM.out, by rw [HQ.out]; exact h0⟩])
          clear h0
          go_wp2_with fail
          refine C.out.mono ?_
          rintro e w1 ⟨rfl, m', hm'⟩
          have HBE := Lib.hid (HB.out.trans (show Below w.heap.size wk w1 by rw [hm']; exact below_drewN_n _ _ _))
          clear hm' C
          go_wp2
          go_ret2
          exact ⟨ret_of HRR.out, HBE.out⟩
      · obtain rfl : k = L.length := by omega
        rw [List.take_length] at HA
        have HRR := Lib.hid (show r = (partB n L, 0) by rw [← HR.out, partR, if_neg hn, if_neg (by rintro ⟨l, h1, h2⟩; exact h2 (HA.out l h1))])
        obtain ⟨res, hres⟩ : ∃ q, partB n L = q := ⟨_, rfl⟩
        rw [hres] at HRR
        have HRES := Lib.hid hres
        clear HW HR hres hB hn
        go_wp2_with (refine wpList_make_full _ rfl _ _ 22 rfl w.heap.size 3 i0 (.int .i64 0) 1 Try.underlying22 hi hz0 hz1 .i64 .i64 _ _ 64 rfl rfl rfl rfl (by rw [hz2]; omega) (by unfold maxLen; omega) (by exact HB.out.size) ?_; intro w1 hown1 hgrow1; rw [rowC_zero] at hown1; have HO1 := Lib.hid hown1; have HB1 := Lib.hid (HB.out.trans ((below_make hgrow1).mono HB.out.size)); clear hown1 hgrow1)
        obtain ⟨g, hg⟩ : ∃ g, wk.heap.size = g := ⟨_, rfl⟩
        rw [hg] at HO1
        have HGG := Lib.hid (show w.heap.size ≤ g by rw [← hg]; exact HB.out.size)
        rw [hg]
        have HINR := Lib.hid (fun l (h : l ∈ L) => ((err_iff l).1 (HA.out l h)).2)
        clear hg HB
        go_loopw [8] (fun i wr => ∃ k : Nat, k ≤ L.length ∧ i = .int .i64 k ∧ wr.ownsRow w.heap.size 3 1 (.slice (some ⟨g, 0, none⟩) 64 64) 64 (rowC (cnt (L.take k))) ∧ Below w.heap.size w wr ∧ ∀ l ∈ L.take k, l ≠ []) (fun i _ => L.length - (intOf i).toNat)
        case atStart => exact ⟨0, Nat.zero_le _, rfl, by rw [rowC_congr (g := fun _ => 0) (fun x _ => by simp [cnt])]; exact HO1.out, HB1.out, by simp⟩
        case round =>
          obtain ⟨k, hk, rfl, hown, hB, hne⟩ := hrel
          obtain ⟨wi, rfl⟩ : ∃ x, x = wr := ⟨_, rfl⟩
          have HO := Lib.hid hown
          have HB := Lib.hid hB
          have HNE := Lib.hid hne
          clear hown hne HO1 HB1
          by_cases hlt : k < L.length
          · obtain ⟨b, off, u, c, rfl, hb, hcell, hx⟩ := (HV.out.below hB).elem hlt
            have HT := Lib.hid (List.take_succ_eq_append_getElem hlt)
            have hmem := List.getElem_mem hlt
            have hlen := HL.out _ hmem
            have HM := Lib.hid hmem
            obtain ⟨x, hxx⟩ : ∃ x, L[k] = x := ⟨_, rfl⟩
            rw [hxx] at hcell hx HT hlen HM
            have HXX := Lib.hid hxx
            clear hmem hxx hx hB
            by_cases h0 : x.length = 0
            · have hbad : res = false := by rw [← HRES.out]; exact partB_no_empty HM.out (List.length_eq_zero_iff.1 h0)
              subst hbad
              have h0' : ((x.length : Int) == 0) = true := by rw [beq_iff_eq]; omega
              clear h0
              go_wp2
              go_ret2
              exact ⟨ret_of HRR.out, HB.out⟩
            · have h0' : ((x.length : Int) == 0) = false := by rw [beq_eq_false_iff_ne]; omega
              have HX0 := Lib.hid h0
              clear h0
              go_wp2
              clear hcell h0'
              go_loopw [9] (fun i wr => ∃ j : Nat, j ≤ x.length ∧ i = .int .i64 j ∧ wr.ownsRow w.heap.size 3 1 (.slice (some ⟨g, 0, none⟩) 64 64) 64 (rowC (stepC (L.take k) x j)) ∧ Below w.heap.size w wr) (fun i _ => x.length - (intOf i).toNat)
              case atStart => exact ⟨0, Nat.zero_le _, rfl, by rw [rowC_congr (fun y _ => stepC_zero _ _ y)]; exact HO.out, HB.out⟩
              case round =>
                obtain ⟨j, hj, rfl, hown, hB⟩ := hrel
                obtain ⟨wj, rfl⟩ : ∃ x, x = wr := ⟨_, rfl⟩
                have HOJ := Lib.hid hown
                have HBJ := Lib.hid hB
                obtain ⟨b2, off2, u2, c2, e2, hb2, hcell2, hx2⟩ := (HV.out.below hB).elem hlt
                cases e2
                rw [HXX.out] at hcell2 hx2
                clear hown hB
                by_cases hjl : j < x.length
                · obtain ⟨a3, c3, e3, hcs⟩ := hx2
                  cases e3
                  obtain ⟨b3, off3, rfl, hb3, hcs⟩ := hcs (by omega)
                  have hc3 := hcs j hjl
                  have hyr := HINR.out x HM.out _ (List.getElem_mem hjl)
                  obtain ⟨y, hy⟩ : ∃ y : Nat, x[j] = (y : Int) := ⟨x[j].toNat, by omega⟩
                  have HST := Lib.hid (fun (q : Nat) => stepC_succ (A := L.take k) (HA.out x HM.out) hjl hy q)
                  rw [hy] at hc3 hyr
                  have hyl : y < 64 := by omega
                  have hrow := HOJ.out.cellAt y hyl
                  rw [rowC_at _ hyl] at hrow
                  have hfz := HOJ.out.frozenAt y
                  have hbd := stepC_le (L.take k) x j y
                  rw [List.length_take] at hbd
                  obtain ⟨f0, hf0⟩ : ∃ q, stepC (L.take k) x j y = q := ⟨_, rfl⟩
                  rw [hf0] at hrow hbd
                  have HF0 := Lib.hid hf0
                  have hwf : IntKind.i64.wrap ((f0 : Int) + 1) = (f0 : Int) + 1 := IntWalk.i64_in _ (by omega)
                  have hy64 : (y : Int) < 64 := by omega
                  clear hcs hy hf0
                  go_wp2
                  go_roundw
                  case rel =>
                    refine ⟨j + 1, by omega, by go_num, ?_, HBJ.out.setCell (p := ⟨g, y, none⟩) HGG.out _⟩
                    have h1 := (HOJ.out.stored y (intV ((f0 + 1 : Nat) : Int))).1
                    rw [rowC_set _ hyl] at h1
                    rw [rowC_congr (fun q _ => by rw [HST.out q, HF0.out])]
                    exact h1
                  case measure => simp [intOf]; omega
                · obtain rfl : j = x.length := by omega
                  go_wp2
                  go_roundw
                  case rel =>
                    refine ⟨k + 1, by omega, by go_num, ?_, HBJ.out, ?_⟩
                    · rw [HT.out, ← rowC_congr (fun q _ => stepC_end (L.take k) x q)]; exact HOJ.out
                    · rw [HT.out]
                      intro l hl
                      rcases List.mem_append.1 hl with h | h
                      · exact HNE.out l h
                      · simp at h; rw [h]; intro e; rw [e] at HX0; exact HX0.out rfl
                  case measure => simp [intOf]; omega
          · obtain rfl : k = L.length := by omega
            rw [List.take_length] at HO HNE
            clear hB
            go_wp2
            go_loop [10] (fun i => ∃ x : Nat, x ≤ 64 ∧ i = .int .i64 x ∧ ∀ y, y < x → cnt L y = if (y : Int) < n then 1 else 0) (fun i => 64 - (intOf i).toNat)
            case atStart => exact ⟨0, Nat.zero_le _, rfl, fun y hy => absurd hy (by omega)⟩
            case round =>
              obtain ⟨x, hx, rfl, hall⟩ := hrel
              have HALL := Lib.hid hall
              clear hall
              by_cases hlt : x < 64
              · have hcell := HO.out.cellAt x hlt
                rw [rowC_at _ hlt] at hcell
                have HCNT := Lib.hid (fun (h : partB n L = true) => ((of_decide_eq_true h).2 x hlt : cnt L x = if (x : Int) < n then 1 else 0))
                obtain ⟨cc, hcc⟩ : ∃ q, cnt L x = q := ⟨_, rfl⟩
                rw [hcc] at hcell HCNT
                have HCC := Lib.hid hcc
                have hx64 : (x : Int) < 64 := by omega
                have HOKC := Lib.hid (fun (h : cc = if (x : Int) < n then 1 else 0) => (show ∀ y, y < x + 1 → cnt L y = if (y : Int) < n then 1 else 0 from fun y hy => by
                  by_cases e : y = x
                  · subst e; rw [HCC.out]; exact h
                  · exact HALL.out y (by omega)))
                clear hcc
                by_cases hxn : (x : Int) < n
                · rw [if_pos hxn] at HCNT HOKC
                  by_cases h1 : cc = 1
                  · have h1' : ((cc : Int) != 1) = false := by rw [h1]; rfl
                    have HOK1 := Lib.hid (HOKC.out h1)
                    have hnx : ¬ n ≤ (x : Int) := by omega
                    clear h1
                    go_wp2
                    go_round
                    case rel => exact ⟨x + 1, by omega, by go_num, HOK1.out⟩
                    case measure => simp [intOf]; omega
                  · have h1' : ((cc : Int) != 1) = true := by rw [bne_iff_ne]; omega
                    have hbad : res = false := by
                      rw [← HRES.out]
                      cases hp : partB n L
                      · rfl
                      · exact absurd (HCNT.out hp) h1
                    subst hbad
                    go_wp2
                    go_ret2
                    exact ⟨ret_of HRR.out, HB.out⟩
                · rw [if_neg hxn] at HCNT HOKC
                  have hnx : n ≤ (x : Int) := by omega
                  by_cases h1 : cc = 0
                  · have h1' : ((cc : Int) != 0) = false := by rw [h1]; rfl
                    have HOK1 := Lib.hid (HOKC.out h1)
                    clear h1
                    go_wp2
                    go_round
                    case rel => exact ⟨x + 1, by omega, by go_num, HOK1.out⟩
                    case measure => simp [intOf]; omega
                  · have h1' : ((cc : Int) != 0) = true := by rw [bne_iff_ne]; omega
                    have hbad : res = false := by
                      rw [← HRES.out]
                      cases hp : partB n L
                      · rfl
                      · exact absurd (HCNT.out hp) h1
                    subst hbad
                    go_wp2
                    go_ret2
                    exact ⟨ret_of HRR.out, HB.out⟩
              · obtain rfl : x = 64 := by omega
                have hgood : res = true := by rw [← HRES.out, partB, decide_eq_true_eq]; exact ⟨HNE.out, HALL.out⟩
                subst hgood
                go_wp2
                go_ret2
                exact ⟨ret_of HRR.out, HB.out⟩
end Go.Proofs.Ytdplcpnahahkaaa
