/- Increasing and Weighted. -/
import Derived.Test.YteceahbnafaeoaaSpHeavy
import Derived.Test.YteceahbnafaeoaaSpRepeat
namespace Go.Proofs.Yteceahbnafaeoaa
set_option linter.unusedSimpArgs false
set_option linter.unusedVariables false
set_option maxRecDepth 100000
open Go.RowKit Go.Shelf Go.Deep

theorem alloc_belowP (w : World) (o : Obj) : Below w.heap.size w (w.alloc o) := (Below.refl _ w).alloc (Nat.le_refl _) o
theorem isOf_idx (s : List It) : (isOf s).map (fun x : Nat => (x : Int)) = idx s := by unfold isOf idx; rw [List.map_map]; rfl
theorem fh_len (l ws : List Int) (hlen : l.length = ws.length) (hl : l.length ≤ 1024) : (isOf (fh none (its 0 l (toW ws)))).length ≤ 1024 := by
  have h := (fh_good (its 0 l (toW ws)) none (asc_its 0 l (toW ws))).1.length_le
  rw [its_len 0 l (toW ws) (by rw [toWlen]; exact hlen)] at h
  rw [List.length_map]; omega
/-- the indices of a subsequence, collected -/
theorem gather_any (s : List It) (q : Option Addr) (B : Nat) (w : World) (hB : B < w.heap.size) (hc : w.cell? ⟨B, 0, none⟩ = some (.pointer q)) (hs : SubAt w q s) (hl : (isOf s).length ≤ 1024) :
    Calls Try.prog 47 #[.func (.func 68) #[] #[.pointer (some ⟨B, 0, none⟩)]] w fun e w' => ∃ v, e = .returned v ∧ IntsAt w' v (idx s) ∧ Below w.heap.size w w' := by
  have h := collect_any (isOf s) hl 68 #[.pointer (some ⟨B, 0, none⟩)] (fun args w => Try.call68 args w) w (by
    have := indices_stops B s q w hB hc hs
    rw [show (isOf s).length = s.length by simp]
    exact this)
  rw [isOf_idx] at h
  exact h
set_option maxHeartbeats 4000000 in
theorem incr_any (l : List Int) (v : Value) (w : World) (hv : IntsAt w v l) : Calls Try.prog 13 #[v] w (ListPost (incE l) w) := by
  have HV := Lib.hid hv
  by_cases h1 : 1024 < l.length
  · have TL := Lib.hid (tooLong_any l v true (decide_eq_true h1) w hv)
    have e : incE l = ([], 4) := by unfold incE; rw [if_pos h1]
    rw [e]
    obtain ⟨a, cap, rfl⟩ := hv.slice
    clear hv e
    go_enter Try.func13, Try.ntmps13
    go_wp2_with fail
    refine TL.out.mono ?_
    rintro e w1 ⟨rfl, rfl⟩
    go_wp2
    go_ret2
    exact ⟨_, rfl, IntsAt.empty _ _ _, Below.refl _ _⟩
  · have TL := Lib.hid (tooLong_any l v false (decide_eq_false h1) w hv)
    have hl : l.length ≤ 1024 := by omega
    have HE := Lib.hid (show incE l = (idx (fh none (its 0 l (toW (List.replicate l.length (1 : Int))))), 0) by unfold incE; rw [if_neg h1]; unfold incR; rw [first_fh]; simp [toW, ones])
    have HLN := Lib.hid (fh_len l (List.replicate l.length (1 : Int)) (by simp) hl)
    have HH := Lib.hid (fun u W h3 h4 => heavyP_any l (List.replicate l.length (1 : Int)) (by simp) hl (fun x hx => by rw [List.eq_of_mem_replicate hx]; decide) v u W h3 h4)
    have HRP := Lib.hid (fun b cap W h3 h4 => repeat_one 1 l.length hl b cap W h3 h4)
    obtain ⟨a, cap, rfl⟩ := hv.slice
    clear hv h1
    go_enter Try.func13, Try.ntmps13
    go_wp2_with fail
    refine TL.out.mono ?_
    rintro e w1 ⟨rfl, rfl⟩
    obtain ⟨wA, rfl⟩ : ∃ x, x = w1 := ⟨_, rfl⟩
    have HB1 := Lib.hid (alloc_belowP wA (.cells #[intV 1] 3))
    have HC1 := Lib.hid (cell_of_blk (blk_alloc_new wA (.cells #[intV 1] 3)))
    have HS1 := Lib.hid (show wA.heap.size < (wA.alloc (.cells #[intV 1] 3)).heap.size by rw [nblk_alloc]; omega)
    go_wp2_with fail
    refine (HRP.out _ _ _ HC1.out HS1.out).mono ?_
    rintro e w2 ⟨u, rfl, hu, hB2⟩
    have HU := Lib.hid hu
    have HB2 := Lib.hid (below_then HB1.out hB2)
    clear hu hB2
    go_wp2_with fail
    refine (HH.out u w2 (HV.out.below HB2.out) HU.out).mono ?_
    rintro e w3 ⟨q, rfl, hq, hB3⟩
    have HQ := Lib.hid hq
    have HB3 := Lib.hid (below_then HB2.out hB3)
    clear hq hB3
    go_wp2_with fail
    refine (indices_any q w3).mono ?_
    rintro e w4 ⟨rfl, hw4⟩
    have HB4 := Lib.hid (show Below w3.heap.size w3 w4 by rw [hw4]; exact alloc_belowP _ _)
    have HG := Lib.hid (gather_any _ q w3.heap.size w4 (by rw [hw4, nblk_alloc]; omega) (by rw [hw4]; exact cell_of_blk (blk_alloc_new _ _)) (HQ.out.below HB4.out) HLN.out)
    clear hw4
    go_wp2_with fail
    refine HG.out.mono ?_
    rintro e w5 ⟨x, rfl, hx, hB5⟩
    have HX := Lib.hid hx
    have HB5 := Lib.hid (below_then (below_then HB3.out HB4.out) hB5)
    clear hx hB5
    go_wp2
    go_ret2
    rw [HE.out]
    exact ⟨_, rfl, HX.out, HB5.out⟩
theorem wOk_bad {ws : List Int} {k : Nat} (hk : k < ws.length) (h : ¬ (0 ≤ ws[k] ∧ ws[k] ≤ 1048576)) : wOk ws = false := by
  unfold wOk
  rw [List.all_eq_false]
  refine ⟨ws[k], List.getElem_mem hk, fun h2 => h ?_⟩
  rw [Bool.and_eq_true, decide_eq_true_eq, decide_eq_true_eq] at h2
  exact h2
set_option maxHeartbeats 4000000 in
theorem wtd_any (l ws : List Int) (v u : Value) (w : World) (hlm : l.length ≤ maxLen) (hwm : ws.length ≤ maxLen) (hv : IntsAt w v l) (hu : IntsAt w u ws) : Calls Try.prog 28 #[v, u] w (WtdPost (wtdE l ws) w) := by
  have HV := Lib.hid hv
  have HU := Lib.hid hu
  by_cases h1 : 1024 < l.length
  · have TL := Lib.hid (tooLong_any l v true (decide_eq_true h1) w hv)
    have e : wtdE l ws = ([], 0, 4) := by unfold wtdE; rw [if_pos h1]
    rw [e]
    obtain ⟨a, cap, rfl⟩ := hv.slice
    obtain ⟨au, cu, rfl⟩ := hu.slice
    clear hv hu e
    go_enter Try.func28, Try.ntmps28
    go_wp2_with fail
    refine TL.out.mono ?_
    rintro e w1 ⟨rfl, rfl⟩
    go_wp2
    go_ret3
    exact ⟨_, rfl, IntsAt.empty _ _ _, Below.refl _ _⟩
  have TL := Lib.hid (tooLong_any l v false (decide_eq_false h1) w hv)
  obtain ⟨a, cap, rfl⟩ := hv.slice
  obtain ⟨au, cu, rfl⟩ := hu.slice
  by_cases h2 : ws.length = l.length
  · have t2 : ((ws.length : Int) != (l.length : Int)) = false := by rw [h2]; simp
    have hl : l.length ≤ 1024 := by omega
    have hwl : ws.length ≤ 1024 := by omega
    have HLEN := Lib.hid h2
    have HLN := Lib.hid (fh_len l ws h2.symm hl)
    have CF := Lib.hid (fun hw W h3 h4 => heavyP_any l ws h2.symm hl hw (.slice a l.length cap) (.slice au ws.length cu) W h3 h4)
    have HBAD := Lib.hid (show wOk ws = false → wtdE l ws = ([], 0, 2) from fun h => by unfold wtdE; rw [if_neg h1, if_neg (by omega), if_neg (by rw [h]; decide)])
    have HGOOD := Lib.hid (show wOk ws = true → wtdE l ws = (idx (fh none (its 0 l (toW ws))), (wt (fh none (its 0 l (toW ws))) : Int), 0) from fun h => by unfold wtdE; rw [if_neg h1, if_neg (by omega), if_pos h, most_fh, first_fh])
    clear hv hu h2 h1 hlm hwm
    go_enter Try.func28, Try.ntmps28
    go_wp2_with fail
    refine TL.out.mono ?_
    rintro e w1 ⟨rfl, rfl⟩
    obtain ⟨wA, rfl⟩ : ∃ x, x = w1 := ⟨_, rfl⟩
    go_wp2
    go_loopw [19] (fun i wr => ∃ k : Nat, k ≤ ws.length ∧ i = .int .i64 k ∧ wr = wA ∧ ∀ x ∈ ws.take k, 0 ≤ x ∧ x ≤ 1048576) (fun i _ => ws.length - (intOf i).toNat)
    case atStart => exact ⟨0, Nat.zero_le _, rfl, rfl, by simp⟩
    case round =>
      obtain ⟨k, hk, rfl, rfl, hg⟩ := hrel
      have HG := Lib.hid hg
      by_cases hlt : k < ws.length
      · obtain ⟨b, off, rfl, hbb, c0⟩ := HU.out.elem hlt
        have HWB := Lib.hid (fun h => wOk_bad hlt h)
        have HTK := Lib.hid (take_succ_int ws k hlt)
        obtain ⟨x, hx⟩ : ∃ x, ws[k] = x := ⟨_, rfl⟩
        rw [hx] at c0 HWB HTK
        clear hg hx
        by_cases hx0 : x < 0
        · have HE := Lib.hid (HBAD.out (HWB.out (by omega)))
          go_wp2
          go_ret3
          rw [HE.out]
          exact ⟨_, rfl, IntsAt.empty _ _ _, Below.refl _ _⟩
        · by_cases hx1 : 1048576 < x
          · have HE := Lib.hid (HBAD.out (HWB.out (by omega)))
            go_wp2
            go_ret3
            rw [HE.out]
            exact ⟨_, rfl, IntsAt.empty _ _ _, Below.refl _ _⟩
          · go_wp2
            go_roundw
            case rel =>
              refine ⟨k + 1, by omega, by go_num, trivial, fun y hy => ?_⟩
              rw [HTK.out] at hy
              rcases List.mem_append.1 hy with hy | hy
              · exact HG.out y hy
              · simp at hy; omega
            case measure => simp [intOf]; omega
      · obtain rfl : k = ws.length := by omega
        have hgg : ∀ x ∈ ws, 0 ≤ x ∧ x ≤ 1048576 := by have := HG.out; rwa [List.take_length] at this
        have HE := Lib.hid (HGOOD.out (by
          unfold wOk
          rw [List.all_eq_true]
          intro x hx
          obtain ⟨q1, q2⟩ := hgg x hx
          rw [decide_eq_true q1, decide_eq_true q2]; rfl))
        have CF1 := Lib.hid (fun W h3 h4 => CF.out hgg W h3 h4)
        clear hg hgg
        go_wp2_with fail
        refine (CF1.out _ HV.out HU.out).mono ?_
        rintro e w3 ⟨q, rfl, hq, hB3⟩
        have HQ := Lib.hid hq
        have HB3 := Lib.hid hB3
        clear hq hB3
        go_wp2_with fail
        refine (indices_any q w3).mono ?_
        rintro e w4 ⟨rfl, hw4⟩
        have HB4 := Lib.hid (show Below w3.heap.size w3 w4 by rw [hw4]; exact alloc_belowP _ _)
        have HG4 := Lib.hid (gather_any _ q w3.heap.size w4 (by rw [hw4, nblk_alloc]; omega) (by rw [hw4]; exact cell_of_blk (blk_alloc_new _ _)) (HQ.out.below HB4.out) HLN.out)
        clear hw4
        go_wp2_with fail
        refine HG4.out.mono ?_
        rintro e w5 ⟨x, rfl, hx, hB5⟩
        have HX := Lib.hid hx
        have HSU := Lib.hid (sumP_any q _ w5 ((HQ.out.below HB4.out).below hB5))
        have HB5 := Lib.hid (below_then (below_then HB3.out HB4.out) hB5)
        clear hx hB5
        go_wp2_with fail
        refine HSU.out.mono ?_
        rintro e w6 ⟨rfl, rfl⟩
        go_wp2
        go_ret3
        rw [HE.out]
        exact ⟨_, rfl, HX.out, HB5.out⟩
  · have t2 : ((ws.length : Int) != (l.length : Int)) = true := by rw [bne_iff_ne]; omega
    have e : wtdE l ws = ([], 0, 9) := by unfold wtdE; rw [if_neg h1, if_pos h2]
    rw [e]
    clear hv hu e
    go_enter Try.func28, Try.ntmps28
    go_wp2_with fail
    refine TL.out.mono ?_
    rintro e w1 ⟨rfl, rfl⟩
    go_wp2
    go_ret3
    exact ⟨_, rfl, IntsAt.empty _ _ _, Below.refl _ _⟩
end Go.Proofs.Yteceahbnafaeoaa
