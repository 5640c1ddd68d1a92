/- The reference's Increasing and Weighted. -/
import Derived.Test.YteceahbnafaeoaaSqRefF
namespace Go.Proofs.Yteceahbnafaeoaa
set_option linter.unusedSimpArgs false
set_option linter.unusedVariables false
set_option maxRecDepth 100000
open Go.RowKit Go.Deep

theorem wOk_at {ws : List Int} {k : Nat} (hk : k < ws.length) (h : ¬ (0 ≤ ws[k] ∧ ws[k] ≤ 1048576)) : wOk ws = false := by
  unfold wOk
  rw [List.all_eq_false]
  refine ⟨ws[k], List.getElem_mem hk, fun h2 => h ?_⟩
  rw [Bool.and_eq_true, decide_eq_true_eq, decide_eq_true_eq] at h2
  exact h2
set_option maxHeartbeats 4000000 in
theorem refWtd_any (l ws : List Int) (hl : l.length ≤ 12 ∨ 1024 < l.length) (hlm : l.length ≤ 1000000) (hwm : ws.length ≤ 1000000) (v u : Value) (w : World) (hv : IntsAt w v l) (hu : IntsAt w u ws) :
    Calls Try.prog 29 #[v, u] w (WtdPost (wtdE l ws) w) := by
  have HV := Lib.hid hv
  have HU := Lib.hid hu
  obtain ⟨a, cap, rfl⟩ := hv.slice
  obtain ⟨au, cu, rfl⟩ := hu.slice
  by_cases h1 : 1024 < l.length
  · have t1 : decide ((1024 : Int) < (l.length : Int)) = true := decide_eq_true (by omega)
    have e : wtdE l ws = ([], 0, 4) := by unfold wtdE; rw [if_pos h1]
    rw [e]
    clear hv hu e
    go_enter Try.func29, Try.ntmps29
    go_wp2
    go_ret3
    exact ⟨_, rfl, IntsAt.empty _ _ _, Below.refl _ _⟩
  · have t1 : decide ((1024 : Int) < (l.length : Int)) = false := decide_eq_false (by omega)
    have hl12 : l.length ≤ 12 := by omega
    by_cases h2 : ws.length = l.length
    · have t2 : ((ws.length : Int) != (l.length : Int)) = false := by rw [h2]; simp
      have HLEN := Lib.hid h2
      have hw12 : ws.length ≤ 12 := by omega
      have CF := Lib.hid (fun hw W h3 h4 => first_any l ws hl12 h2.symm hw (.slice a l.length cap) (.slice au ws.length cu) W h3 h4)
      have HBAD := Lib.hid (show wOk ws = false → wtdE l ws = ([], 0, 2) from fun h => by unfold wtdE; rw [if_neg h1, if_neg (by omega), if_neg (by rw [h]; decide)])
      have HGOOD := Lib.hid (show wOk ws = true → wtdE l ws = (firstR l (toW ws), (mostR l (toW ws) : Int), 0) from fun h => by unfold wtdE; rw [if_neg h1, if_neg (by omega), if_pos h])
      clear hv hu h2 h1 hl
      go_enter Try.func29, Try.ntmps29
      go_wp2
      go_loopw [7] (fun i wr => ∃ k : Nat, k ≤ ws.length ∧ i = .int .i64 k ∧ wr = w ∧ ∀ x ∈ ws.take k, 0 ≤ x ∧ x ≤ 1048576) (fun i _ => ws.length - (intOf i).toNat)
      case atStart => exact ⟨0, Nat.zero_le _, rfl, rfl, by simp⟩
      case round =>
        obtain ⟨k, hk, rfl, rfl, hg⟩ := hrel
        have HG := Lib.hid hg
        by_cases hlt : k < ws.length
        · obtain ⟨b, off, rfl, hbb, c0⟩ := HU.out.elem hlt
          have HWB := Lib.hid (fun h => wOk_at hlt h)
          have HTK := Lib.hid (take_succ_int ws k hlt)
          obtain ⟨x, hx⟩ : ∃ x, ws[k] = x := ⟨_, rfl⟩
          rw [hx] at c0 HWB HTK
          clear hg hx
          by_cases hx0 : x < 0
          · have HE := Lib.hid (HBAD.out (HWB.out (by omega)))
            go_wp2
            go_ret3
            rw [HE.out]
            exact ⟨_, rfl, IntsAt.empty _ _ _, Below.refl _ _⟩
          · by_cases hx1 : 1048576 < x
            · have HE := Lib.hid (HBAD.out (HWB.out (by omega)))
              go_wp2
              go_ret3
              rw [HE.out]
              exact ⟨_, rfl, IntsAt.empty _ _ _, Below.refl _ _⟩
            · go_wp2
              go_roundw
              case rel =>
                refine ⟨k + 1, by omega, by go_num, trivial, fun y hy => ?_⟩
                rw [HTK.out] at hy
                rcases List.mem_append.1 hy with hy | hy
                · exact HG.out y hy
                · simp at hy; omega
              case measure => simp [intOf]; omega
        · obtain rfl : k = ws.length := by omega
          have hgg : ∀ x ∈ ws, 0 ≤ x ∧ x ≤ 1048576 := by have := HG.out; rwa [List.take_length] at this
          have HE := Lib.hid (HGOOD.out (by
            unfold wOk
            rw [List.all_eq_true]
            intro x hx
            obtain ⟨q1, q2⟩ := hgg x hx
            rw [decide_eq_true q1, decide_eq_true q2]; rfl))
          have CF1 := Lib.hid (fun W h3 h4 => CF.out hgg W h3 h4)
          clear hg hgg
          go_wp2_with fail
          refine (CF1.out _ HV.out HU.out).mono ?_
          rintro e w1 ⟨x, rfl, hx, hB⟩
          have HX := Lib.hid hx
          have HB := Lib.hid hB
          clear hx hB
          go_wp2
          go_ret3
          rw [HE.out]
          exact ⟨_, rfl, HX.out, HB.out⟩
    · have t2 : ((ws.length : Int) != (l.length : Int)) = true := by rw [bne_iff_ne]; omega
      have e : wtdE l ws = ([], 0, 9) := by unfold wtdE; rw [if_neg h1, if_pos h2]
      rw [e]
      clear hv hu e
      go_enter Try.func29, Try.ntmps29
      go_wp2
      go_ret3
      exact ⟨_, rfl, IntsAt.empty _ _ _, Below.refl _ _⟩
theorem toW_one (n : Nat) : toW (List.replicate n (1 : Int)) = List.replicate n 1 := by simp [toW]
set_option maxHeartbeats 4000000 in
theorem refInc_any (l : List Int) (hl : l.length ≤ 12 ∨ 1024 < l.length) (hlm : l.length ≤ 1000000) (v : Value) (w : World) (hv : IntsAt w v l) :
    Calls Try.prog 14 #[v] w (ListPost (incE l) w) := by
  have HV := Lib.hid hv
  obtain ⟨a, cap, rfl⟩ := hv.slice
  by_cases h1 : 1024 < l.length
  · have t1 : decide ((1024 : Int) < (l.length : Int)) = true := decide_eq_true (by omega)
    have e : incE l = ([], 4) := by unfold incE; rw [if_pos h1]
    rw [e]
    clear hv e
    go_enter Try.func14, Try.ntmps14
    go_wp2
    go_ret2
    exact ⟨_, rfl, IntsAt.empty _ _ _, Below.refl _ _⟩
  · have t1 : decide ((1024 : Int) < (l.length : Int)) = false := decide_eq_false (by omega)
    have hl12 : l.length ≤ 12 := by omega
    have HE := Lib.hid (show incE l = (firstR l (toW (List.replicate l.length (1 : Int))), 0) by unfold incE; rw [if_neg h1, toW_one]; rfl)
    have CF := Lib.hid (fun u W h3 h4 => first_any l (List.replicate l.length (1 : Int)) hl12 (by simp) (fun x hx => by rw [List.eq_of_mem_replicate hx]; decide) (.slice a l.length cap) u W h3 h4)
    have hmk := run_make_row' (P := Try.prog) 22 3 (intV 0) 8 rfl info_int rfl
    have hmk1 := fun W => hmk .i64 .i64 l.length (by omega) (by omega) W
    clear hv hmk h1 hl
    go_enter Try.func14, Try.ntmps14
    go_wp2_with fail
    clear hmk1
    have hrow := RowN.of_row (World.rowIs_made w (intV 0) l.length 3)
    obtain ⟨wa, hwa⟩ : ∃ x, w.alloc (.cells (madeCells #[intV 0] l.length) 3) = x := ⟨_, rfl⟩
    have hBa : Below w.heap.size w wa := by rw [← hwa]; exact (Below.refl _ _).alloc (Nat.le_refl _) _
    rw [hwa] at hrow
    try rw [hwa]
    have HROW0 := Lib.hid hrow
    have HB0 := Lib.hid hBa
    obtain ⟨R, hR⟩ : ∃ R, w.heap.size = R := ⟨_, rfl⟩
    rw [hR] at HROW0
    try rw [hR]
    have HRW := Lib.hid hR
    have hRw : w.heap.size ≤ R := Nat.le_of_eq hR
    clear hwa hrow hBa hR
    go_loopw [5] (fun i wr => ∃ k : Nat, k ≤ l.length ∧ i = .int .i64 k ∧ Below w.heap.size w wr ∧ RowN wr R 3 l.length (fun j => if j < k then intV 1 else intV 0)) (fun i _ => l.length - (intOf i).toNat)
    case atStart => exact ⟨0, Nat.zero_le _, rfl, HB0.out, HROW0.out.congr fun j hj => by rw [if_neg (by omega)]⟩
    case round =>
      obtain ⟨k, hk, rfl, hB, hrow⟩ := hrel
      obtain ⟨wk, rfl⟩ : ∃ x, x = wr := ⟨_, rfl⟩
      have HB := Lib.hid hB
      have HROW := Lib.hid hrow
      by_cases hlt : k < l.length
      · have hc := hrow.cell hlt
        have hf := hrow.frozen k
        have HSET := Lib.hid (hrow.set k (intV 1))
        have HBS := Lib.hid (hB.setCell (p := ⟨R, k, none⟩) hRw (intV 1))
        have k0 : (0 : Int) ≤ (k : Int) := by omega
        have k1 : (k : Int) < (l.length : Int) := by omega
        clear hB hrow
        go_wp2
        go_roundw
        case rel =>
          refine ⟨k + 1, by omega, by go_num, HBS.out, HSET.out.congr fun j hj => ?_⟩
          by_cases e : j = k
          · subst e; rw [if_pos rfl, if_pos (by omega)]
          · rw [if_neg e]
            by_cases h : j < k
            · rw [if_pos h, if_pos (by omega)]
            · rw [if_neg h, if_neg (by omega)]
        case measure => simp [intOf]; omega
      · obtain rfl : k = l.length := by omega
        have hi1 : IntsAt wk (.slice (some ⟨R, 0, none⟩) l.length l.length) (List.replicate l.length (1 : Int)) := by
          refine ⟨some ⟨R, 0, none⟩, l.length, by simp, fun h0 => ⟨R, 0, rfl, hrow.lt, fun j hj => ?_⟩⟩
          rw [List.length_replicate] at hj
          have := hrow.cell hj
          rw [if_pos hj] at this
          rw [Nat.zero_add, this, List.getElem_replicate]
        have CF1 := Lib.hid (CF.out _ wk (HV.out.below hB) hi1)
        clear hB hrow hi1
        go_wp2_with fail
        refine CF1.out.mono ?_
        rintro e w1 ⟨x, rfl, hx, h1⟩
        have HX := Lib.hid hx
        have HB1 := Lib.hid (below_then HB.out h1)
        clear hx h1
        go_wp2
        go_ret2
        rw [HE.out]
        exact ⟨_, rfl, HX.out, by first | exact HB1.out | (rw [← HRW.out]; exact HB1.out)⟩
end Go.Proofs.Yteceahbnafaeoaa
