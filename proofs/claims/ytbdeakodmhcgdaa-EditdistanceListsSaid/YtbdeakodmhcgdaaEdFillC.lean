/- fill of chains: the table that is kept in two rows of pointers. -/
import Derived.Test.YtbdeakodmhcgdaaEdFillInt
namespace Go.Proofs.Ytbdeakodmhcgdaa
set_option linter.unusedSimpArgs false
set_option linter.unusedVariables false
set_option maxRecDepth 100000
open Go.RowKit Go.Deep

theorem info_fillC : (Try.prog.info? 60).map (fun i => (i.zero, i.size, i.bytes)) = some (some (.pointer none), 1, 8) := by kernel_rfl
set_option maxHeartbeats 4000000 in
theorem fillC_any (n m : Nat) (hn : n ≤ 1000000) (hm : m ≤ 1000000) (fe fn : Nat) (ce cn : Array Value) (Is : World → Nat → Nat → Option Addr → Prop) (w : World)
    (hce : ∀ args W, Sem.run Try.prog (callFunc fe args) W = .ok (.enter fe args) W) (hcn : ∀ args W, Sem.run Try.prog (callFunc fn args) W = .ok (.enter fn args) W)
    (mono : ∀ W W' i j p, Is W i j p → Below W.heap.size W W' → Is W' i j p)
    (keep : ∀ W i j p b c m x f, Is W i j p → W.rowIs b 60 m f → Is (W.setCell ⟨b, c, none⟩ x) i j p)
    (zero : ∀ W, Is W 0 0 none)
    (hE0 : ∀ W j z, Below w.heap.size w W → j < m → Is W 0 j z → Calls Try.prog fe (#[intV 0, intV (j + 1 : Nat), ptrV z] ++ ce) W (fun e W' => ∃ z', e = .returned (ptrV z') ∧ Is W' 0 (j + 1) z' ∧ Below W.heap.size W W'))
    (hE1 : ∀ W i z, Below w.heap.size w W → i < n → Is W i 0 z → Calls Try.prog fe (#[intV (i + 1 : Nat), intV 0, ptrV z] ++ ce) W (fun e W' => ∃ z', e = .returned (ptrV z') ∧ Is W' (i + 1) 0 z' ∧ Below W.heap.size W W'))
    (hN : ∀ W i j z1 z2 z3, Below w.heap.size w W → i < n → j < m → Is W i j z1 → Is W i (j + 1) z2 → Is W (i + 1) j z3 → Calls Try.prog fn (#[intV (i + 1 : Nat), intV (j + 1 : Nat), ptrV z1, ptrV z2, ptrV z3] ++ cn) W (fun e W' => ∃ z', e = .returned (ptrV z') ∧ Is W' (i + 1) (j + 1) z' ∧ Below W.heap.size W W')) :
    Calls Try.prog 49 #[intV n, intV m, .func (.func fe) #[] ce, .func (.func fn) #[] cn] w (fun e W' => ∃ z, e = .returned (ptrV z) ∧ Is W' n m z ∧ Below w.heap.size w W') := by
  have HE0 := Lib.hid hE0
  have HE1 := Lib.hid hE1
  have HN := Lib.hid hN
  clear hE0 hE1 hN
  obtain ⟨m1, hm1⟩ : ∃ m1 : Nat, m + 1 = m1 := ⟨_, rfl⟩
  have hmi : (m : Int) + 1 = (m1 : Int) := by omega
  have hmk := run_make_row' (P := Try.prog) 98 60 (.pointer none) 8 Try.underlying98 info_fillC rfl .i64 .i64 m1 (by omega) (by omega)
  obtain ⟨b0, hb0⟩ : ∃ b0, w.heap.size = b0 := ⟨_, rfl⟩
  obtain ⟨b1, hb1⟩ : ∃ b1, b0 + 1 = b1 := ⟨_, rfl⟩
  have HM := Lib.hid (made_rows w 60 ptrV none m1 b0 b1 hb0 hb1)
  go_enter Try.func49, Try.ntmps49
  go_wp2
  go_region
  · have HR0 := Lib.hid HM.out.swap
    go_wp2
    go_loopw [11] (fun jv wr => ∃ (j : Nat) (f g : Nat → Option Addr), 1 ≤ j ∧ j ≤ m1 ∧ jv = .int .i64 j ∧ RowsI 60 ptrV w wr m1 b0 b1 f g ∧ ∀ c, c < j → Is wr 0 c (f c))
      (fun jv _ => m1 - (intOf jv).toNat)
    case atStart => exact ⟨1, _, _, Nat.le_refl _, by omega, rfl, HR0.out, fun c hc => by rw [show c = 0 by omega]; exact zero _⟩
    case round =>
      obtain ⟨j, f, g, hj1, hjm, rfl, hR, hI⟩ := hrel
      have HR := Lib.hid hR
      have HI := Lib.hid hI
      clear hR hI
      by_cases hlt : j ≤ m
      · obtain ⟨j0, hj0⟩ : ∃ j0, j0 + 1 = j := ⟨j - 1, by omega⟩
        have hji : (j : Int) - 1 = (j0 : Int) := by omega
        have hjb : j0 < m1 := by omega
        have hjb2 : j < m1 := by omega
        have c1 : wr.cell? ⟨b0, j0, none⟩ = some (ptrV (f j0)) := HR.out.ra.cell (i := j0) hjb
        have HC := Lib.hid (HE0.out wr j0 (f j0) HR.out.below (by omega) (HI.out j0 (by omega)))
        rw [hj0] at HC
        go_wp2_with fail
        refine HC.out.mono ?_
        rintro e w1 ⟨z, rfl, hz, hb1⟩
        have hR1 := HR.out.call hb1
        have HRS := Lib.hid (hR1.setA j z)
        have HI2 := Lib.hid (fun c (hc : c < j) => keep _ _ _ _ _ j _ (ptrV z) _ (mono _ _ _ _ _ (HI.out c hc) hb1) hR1.ra)
        have HZ2 := Lib.hid (keep _ _ _ _ _ j _ (ptrV z) _ hz hR1.ra)
        have hfz := hR1.ra.frozen j
        have hst : w1.cell? ⟨b0, j, none⟩ = some (ptrV (f j)) := hR1.ra.cell (i := j) hjb2
        have HZ := Lib.hid hz
        clear hR1 hb1 hz
        go_wp2
        go_roundw
        case rel =>
          refine ⟨j + 1, _, _, by omega, by omega, by go_num, HRS.out, fun c hc => ?_⟩
          by_cases e : c = j
          · rw [if_pos e, e]; exact HZ2.out
          · rw [if_neg e]; exact HI2.out c (by omega)
        case measure => simp [intOf]; omega
      · obtain rfl : j = m1 := by omega
        go_wp2
        go_loopw [9, 10, 12, 13] (fun va vr iv jv wr => ∃ (i : Nat) (ba br : Nat) (f g : Nat → Option Addr), 1 ≤ i ∧ i ≤ n + 1 ∧ va = hdV j ba ∧ vr = hdV j br ∧ iv = .int .i64 i ∧ RowsI 60 ptrV w wr j ba br f g ∧ ∀ c, c < j → Is wr (i - 1) c (f c))
          (fun _ _ iv _ _ => n + 1 - (intOf iv).toNat)
        case atStart => exact ⟨1, _, _, _, _, Nat.le_refl _, by omega, rfl, rfl, rfl, HR.out, HI.out⟩
        case round =>
          clear HR HI HR0 f g
          obtain ⟨i, ba, br, f, g, hi1, hin, rfl, rfl, rfl, hR, hI⟩ := hrel
          have HR := Lib.hid hR
          have HI := Lib.hid hI
          clear hR hI
          by_cases hlt2 : i ≤ n
          · obtain ⟨i0, hi0⟩ : ∃ i0, i0 + 1 = i := ⟨i - 1, by omega⟩
            have hi1 : i - 1 = i0 := by omega
            rw [hi1] at HI
            have h0m : 0 < j := by omega
            have c1 : wr.cell? ⟨ba, 0, none⟩ = some (ptrV (f 0)) := HR.out.ra.cell (i := 0) h0m
            have HC := Lib.hid (HE1.out wr i0 (f 0) HR.out.below (by omega) (HI.out 0 (by omega)))
            rw [hi0] at HC
            go_wp2_with fail
            refine HC.out.mono ?_
            rintro e w1 ⟨z, rfl, hz, hb1⟩
            have hR1 := HR.out.call hb1
            have HRS := Lib.hid (hR1.setR 0 z)
            have HI2 := Lib.hid (fun c (hc : c < j) => keep _ _ _ _ _ 0 _ (ptrV z) _ (mono _ _ _ _ _ (HI.out c hc) hb1) hR1.rr)
            have HZ2 := Lib.hid (keep _ _ _ _ _ 0 _ (ptrV z) _ hz hR1.rr)
            have hfz := hR1.rr.frozen 0
            have hst : w1.cell? ⟨br, 0, none⟩ = some (ptrV (g 0)) := hR1.rr.cell (i := 0) h0m
            have HZ := Lib.hid hz
            clear hR1 hb1 hz c1
            go_wp2
            clear hfz hst
            go_loopw [13] (fun jv wr => ∃ (c : Nat) (g : Nat → Option Addr), 1 ≤ c ∧ c ≤ j ∧ jv = .int .i64 c ∧ RowsI 60 ptrV w wr j ba br f g ∧ (∀ k, k < c → Is wr i k (g k)) ∧ ∀ k, k < j → Is wr i0 k (f k))
              (fun jv _ => j - (intOf jv).toNat)
            case atStart => exact ⟨1, _, Nat.le_refl _, by omega, rfl, HRS.out, fun c hc => by rw [show c = 0 by omega]; exact HZ2.out, HI2.out⟩
            case round =>
              clear HRS HZ HZ2 HI2 HI HC HR
              obtain ⟨c, g2, hc1, hcj, rfl, hR, hG, hI⟩ := hrel
              have HR := Lib.hid hR
              have HG := Lib.hid hG
              have HI := Lib.hid hI
              clear hR hG hI
              by_cases hlt3 : c ≤ m
              · obtain ⟨c0, hc0⟩ : ∃ c0, c0 + 1 = c := ⟨c - 1, by omega⟩
                have hci : (c : Int) - 1 = (c0 : Int) := by omega
                have hcb : c < j := by omega
                have hcb0 : c0 < j := by omega
                have hwc : IntKind.i64.wrap (c0 : Int) = (c0 : Int) := IntWalk.i64_in _ (by omega)
                have hib0 : (c0 : Int) < (j : Int) := by omega
                have hib : (c : Int) < (j : Int) := by omega
                have d1 : wr.cell? ⟨ba, c0, none⟩ = some (ptrV (f c0)) := HR.out.ra.cell (i := c0) hcb0
                have d2 : wr.cell? ⟨ba, c, none⟩ = some (ptrV (f c)) := HR.out.ra.cell (i := c) hcb
                have d3 : wr.cell? ⟨br, c0, none⟩ = some (ptrV (g2 c0)) := HR.out.rr.cell (i := c0) hcb0
                have HC := Lib.hid (fun W hW (hb : Below wr.heap.size wr W) => HN.out W i0 c0 (f c0) (f c) (g2 c0) hW (by omega) (by omega) (mono _ _ _ _ _ (HI.out c0 (by omega)) hb) (by rw [hc0]; exact mono _ _ _ _ _ (HI.out c (by omega)) hb) (by rw [hi0]; exact mono _ _ _ _ _ (HG.out c0 (by omega)) hb))
                rw [hi0, hc0] at HC
                have hS : ∀ W, Below wr.heap.size wr W → W.cell? ⟨ba, c0, none⟩ = some (ptrV (f c0)) ∧ W.cell? ⟨ba, c, none⟩ = some (ptrV (f c)) ∧ W.cell? ⟨br, c0, none⟩ = some (ptrV (g2 c0)) := fun W hW =>
                  ⟨(hW.cell (p := ⟨ba, c0, none⟩) HR.out.ra.lt).trans d1, (hW.cell (p := ⟨ba, c, none⟩) HR.out.ra.lt).trans d2, (hW.cell (p := ⟨br, c0, none⟩) HR.out.rr.lt).trans d3⟩
                have HS := Lib.hid hS
                clear hS d1 d2 d3
                go_wp2_with fail
                go_region_held3 (fun w' => w'.cell? ⟨ba, c0, none⟩ = some (ptrV (f c0)) ∧ w'.cell? ⟨ba, c, none⟩ = some (ptrV (f c)) ∧ w'.cell? ⟨br, c0, none⟩ = some (ptrV (g2 c0)))
                  (first | exact HS.out _ (Below.refl _ _).drew | exact HS.out _ ((Below.refl _ _).drew.trans hb1) | exact HS2.out)
                  (first | (refine (HC.out _ ?_ ?_).mono ?_; exact HR.out.below.drew; exact (Below.refl _ _).drew; rintro e w1 ⟨z2, rfl, hz2, hb1⟩; have hR1 := HR.out.drew.call hb1; have HRS := Lib.hid (hR1.setR c z2); have hfz := hR1.rr.frozen c; have hst : w1.cell? ⟨br, c, none⟩ = some (ptrV (g2 c)) := hR1.rr.cell (i := c) hcb; have HS2 := Lib.hid (And.intro (HRS.out.ra.cell (i := c0) hcb0) (And.intro (HRS.out.ra.cell (i := c) hcb) ((HRS.out.rr.cell (i := c0) hcb0).trans (congrArg some (congrArg ptrV (if_neg (show ¬ c0 = c by omega))))))); have HZ2 := Lib.hid (keep _ _ _ _ _ c _ (ptrV z2) _ hz2 hR1.rr); have HG2 := Lib.hid (fun k (hk : k < c) => keep _ _ _ _ _ c _ (ptrV z2) _ (mono _ _ _ _ _ (HG.out k hk) (((Below.refl _ _).drew).trans hb1)) hR1.rr); have HI2 := Lib.hid (fun k (hk : k < j) => keep _ _ _ _ _ c _ (ptrV z2) _ (mono _ _ _ _ _ (HI.out k hk) (((Below.refl _ _).drew).trans hb1)) hR1.rr); clear hR1 hz2))
                go_wp2
                go_roundw
                case rel =>
                  refine ⟨c + 1, _, by omega, by omega, by go_num, HRS.out, fun k hk => ?_, HI2.out⟩
                  by_cases e : k = c
                  · rw [if_pos e, e]; exact HZ2.out
                  · rw [if_neg e]; exact HG2.out k (by omega)
                case measure => simp [intOf]; omega
              · obtain rfl : c = j := by omega
                go_wp2
                go_roundw
                case rel => exact ⟨i + 1, _, _, _, _, by omega, by omega, rfl, rfl, by go_num, HR.out.swap, fun k hk => by rw [Nat.add_sub_cancel]; exact HG.out k hk⟩
                case measure => simp [intOf]; omega
          · obtain rfl : i = n + 1 := by omega
            rw [Nat.add_sub_cancel] at HI
            have hmj : m < j := by omega
            have e1 : wr.cell? ⟨ba, m, none⟩ = some (ptrV (f m)) := HR.out.ra.cell (i := m) hmj
            have HB := Lib.hid HR.out.below
            go_wp2
            go_ret
            exact ⟨_, rfl, HI.out m hmj, HB.out⟩
  · have HR0 := Lib.hid HM.out
    go_wp2
    go_loopw [11] (fun jv wr => ∃ (j : Nat) (f g : Nat → Option Addr), 1 ≤ j ∧ j ≤ m1 ∧ jv = .int .i64 j ∧ RowsI 60 ptrV w wr m1 b1 b0 f g ∧ ∀ c, c < j → Is wr 0 c (f c))
      (fun jv _ => m1 - (intOf jv).toNat)
    case atStart => exact ⟨1, _, _, Nat.le_refl _, by omega, rfl, HR0.out, fun c hc => by rw [show c = 0 by omega]; exact zero _⟩
    case round =>
      obtain ⟨j, f, g, hj1, hjm, rfl, hR, hI⟩ := hrel
      have HR := Lib.hid hR
      have HI := Lib.hid hI
      clear hR hI
      by_cases hlt : j ≤ m
      · obtain ⟨j0, hj0⟩ : ∃ j0, j0 + 1 = j := ⟨j - 1, by omega⟩
        have hji : (j : Int) - 1 = (j0 : Int) := by omega
        have hjb : j0 < m1 := by omega
        have hjb2 : j < m1 := by omega
        have c1 : wr.cell? ⟨b1, j0, none⟩ = some (ptrV (f j0)) := HR.out.ra.cell (i := j0) hjb
        have HC := Lib.hid (HE0.out wr j0 (f j0) HR.out.below (by omega) (HI.out j0 (by omega)))
        rw [hj0] at HC
        go_wp2_with fail
        refine HC.out.mono ?_
        rintro e w1 ⟨z, rfl, hz, hb1⟩
        have hR1 := HR.out.call hb1
        have HRS := Lib.hid (hR1.setA j z)
        have HI2 := Lib.hid (fun c (hc : c < j) => keep _ _ _ _ _ j _ (ptrV z) _ (mono _ _ _ _ _ (HI.out c hc) hb1) hR1.ra)
        have HZ2 := Lib.hid (keep _ _ _ _ _ j _ (ptrV z) _ hz hR1.ra)
        have hfz := hR1.ra.frozen j
        have hst : w1.cell? ⟨b1, j, none⟩ = some (ptrV (f j)) := hR1.ra.cell (i := j) hjb2
        have HZ := Lib.hid hz
        clear hR1 hb1 hz
        go_wp2
        go_roundw
        case rel =>
          refine ⟨j + 1, _, _, by omega, by omega, by go_num, HRS.out, fun c hc => ?_⟩
          by_cases e : c = j
          · rw [if_pos e, e]; exact HZ2.out
          · rw [if_neg e]; exact HI2.out c (by omega)
        case measure => simp [intOf]; omega
      · obtain rfl : j = m1 := by omega
        go_wp2
        go_loopw [9, 10, 12, 13] (fun va vr iv jv wr => ∃ (i : Nat) (ba br : Nat) (f g : Nat → Option Addr), 1 ≤ i ∧ i ≤ n + 1 ∧ va = hdV j ba ∧ vr = hdV j br ∧ iv = .int .i64 i ∧ RowsI 60 ptrV w wr j ba br f g ∧ ∀ c, c < j → Is wr (i - 1) c (f c))
          (fun _ _ iv _ _ => n + 1 - (intOf iv).toNat)
        case atStart => exact ⟨1, _, _, _, _, Nat.le_refl _, by omega, rfl, rfl, rfl, HR.out, HI.out⟩
        case round =>
          clear HR HI HR0 f g
          obtain ⟨i, ba, br, f, g, hi1, hin, rfl, rfl, rfl, hR, hI⟩ := hrel
          have HR := Lib.hid hR
          have HI := Lib.hid hI
          clear hR hI
          by_cases hlt2 : i ≤ n
          · obtain ⟨i0, hi0⟩ : ∃ i0, i0 + 1 = i := ⟨i - 1, by omega⟩
            have hi1 : i - 1 = i0 := by omega
            rw [hi1] at HI
            have h0m : 0 < j := by omega
            have c1 : wr.cell? ⟨ba, 0, none⟩ = some (ptrV (f 0)) := HR.out.ra.cell (i := 0) h0m
            have HC := Lib.hid (HE1.out wr i0 (f 0) HR.out.below (by omega) (HI.out 0 (by omega)))
            rw [hi0] at HC
            go_wp2_with fail
            refine HC.out.mono ?_
            rintro e w1 ⟨z, rfl, hz, hb1⟩
            have hR1 := HR.out.call hb1
            have HRS := Lib.hid (hR1.setR 0 z)
            have HI2 := Lib.hid (fun c (hc : c < j) => keep _ _ _ _ _ 0 _ (ptrV z) _ (mono _ _ _ _ _ (HI.out c hc) hb1) hR1.rr)
            have HZ2 := Lib.hid (keep _ _ _ _ _ 0 _ (ptrV z) _ hz hR1.rr)
            have hfz := hR1.rr.frozen 0
            have hst : w1.cell? ⟨br, 0, none⟩ = some (ptrV (g 0)) := hR1.rr.cell (i := 0) h0m
            have HZ := Lib.hid hz
            clear hR1 hb1 hz c1
            go_wp2
            clear hfz hst
            go_loopw [13] (fun jv wr => ∃ (c : Nat) (g : Nat → Option Addr), 1 ≤ c ∧ c ≤ j ∧ jv = .int .i64 c ∧ RowsI 60 ptrV w wr j ba br f g ∧ (∀ k, k < c → Is wr i k (g k)) ∧ ∀ k, k < j → Is wr i0 k (f k))
              (fun jv _ => j - (intOf jv).toNat)
            case atStart => exact ⟨1, _, Nat.le_refl _, by omega, rfl, HRS.out, fun c hc => by rw [show c = 0 by omega]; exact HZ2.out, HI2.out⟩
            case round =>
              clear HRS HZ HZ2 HI2 HI HC HR
              obtain ⟨c, g2, hc1, hcj, rfl, hR, hG, hI⟩ := hrel
              have HR := Lib.hid hR
              have HG := Lib.hid hG
              have HI := Lib.hid hI
              clear hR hG hI
              by_cases hlt3 : c ≤ m
              · obtain ⟨c0, hc0⟩ : ∃ c0, c0 + 1 = c := ⟨c - 1, by omega⟩
                have hci : (c : Int) - 1 = (c0 : Int) := by omega
                have hcb : c < j := by omega
                have hcb0 : c0 < j := by omega
                have hwc : IntKind.i64.wrap (c0 : Int) = (c0 : Int) := IntWalk.i64_in _ (by omega)
                have hib0 : (c0 : Int) < (j : Int) := by omega
                have hib : (c : Int) < (j : Int) := by omega
                have d1 : wr.cell? ⟨ba, c0, none⟩ = some (ptrV (f c0)) := HR.out.ra.cell (i := c0) hcb0
                have d2 : wr.cell? ⟨ba, c, none⟩ = some (ptrV (f c)) := HR.out.ra.cell (i := c) hcb
                have d3 : wr.cell? ⟨br, c0, none⟩ = some (ptrV (g2 c0)) := HR.out.rr.cell (i := c0) hcb0
                have HC := Lib.hid (fun W hW (hb : Below wr.heap.size wr W) => HN.out W i0 c0 (f c0) (f c) (g2 c0) hW (by omega) (by omega) (mono _ _ _ _ _ (HI.out c0 (by omega)) hb) (by rw [hc0]; exact mono _ _ _ _ _ (HI.out c (by omega)) hb) (by rw [hi0]; exact mono _ _ _ _ _ (HG.out c0 (by omega)) hb))
                rw [hi0, hc0] at HC
                have hS : ∀ W, Below wr.heap.size wr W → W.cell? ⟨ba, c0, none⟩ = some (ptrV (f c0)) ∧ W.cell? ⟨ba, c, none⟩ = some (ptrV (f c)) ∧ W.cell? ⟨br, c0, none⟩ = some (ptrV (g2 c0)) := fun W hW =>
                  ⟨(hW.cell (p := ⟨ba, c0, none⟩) HR.out.ra.lt).trans d1, (hW.cell (p := ⟨ba, c, none⟩) HR.out.ra.lt).trans d2, (hW.cell (p := ⟨br, c0, none⟩) HR.out.rr.lt).trans d3⟩
                have HS := Lib.hid hS
                clear hS d1 d2 d3
                go_wp2_with fail
                go_region_held3 (fun w' => w'.cell? ⟨ba, c0, none⟩ = some (ptrV (f c0)) ∧ w'.cell? ⟨ba, c, none⟩ = some (ptrV (f c)) ∧ w'.cell? ⟨br, c0, none⟩ = some (ptrV (g2 c0)))
                  (first | exact HS.out _ (Below.refl _ _).drew | exact HS.out _ ((Below.refl _ _).drew.trans hb1) | exact HS2.out)
                  (first | (refine (HC.out _ ?_ ?_).mono ?_; exact HR.out.below.drew; exact (Below.refl _ _).drew; rintro e w1 ⟨z2, rfl, hz2, hb1⟩; have hR1 := HR.out.drew.call hb1; have HRS := Lib.hid (hR1.setR c z2); have hfz := hR1.rr.frozen c; have hst : w1.cell? ⟨br, c, none⟩ = some (ptrV (g2 c)) := hR1.rr.cell (i := c) hcb; have HS2 := Lib.hid (And.intro (HRS.out.ra.cell (i := c0) hcb0) (And.intro (HRS.out.ra.cell (i := c) hcb) ((HRS.out.rr.cell (i := c0) hcb0).trans (congrArg some (congrArg ptrV (if_neg (show ¬ c0 = c by omega))))))); have HZ2 := Lib.hid (keep _ _ _ _ _ c _ (ptrV z2) _ hz2 hR1.rr); have HG2 := Lib.hid (fun k (hk : k < c) => keep _ _ _ _ _ c _ (ptrV z2) _ (mono _ _ _ _ _ (HG.out k hk) (((Below.refl _ _).drew).trans hb1)) hR1.rr); have HI2 := Lib.hid (fun k (hk : k < j) => keep _ _ _ _ _ c _ (ptrV z2) _ (mono _ _ _ _ _ (HI.out k hk) (((Below.refl _ _).drew).trans hb1)) hR1.rr); clear hR1 hz2))
                go_wp2
                go_roundw
                case rel =>
                  refine ⟨c + 1, _, by omega, by omega, by go_num, HRS.out, fun k hk => ?_, HI2.out⟩
                  by_cases e : k = c
                  · rw [if_pos e, e]; exact HZ2.out
                  · rw [if_neg e]; exact HG2.out k (by omega)
                case measure => simp [intOf]; omega
              · obtain rfl : c = j := by omega
                go_wp2
                go_roundw
                case rel => exact ⟨i + 1, _, _, _, _, by omega, by omega, rfl, rfl, by go_num, HR.out.swap, fun k hk => by rw [Nat.add_sub_cancel]; exact HG.out k hk⟩
                case measure => simp [intOf]; omega
          · obtain rfl : i = n + 1 := by omega
            rw [Nat.add_sub_cancel] at HI
            have hmj : m < j := by omega
            have e1 : wr.cell? ⟨ba, m, none⟩ = some (ptrV (f m)) := HR.out.ra.cell (i := m) hmj
            have HB := Lib.hid HR.out.below
            go_wp2
            go_ret
            exact ⟨_, rfl, HI.out m hmj, HB.out⟩
end Go.Proofs.Ytbdeakodmhcgdaa
