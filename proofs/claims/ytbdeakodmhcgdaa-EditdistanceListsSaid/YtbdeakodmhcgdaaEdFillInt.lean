/- fill[int]: the table that is kept in two rows. -/
import Derived.Test.YtbdeakodmhcgdaaEdRefs
import Derived.Deep.RegionHeld3
namespace Go.Proofs.Ytbdeakodmhcgdaa
set_option linter.unusedSimpArgs false
set_option linter.unusedVariables false
set_option maxRecDepth 100000
open Go.RowKit Go.Deep

/-- two rows, and what stands in them -/
structure RowsI {X : Type} (T : TypeId) (mk : X → Value) (w W : World) (m ba br : Nat) (f g : Nat → X) : Prop where
  below : Below w.heap.size w W
  ra : W.rowIs ba T m (fun c => mk (f c))
  rr : W.rowIs br T m (fun c => mk (g c))
  ga : w.heap.size ≤ ba
  gr : w.heap.size ≤ br
  ne : ba ≠ br

theorem RowsI.call {X : Type} {T : TypeId} {mk : X → Value} {w W W' : World} {m ba br : Nat} {f g : Nat → X} (h : RowsI T mk w W m ba br f g) (hb : Below W.heap.size W W') : RowsI T mk w W' m ba br f g :=
  ⟨h.below.trans (hb.mono h.below.size), h.ra.of_block (hb.block ba h.ra.lt), h.rr.of_block (hb.block br h.rr.lt), h.ga, h.gr, h.ne⟩
theorem RowsI.setA {X : Type} {T : TypeId} {mk : X → Value} {w W : World} {m ba br : Nat} {f g : Nat → X} (h : RowsI T mk w W m ba br f g) (j : Nat) (z : X) : RowsI T mk w (W.setCell ⟨ba, j, none⟩ (mk z)) m ba br (fun c => if c = j then z else f c) g :=
  ⟨h.below.setCell h.ga _, (h.ra.set j (mk z)).congr (fun c _ => by show (if c = j then mk z else mk (f c)) = mk (if c = j then z else f c); split <;> rfl), h.rr.setOther (fun e => h.ne e.symm) _, h.ga, h.gr, h.ne⟩
theorem RowsI.swap {X : Type} {T : TypeId} {mk : X → Value} {w W : World} {m ba br : Nat} {f g : Nat → X} (h : RowsI T mk w W m ba br f g) : RowsI T mk w W m br ba g f :=
  ⟨h.below, h.rr, h.ra, h.gr, h.ga, h.ne.symm⟩
theorem RowsI.drew {X : Type} {T : TypeId} {mk : X → Value} {w W : World} {m ba br : Nat} {f g : Nat → X} (h : RowsI T mk w W m ba br f g) : RowsI T mk w W.drew m ba br f g :=
  ⟨h.below.drew, h.ra.drew, h.rr.drew, h.ga, h.gr, h.ne⟩
theorem RowsI.setR {X : Type} {T : TypeId} {mk : X → Value} {w W : World} {m ba br : Nat} {f g : Nat → X} (h : RowsI T mk w W m ba br f g) (j : Nat) (z : X) : RowsI T mk w (W.setCell ⟨br, j, none⟩ (mk z)) m ba br f (fun c => if c = j then z else g c) :=
  (h.swap.setA j z).swap

theorem made_rows {X : Type} (w : World) (T : TypeId) (mk : X → Value) (z : X) (m : Nat) (b0 b1 : Nat) (h0 : w.heap.size = b0) (h1 : b0 + 1 = b1) :
    RowsI T mk w ((w.alloc (.cells (madeCells #[mk z] m) T)).alloc (.cells (madeCells #[mk z] m) T)).drew m b1 b0 (fun _ => z) (fun _ => z) := by
  subst h0 h1
  refine ⟨(((Below.refl _ _).alloc (Nat.le_refl _) _).alloc (by rw [nblk_alloc]; omega) _).drew, ?_, ?_, by omega, by omega, by omega⟩
  · have := World.rowIs_made (w.alloc (.cells (madeCells #[mk z] m) T)) (mk z) m T
    rw [nblk_alloc] at this
    exact this.drew
  · exact ((World.rowIs_made w (mk z) m T).alloc _).drew
abbrev ptrV (p : Option Addr) : Value := .pointer p
abbrev hdV (m b : Nat) : Value := .slice (some ⟨b, 0, none⟩) m m

set_option maxHeartbeats 4000000 in
theorem fillInt_any (n m : Nat) (hn : n ≤ 1000000) (hm : m ≤ 1000000) (fe fn : Nat) (ce cn : Array Value) (Is : Nat → Nat → Int → Prop) (w : World)
    (hce : ∀ args W, Sem.run Try.prog (callFunc fe args) W = .ok (.enter fe args) W) (hcn : ∀ args W, Sem.run Try.prog (callFunc fn args) W = .ok (.enter fn args) W)
    (zero : Is 0 0 0)
    (hE0 : ∀ W j z, Below w.heap.size w W → j < m → Is 0 j z → Calls Try.prog fe (#[intV 0, intV (j + 1 : Nat), intV z] ++ ce) W (fun e W' => ∃ z', e = .returned (intV z') ∧ Is 0 (j + 1) z' ∧ Below W.heap.size W W'))
    (hE1 : ∀ W i z, Below w.heap.size w W → i < n → Is i 0 z → Calls Try.prog fe (#[intV (i + 1 : Nat), intV 0, intV z] ++ ce) W (fun e W' => ∃ z', e = .returned (intV z') ∧ Is (i + 1) 0 z' ∧ Below W.heap.size W W'))
    (hN : ∀ W i j z1 z2 z3, Below w.heap.size w W → i < n → j < m → Is i j z1 → Is i (j + 1) z2 → Is (i + 1) j z3 → Calls Try.prog fn (#[intV (i + 1 : Nat), intV (j + 1 : Nat), intV z1, intV z2, intV z3] ++ cn) W (fun e W' => ∃ z', e = .returned (intV z') ∧ Is (i + 1) (j + 1) z' ∧ Below W.heap.size W W')) :
    Calls Try.prog 73 #[intV n, intV m, .func (.func fe) #[] ce, .func (.func fn) #[] cn] w (fun e W' => ∃ z, e = .returned (intV z) ∧ Is n m z ∧ Below w.heap.size w W') := by
  have HE0 := Lib.hid hE0
  have HE1 := Lib.hid hE1
  have HN := Lib.hid hN
  clear hE0 hE1 hN
  obtain ⟨m1, hm1⟩ : ∃ m1 : Nat, m + 1 = m1 := ⟨_, rfl⟩
  have hmi : (m : Int) + 1 = (m1 : Int) := by omega
  have hmk := run_make_row' (P := Try.prog) 72 3 (.int .i64 0) 8 Try.underlying72 info_int rfl .i64 .i64 m1 (by omega) (by omega)
  obtain ⟨b0, hb0⟩ : ∃ b0, w.heap.size = b0 := ⟨_, rfl⟩
  obtain ⟨b1, hb1⟩ : ∃ b1, b0 + 1 = b1 := ⟨_, rfl⟩
  have HM := Lib.hid (made_rows w 3 intV 0 m1 b0 b1 hb0 hb1)
  go_enter Try.func73, Try.ntmps73
  go_wp2
  go_region
  · have HR0 := Lib.hid HM.out.swap
    go_wp2
    go_loopw [11] (fun jv wr => ∃ (j : Nat) (f g : Nat → Int), 1 ≤ j ∧ j ≤ m1 ∧ jv = .int .i64 j ∧ RowsI 3 intV w wr m1 b0 b1 f g ∧ ∀ c, c < j → Is 0 c (f c))
      (fun jv _ => m1 - (intOf jv).toNat)
    case atStart => exact ⟨1, _, _, Nat.le_refl _, by omega, rfl, HR0.out, fun c hc => by rw [show c = 0 by omega]; exact zero⟩
    case round =>
      obtain ⟨j, f, g, hj1, hjm, rfl, hR, hI⟩ := hrel
      have HR := Lib.hid hR
      have HI := Lib.hid hI
      clear hR hI
      by_cases hlt : j ≤ m
      · obtain ⟨j0, hj0⟩ : ∃ j0, j0 + 1 = j := ⟨j - 1, by omega⟩
        have hji : (j : Int) - 1 = (j0 : Int) := by omega
        have hjb : j0 < m1 := by omega
        have hjb2 : j < m1 := by omega
        have c1 : wr.cell? ⟨b0, j0, none⟩ = some (intV (f j0)) := HR.out.ra.cell (i := j0) hjb
        have HC := Lib.hid (HE0.out wr j0 (f j0) HR.out.below (by omega) (HI.out j0 (by omega)))
        rw [hj0] at HC
        go_wp2_with fail
        refine HC.out.mono ?_
        rintro e w1 ⟨z, rfl, hz, hb1⟩
        have hR1 := HR.out.call hb1
        have HRS := Lib.hid (hR1.setA j z)
        have hfz := hR1.ra.frozen j
        have hst : w1.cell? ⟨b0, j, none⟩ = some (intV (f j)) := hR1.ra.cell (i := j) hjb2
        have HZ := Lib.hid hz
        clear hR1 hb1 hz
        go_wp2
        go_roundw
        case rel =>
          refine ⟨j + 1, _, _, by omega, by omega, by go_num, HRS.out, fun c hc => ?_⟩
          by_cases e : c = j
          · rw [if_pos e, e]; exact HZ.out
          · rw [if_neg e]; exact HI.out c (by omega)
        case measure => simp [intOf]; omega
      · obtain rfl : j = m1 := by omega
        go_wp2
        go_loopw [9, 10, 12, 13] (fun va vr iv jv wr => ∃ (i : Nat) (ba br : Nat) (f g : Nat → Int), 1 ≤ i ∧ i ≤ n + 1 ∧ va = hdV j ba ∧ vr = hdV j br ∧ iv = .int .i64 i ∧ RowsI 3 intV w wr j ba br f g ∧ ∀ c, c < j → Is (i - 1) c (f c))
          (fun _ _ iv _ _ => n + 1 - (intOf iv).toNat)
        case atStart => exact ⟨1, _, _, _, _, Nat.le_refl _, by omega, rfl, rfl, rfl, HR.out, HI.out⟩
        case round =>
          clear HR HI HR0 f g
          obtain ⟨i, ba, br, f, g, hi1, hin, rfl, rfl, rfl, hR, hI⟩ := hrel
          have HR := Lib.hid hR
          have HI := Lib.hid hI
          clear hR hI
          by_cases hlt2 : i ≤ n
          · obtain ⟨i0, hi0⟩ : ∃ i0, i0 + 1 = i := ⟨i - 1, by omega⟩
            have hi1 : i - 1 = i0 := by omega
            rw [hi1] at HI
            have h0m : 0 < j := by omega
            have c1 : wr.cell? ⟨ba, 0, none⟩ = some (intV (f 0)) := HR.out.ra.cell (i := 0) h0m
            have HC := Lib.hid (HE1.out wr i0 (f 0) HR.out.below (by omega) (HI.out 0 (by omega)))
            rw [hi0] at HC
            go_wp2_with fail
            refine HC.out.mono ?_
            rintro e w1 ⟨z, rfl, hz, hb1⟩
            have hR1 := HR.out.call hb1
            have HRS := Lib.hid (hR1.setR 0 z)
            have hfz := hR1.rr.frozen 0
            have hst : w1.cell? ⟨br, 0, none⟩ = some (intV (g 0)) := hR1.rr.cell (i := 0) h0m
            have HZ := Lib.hid hz
            clear hR1 hb1 hz c1
            go_wp2
            clear hfz hst
            go_loopw [13] (fun jv wr => ∃ (c : Nat) (g : Nat → Int), 1 ≤ c ∧ c ≤ j ∧ jv = .int .i64 c ∧ RowsI 3 intV w wr j ba br f g ∧ ∀ k, k < c → Is i k (g k))
              (fun jv _ => j - (intOf jv).toNat)
            case atStart => exact ⟨1, _, Nat.le_refl _, by omega, rfl, HRS.out, fun c hc => by rw [show c = 0 by omega]; exact HZ.out⟩
            case round =>
              clear HRS HZ HC HR
              obtain ⟨c, g2, hc1, hcj, rfl, hR, hG⟩ := hrel
              have HR := Lib.hid hR
              have HG := Lib.hid hG
              clear hR hG
              by_cases hlt3 : c ≤ m
              · obtain ⟨c0, hc0⟩ : ∃ c0, c0 + 1 = c := ⟨c - 1, by omega⟩
                have hci : (c : Int) - 1 = (c0 : Int) := by omega
                have hcb : c < j := by omega
                have hcb0 : c0 < j := by omega
                have hwc : IntKind.i64.wrap (c0 : Int) = (c0 : Int) := IntWalk.i64_in _ (by omega)
                have hib0 : (c0 : Int) < (j : Int) := by omega
                have hib : (c : Int) < (j : Int) := by omega
                have d1 : wr.cell? ⟨ba, c0, none⟩ = some (intV (f c0)) := HR.out.ra.cell (i := c0) hcb0
                have d2 : wr.cell? ⟨ba, c, none⟩ = some (intV (f c)) := HR.out.ra.cell (i := c) hcb
                have d3 : wr.cell? ⟨br, c0, none⟩ = some (intV (g2 c0)) := HR.out.rr.cell (i := c0) hcb0
                have HC := Lib.hid (fun W hW => HN.out W i0 c0 (f c0) (f c) (g2 c0) hW (by omega) (by omega) (HI.out c0 (by omega)) (by rw [hc0]; exact HI.out c (by omega)) (by rw [hi0]; exact HG.out c0 (by omega)))
                rw [hi0, hc0] at HC
                have hS : ∀ W, Below wr.heap.size wr W → W.cell? ⟨ba, c0, none⟩ = some (intV (f c0)) ∧ W.cell? ⟨ba, c, none⟩ = some (intV (f c)) ∧ W.cell? ⟨br, c0, none⟩ = some (intV (g2 c0)) := fun W hW =>
                  ⟨(hW.cell (p := ⟨ba, c0, none⟩) HR.out.ra.lt).trans d1, (hW.cell (p := ⟨ba, c, none⟩) HR.out.ra.lt).trans d2, (hW.cell (p := ⟨br, c0, none⟩) HR.out.rr.lt).trans d3⟩
                have HS := Lib.hid hS
                clear hS d1 d2 d3
                go_wp2_with fail
                go_region_held3 (fun w' => w'.cell? ⟨ba, c0, none⟩ = some (intV (f c0)) ∧ w'.cell? ⟨ba, c, none⟩ = some (intV (f c)) ∧ w'.cell? ⟨br, c0, none⟩ = some (intV (g2 c0)))
                  (first | exact HS.out _ (Below.refl _ _).drew | exact HS.out _ ((Below.refl _ _).drew.trans hb1) | exact HS2.out)
                  (first | (refine (HC.out _ ?_).mono ?_; exact HR.out.below.drew; rintro e w1 ⟨z2, rfl, hz2, hb1⟩; have hR1 := HR.out.drew.call hb1; have HRS := Lib.hid (hR1.setR c z2); have hfz := hR1.rr.frozen c; have hst : w1.cell? ⟨br, c, none⟩ = some (intV (g2 c)) := hR1.rr.cell (i := c) hcb; have HS2 := Lib.hid (And.intro (HRS.out.ra.cell (i := c0) hcb0) (And.intro (HRS.out.ra.cell (i := c) hcb) ((HRS.out.rr.cell (i := c0) hcb0).trans (congrArg some (congrArg intV (if_neg (show ¬ c0 = c by omega))))))); have HZ2 := Lib.hid hz2; clear hR1 hz2))
                go_wp2
                go_roundw
                case rel =>
                  refine ⟨c + 1, _, by omega, by omega, by go_num, HRS.out, fun k hk => ?_⟩
                  by_cases e : k = c
                  · rw [if_pos e, e]; exact HZ2.out
                  · rw [if_neg e]; exact HG.out k (by omega)
                case measure => simp [intOf]; omega
              · obtain rfl : c = j := by omega
                go_wp2
                go_roundw
                case rel => exact ⟨i + 1, _, _, _, _, by omega, by omega, rfl, rfl, by go_num, HR.out.swap, fun k hk => by rw [Nat.add_sub_cancel]; exact HG.out k hk⟩
                case measure => simp [intOf]; omega
          · obtain rfl : i = n + 1 := by omega
            rw [Nat.add_sub_cancel] at HI
            have hmj : m < j := by omega
            have e1 : wr.cell? ⟨ba, m, none⟩ = some (intV (f m)) := HR.out.ra.cell (i := m) hmj
            have HB := Lib.hid HR.out.below
            go_wp2
            go_ret
            exact ⟨_, rfl, HI.out m hmj, HB.out⟩
  · have HR0 := Lib.hid HM.out
    go_wp2
    go_loopw [11] (fun jv wr => ∃ (j : Nat) (f g : Nat → Int), 1 ≤ j ∧ j ≤ m1 ∧ jv = .int .i64 j ∧ RowsI 3 intV w wr m1 b1 b0 f g ∧ ∀ c, c < j → Is 0 c (f c))
      (fun jv _ => m1 - (intOf jv).toNat)
    case atStart => exact ⟨1, _, _, Nat.le_refl _, by omega, rfl, HR0.out, fun c hc => by rw [show c = 0 by omega]; exact zero⟩
    case round =>
      obtain ⟨j, f, g, hj1, hjm, rfl, hR, hI⟩ := hrel
      have HR := Lib.hid hR
      have HI := Lib.hid hI
      clear hR hI
      by_cases hlt : j ≤ m
      · obtain ⟨j0, hj0⟩ : ∃ j0, j0 + 1 = j := ⟨j - 1, by omega⟩
        have hji : (j : Int) - 1 = (j0 : Int) := by omega
        have hjb : j0 < m1 := by omega
        have hjb2 : j < m1 := by omega
        have c1 : wr.cell? ⟨b1, j0, none⟩ = some (intV (f j0)) := HR.out.ra.cell (i := j0) hjb
        have HC := Lib.hid (HE0.out wr j0 (f j0) HR.out.below (by omega) (HI.out j0 (by omega)))
        rw [hj0] at HC
        go_wp2_with fail
        refine HC.out.mono ?_
        rintro e w1 ⟨z, rfl, hz, hb1⟩
        have hR1 := HR.out.call hb1
        have HRS := Lib.hid (hR1.setA j z)
        have hfz := hR1.ra.frozen j
        have hst : w1.cell? ⟨b1, j, none⟩ = some (intV (f j)) := hR1.ra.cell (i := j) hjb2
        have HZ := Lib.hid hz
        clear hR1 hb1 hz
        go_wp2
        go_roundw
        case rel =>
          refine ⟨j + 1, _, _, by omega, by omega, by go_num, HRS.out, fun c hc => ?_⟩
          by_cases e : c = j
          · rw [if_pos e, e]; exact HZ.out
          · rw [if_neg e]; exact HI.out c (by omega)
        case measure => simp [intOf]; omega
      · obtain rfl : j = m1 := by omega
        go_wp2
        go_loopw [9, 10, 12, 13] (fun va vr iv jv wr => ∃ (i : Nat) (ba br : Nat) (f g : Nat → Int), 1 ≤ i ∧ i ≤ n + 1 ∧ va = hdV j ba ∧ vr = hdV j br ∧ iv = .int .i64 i ∧ RowsI 3 intV w wr j ba br f g ∧ ∀ c, c < j → Is (i - 1) c (f c))
          (fun _ _ iv _ _ => n + 1 - (intOf iv).toNat)
        case atStart => exact ⟨1, _, _, _, _, Nat.le_refl _, by omega, rfl, rfl, rfl, HR.out, HI.out⟩
        case round =>
          clear HR HI HR0 f g
          obtain ⟨i, ba, br, f, g, hi1, hin, rfl, rfl, rfl, hR, hI⟩ := hrel
          have HR := Lib.hid hR
          have HI := Lib.hid hI
          clear hR hI
          by_cases hlt2 : i ≤ n
          · obtain ⟨i0, hi0⟩ : ∃ i0, i0 + 1 = i := ⟨i - 1, by omega⟩
            have hi1 : i - 1 = i0 := by omega
            rw [hi1] at HI
            have h0m : 0 < j := by omega
            have c1 : wr.cell? ⟨ba, 0, none⟩ = some (intV (f 0)) := HR.out.ra.cell (i := 0) h0m
            have HC := Lib.hid (HE1.out wr i0 (f 0) HR.out.below (by omega) (HI.out 0 (by omega)))
            rw [hi0] at HC
            go_wp2_with fail
            refine HC.out.mono ?_
            rintro e w1 ⟨z, rfl, hz, hb1⟩
            have hR1 := HR.out.call hb1
            have HRS := Lib.hid (hR1.setR 0 z)
            have hfz := hR1.rr.frozen 0
            have hst : w1.cell? ⟨br, 0, none⟩ = some (intV (g 0)) := hR1.rr.cell (i := 0) h0m
            have HZ := Lib.hid hz
            clear hR1 hb1 hz c1
            go_wp2
            clear hfz hst
            go_loopw [13] (fun jv wr => ∃ (c : Nat) (g : Nat → Int), 1 ≤ c ∧ c ≤ j ∧ jv = .int .i64 c ∧ RowsI 3 intV w wr j ba br f g ∧ ∀ k, k < c → Is i k (g k))
              (fun jv _ => j - (intOf jv).toNat)
            case atStart => exact ⟨1, _, Nat.le_refl _, by omega, rfl, HRS.out, fun c hc => by rw [show c = 0 by omega]; exact HZ.out⟩
            case round =>
              clear HRS HZ HC HR
              obtain ⟨c, g2, hc1, hcj, rfl, hR, hG⟩ := hrel
              have HR := Lib.hid hR
              have HG := Lib.hid hG
              clear hR hG
              by_cases hlt3 : c ≤ m
              · obtain ⟨c0, hc0⟩ : ∃ c0, c0 + 1 = c := ⟨c - 1, by omega⟩
                have hci : (c : Int) - 1 = (c0 : Int) := by omega
                have hcb : c < j := by omega
                have hcb0 : c0 < j := by omega
                have hwc : IntKind.i64.wrap (c0 : Int) = (c0 : Int) := IntWalk.i64_in _ (by omega)
                have hib0 : (c0 : Int) < (j : Int) := by omega
                have hib : (c : Int) < (j : Int) := by omega
                have d1 : wr.cell? ⟨ba, c0, none⟩ = some (intV (f c0)) := HR.out.ra.cell (i := c0) hcb0
                have d2 : wr.cell? ⟨ba, c, none⟩ = some (intV (f c)) := HR.out.ra.cell (i := c) hcb
                have d3 : wr.cell? ⟨br, c0, none⟩ = some (intV (g2 c0)) := HR.out.rr.cell (i := c0) hcb0
                have HC := Lib.hid (fun W hW => HN.out W i0 c0 (f c0) (f c) (g2 c0) hW (by omega) (by omega) (HI.out c0 (by omega)) (by rw [hc0]; exact HI.out c (by omega)) (by rw [hi0]; exact HG.out c0 (by omega)))
                rw [hi0, hc0] at HC
                have hS : ∀ W, Below wr.heap.size wr W → W.cell? ⟨ba, c0, none⟩ = some (intV (f c0)) ∧ W.cell? ⟨ba, c, none⟩ = some (intV (f c)) ∧ W.cell? ⟨br, c0, none⟩ = some (intV (g2 c0)) := fun W hW =>
                  ⟨(hW.cell (p := ⟨ba, c0, none⟩) HR.out.ra.lt).trans d1, (hW.cell (p := ⟨ba, c, none⟩) HR.out.ra.lt).trans d2, (hW.cell (p := ⟨br, c0, none⟩) HR.out.rr.lt).trans d3⟩
                have HS := Lib.hid hS
                clear hS d1 d2 d3
                go_wp2_with fail
                go_region_held3 (fun w' => w'.cell? ⟨ba, c0, none⟩ = some (intV (f c0)) ∧ w'.cell? ⟨ba, c, none⟩ = some (intV (f c)) ∧ w'.cell? ⟨br, c0, none⟩ = some (intV (g2 c0)))
                  (first | exact HS.out _ (Below.refl _ _).drew | exact HS.out _ ((Below.refl _ _).drew.trans hb1) | exact HS2.out)
                  (first | (refine (HC.out _ ?_).mono ?_; exact HR.out.below.drew; rintro e w1 ⟨z2, rfl, hz2, hb1⟩; have hR1 := HR.out.drew.call hb1; have HRS := Lib.hid (hR1.setR c z2); have hfz := hR1.rr.frozen c; have hst : w1.cell? ⟨br, c, none⟩ = some (intV (g2 c)) := hR1.rr.cell (i := c) hcb; have HS2 := Lib.hid (And.intro (HRS.out.ra.cell (i := c0) hcb0) (And.intro (HRS.out.ra.cell (i := c) hcb) ((HRS.out.rr.cell (i := c0) hcb0).trans (congrArg some (congrArg intV (if_neg (show ¬ c0 = c by omega))))))); have HZ2 := Lib.hid hz2; clear hR1 hz2))
                go_wp2
                go_roundw
                case rel =>
                  refine ⟨c + 1, _, by omega, by omega, by go_num, HRS.out, fun k hk => ?_⟩
                  by_cases e : k = c
                  · rw [if_pos e, e]; exact HZ2.out
                  · rw [if_neg e]; exact HG.out k (by omega)
                case measure => simp [intOf]; omega
              · obtain rfl : c = j := by omega
                go_wp2
                go_roundw
                case rel => exact ⟨i + 1, _, _, _, _, by omega, by omega, rfl, rfl, by go_num, HR.out.swap, fun k hk => by rw [Nat.add_sub_cancel]; exact HG.out k hk⟩
                case measure => simp [intOf]; omega
          · obtain rfl : i = n + 1 := by omega
            rw [Nat.add_sub_cancel] at HI
            have hmj : m < j := by omega
            have e1 : wr.cell? ⟨ba, m, none⟩ = some (intV (f m)) := HR.out.ra.cell (i := m) hmj
            have HB := Lib.hid HR.out.below
            go_wp2
            go_ret
            exact ⟨_, rfl, HI.out m hmj, HB.out⟩
end Go.Proofs.Ytbdeakodmhcgdaa
