/- IntsetOperations. -/
import Derived.Test.YtdplcpnahahkaaaIsRefCover
import Derived.Test.YtdplcpnahahkaaaIsChecks
namespace Go.Proofs.Ytdplcpnahahkaaa
set_option linter.unusedSimpArgs false
set_option linter.unusedVariables false
set_option maxRecDepth 100000
open Go.RowKit Go.Deep

abbrev fV (k : Nat) : Value := .func (.func k) #[] #[]
structure OpC (g : Nat) (W : World) : Prop where
  lt : g < W.heap.size
  c0 : W.cell? ⟨g, 0, none⟩ = some (fV 23)
  c1 : W.cell? ⟨g, 1, none⟩ = some (fV 24)
  c2 : W.cell? ⟨g, 2, none⟩ = some (fV 25)
  c3 : W.cell? ⟨g, 3, none⟩ = some (fV 26)
  c4 : W.cell? ⟨g, 4, none⟩ = some (fV 27)
  c5 : W.cell? ⟨g, 5, none⟩ = some (fV 28)
theorem OpC.below {g : Nat} {W W' : World} (h : OpC g W) (hB : Below W.heap.size W W') : OpC g W' :=
  ⟨Nat.lt_of_lt_of_le h.lt hB.size, (hB.cell (p := ⟨g, 0, none⟩) h.lt).trans h.c0, (hB.cell (p := ⟨g, 1, none⟩) h.lt).trans h.c1, (hB.cell (p := ⟨g, 2, none⟩) h.lt).trans h.c2, (hB.cell (p := ⟨g, 3, none⟩) h.lt).trans h.c3, (hB.cell (p := ⟨g, 4, none⟩) h.lt).trans h.c4, (hB.cell (p := ⟨g, 5, none⟩) h.lt).trans h.c5⟩
theorem OpC.new (w : World) (t : TypeId) : OpC w.heap.size (w.alloc (.cells #[fV 23, fV 24, fV 25, fV 26, fV 27, fV 28] t)) := by
  refine ⟨by simp, ?_, ?_, ?_, ?_, ?_, ?_⟩
  all_goals
    rw [World.cell?_alloc_new]
    rfl

set_option maxHeartbeats 8000000 in
theorem operations_law (w : World) (u0 : Value) (x0 : List Int) (u1 : Value) (x1 : List Int) (u2 : Value) (x2 : List (List Int)) (w0 : IntsAt w u0 x0) (b0 : x0.length ≤ maxLen) (w1 : IntsAt w u1 x1) (b1 : x1.length ≤ maxLen) (w2 : ListsAt w u2 x2) (b2 : x2.length ≤ maxLen) :
    Calls Try.prog 4 #[u0, u1, u2] w fun e w' => e = .returned (.bool true) ∧ Below w.heap.size w w' := by
  obtain ⟨gr, hgr⟩ : ∃ g, greatL x2 = g := ⟨_, rfl⟩
  obtain ⟨g0, hg0⟩ : ∃ g, decide (12 < x0.length) = g := ⟨_, rfl⟩
  obtain ⟨g1, hg1⟩ : ∃ g, decide (12 < x1.length) = g := ⟨_, rfl⟩
  have HG2 := Lib.hid (greatLists_any x2 gr hgr u2 w w2)
  have HG0 := Lib.hid (great_any x0 g0 hg0 u0 w w0)
  have HG1 := Lib.hid (great_any x1 g1 hg1 u1 w w1)
  have HA := Lib.hid w0
  have HB := Lib.hid w1
  have HL := Lib.hid w2
  obtain ⟨a0, c0, rfl, _⟩ := w0
  obtain ⟨a1, c1, rfl, _⟩ := w1
  obtain ⟨a2, c2, rfl, _⟩ := w2
  have H0 := Lib.hid hg0
  have H1 := Lib.hid hg1
  clear hg0 hg1
  go_enter Try.func4, Try.ntmps4
  go_wp2_with fail
  refine HG0.out.mono ?_
  rintro e v1 ⟨rfl, rfl⟩
  cases g0
  rotate_left
  · go_wp2_with fail
    refine (awake_any _).mono ?_
    rintro e v2 ⟨rfl, g2⟩
    have G2 := Lib.hid g2
    clear g2
    go_wp2
    go_ret
    exact ⟨rfl, G2.out⟩
  · go_wp2_with fail
    refine HG1.out.mono ?_
    rintro e v1 ⟨rfl, rfl⟩
    cases g1
    rotate_left
    · go_wp2_with fail
      refine (awake_any _).mono ?_
      rintro e v2 ⟨rfl, g2⟩
      have G2 := Lib.hid g2
      clear g2
      go_wp2
      go_ret
      exact ⟨rfl, G2.out⟩
    · go_wp2_with fail
      refine HG2.out.mono ?_
      rintro e v1 ⟨rfl, rfl⟩
      clear HG0 HG1 HG2
      cases gr
      rotate_left
      · go_wp2_with fail
        refine (awake_any _).mono ?_
        rintro e v2 ⟨rfl, g2⟩
        have G2 := Lib.hid g2
        clear g2
        go_wp2
        go_ret
        exact ⟨rfl, G2.out⟩
      · obtain ⟨n20, n12⟩ := great_off hgr
        have l0 : x0.length ≤ 1000000 := by have := of_decide_eq_false H0.out; omega
        have l1 : x1.length ≤ 1000000 := by have := of_decide_eq_false H1.out; omega
        have N12 := Lib.hid (And.intro n20 (And.intro (fun l (h : l ∈ x2) => Nat.le_trans (n12 l h) (by decide : 12 ≤ 1000000)) (And.intro l0 l1)))
        clear n20 n12 hgr l0 l1 H0 H1
        go_wp2
        go_loopw [37] (fun i wr => ∃ k : Nat, k ≤ 3 ∧ i = .int .i64 k ∧ OpC w.heap.size wr ∧ Below w.heap.size w wr) (fun i _ => 3 - (intOf i).toNat)
        case atStart => exact ⟨0, by omega, rfl, OpC.new w _, alloc_below _ _⟩
        case round =>
          obtain ⟨k, hk, rfl, hop, hB⟩ := hrel
          obtain ⟨wk, rfl⟩ : ∃ x, x = wr := ⟨_, rfl⟩
          have HOP := Lib.hid hop
          have HBK := Lib.hid hB
          rcases (show k = 0 ∨ k = 1 ∨ k = 2 ∨ k = 3 by omega) with rfl | rfl | rfl | rfl
          · have e0 := hop.c0
            have e1 := hop.c1
            clear hop
            have lR := opR_le orB x0 x1
            obtain ⟨r, hr⟩ : ∃ r, opR orB x0 x1 = r := ⟨_, rfl⟩
            rw [hr] at lR
            obtain ⟨R, er⟩ := r
            have HR := Lib.hid (And.intro hr lR)
            clear hr lR
            go_wp2_with fail
            obtain ⟨wb, hwb⟩ : ∃ x, wk.alloc (.cells #[fV 23, fV 24] 37) = x := ⟨_, rfl⟩
            have hbx : wb.cell? ⟨wk.heap.size, 1, none⟩ = some (fV 24) := by rw [← hwb, World.cell?_alloc_new]; rfl
            have HBLT := Lib.hid (show wk.heap.size < wb.heap.size by rw [← hwb]; simp)
            have hBb : Below wk.heap.size wk wb := by rw [← hwb]; exact alloc_below _ _
            have O1 := Lib.hid (HOP.out.below hBb)
            have B1 := Lib.hid (HBK.out.trans (hBb.mono HBK.out.size))
            rw [hwb]
            clear hwb hBb e0 e1 hB HBK HOP
            refine (union_any x0 x1 _ HR.out.1 _ _ wb (HA.out.below B1.out) (HB.out.below B1.out) N12.out.2.2.1 N12.out.2.2.2).mono ?_
            rintro e y1 ⟨v1, rfl, h1, g1⟩
            have hby : y1.cell? ⟨wk.heap.size, 1, none⟩ = some (fV 24) := (g1.cell (p := ⟨wk.heap.size, 1, none⟩) HBLT.out).trans hbx
            have O2 := Lib.hid (O1.out.below g1)
            have B2 := Lib.hid (B1.out.trans (g1.mono B1.out.size))
            have R2 := Lib.hid h1
            obtain ⟨q1, t1, rfl, _⟩ := h1
            clear g1 O1 B1 hbx HBLT
            go_wp2_with fail
            refine (refUnion_any x0 x1 _ HR.out.1 _ _ y1 (HA.out.below B2.out) (HB.out.below B2.out) N12.out.2.2.1 N12.out.2.2.2).mono ?_
            rintro e y2 ⟨v2, rfl, h2, g2⟩
            have O3 := Lib.hid (O2.out.below g2)
            have B3 := Lib.hid (B2.out.trans (g2.mono B2.out.size))
            have R3 := Lib.hid (R2.out.below g2)
            have S3 := Lib.hid h2
            obtain ⟨q2, t2, rfl, _⟩ := h2
            clear g2 O2 B2 R2 hby
            go_wp2_with fail
            refine (equal_at R R true (by simp) _ _ y2 R3.out S3.out HR.out.2 HR.out.2).mono ?_
            rintro e y3 ⟨rfl, g3⟩
            have O4 := Lib.hid (O3.out.below g3)
            have B4 := Lib.hid (B3.out.trans (g3.mono B3.out.size))
            clear g3 O3 B3 R3 S3
            go_wp2
            go_roundw
            case rel => exact ⟨1, by omega, by go_num, O4.out, B4.out⟩
            case measure => simp [intOf]
          · have e0 := hop.c2
            have e1 := hop.c3
            clear hop
            have lR := opR_le andB x0 x1
            obtain ⟨r, hr⟩ : ∃ r, opR andB x0 x1 = r := ⟨_, rfl⟩
            rw [hr] at lR
            obtain ⟨R, er⟩ := r
            have HR := Lib.hid (And.intro hr lR)
            clear hr lR
            go_wp2_with fail
            obtain ⟨wb, hwb⟩ : ∃ x, wk.alloc (.cells #[fV 25, fV 26] 37) = x := ⟨_, rfl⟩
            have hbx : wb.cell? ⟨wk.heap.size, 1, none⟩ = some (fV 26) := by rw [← hwb, World.cell?_alloc_new]; rfl
            have HBLT := Lib.hid (show wk.heap.size < wb.heap.size by rw [← hwb]; simp)
            have hBb : Below wk.heap.size wk wb := by rw [← hwb]; exact alloc_below _ _
            have O1 := Lib.hid (HOP.out.below hBb)
            have B1 := Lib.hid (HBK.out.trans (hBb.mono HBK.out.size))
            rw [hwb]
            clear hwb hBb e0 e1 hB HBK HOP
            refine (intersect_any x0 x1 _ HR.out.1 _ _ wb (HA.out.below B1.out) (HB.out.below B1.out) N12.out.2.2.1 N12.out.2.2.2).mono ?_
            rintro e y1 ⟨v1, rfl, h1, g1⟩
            have hby : y1.cell? ⟨wk.heap.size, 1, none⟩ = some (fV 26) := (g1.cell (p := ⟨wk.heap.size, 1, none⟩) HBLT.out).trans hbx
            have O2 := Lib.hid (O1.out.below g1)
            have B2 := Lib.hid (B1.out.trans (g1.mono B1.out.size))
            have R2 := Lib.hid h1
            obtain ⟨q1, t1, rfl, _⟩ := h1
            clear g1 O1 B1 hbx HBLT
            go_wp2_with fail
            refine (refIntersect_any x0 x1 _ HR.out.1 _ _ y1 (HA.out.below B2.out) (HB.out.below B2.out) N12.out.2.2.1 N12.out.2.2.2).mono ?_
            rintro e y2 ⟨v2, rfl, h2, g2⟩
            have O3 := Lib.hid (O2.out.below g2)
            have B3 := Lib.hid (B2.out.trans (g2.mono B2.out.size))
            have R3 := Lib.hid (R2.out.below g2)
            have S3 := Lib.hid h2
            obtain ⟨q2, t2, rfl, _⟩ := h2
            clear g2 O2 B2 R2 hby
            go_wp2_with fail
            refine (equal_at R R true (by simp) _ _ y2 R3.out S3.out HR.out.2 HR.out.2).mono ?_
            rintro e y3 ⟨rfl, g3⟩
            have O4 := Lib.hid (O3.out.below g3)
            have B4 := Lib.hid (B3.out.trans (g3.mono B3.out.size))
            clear g3 O3 B3 R3 S3
            go_wp2
            go_roundw
            case rel => exact ⟨2, by omega, by go_num, O4.out, B4.out⟩
            case measure => simp [intOf]
          · have e0 := hop.c4
            have e1 := hop.c5
            clear hop
            have lR := opR_le minB x0 x1
            obtain ⟨r, hr⟩ : ∃ r, opR minB x0 x1 = r := ⟨_, rfl⟩
            rw [hr] at lR
            obtain ⟨R, er⟩ := r
            have HR := Lib.hid (And.intro hr lR)
            clear hr lR
            go_wp2_with fail
            obtain ⟨wb, hwb⟩ : ∃ x, wk.alloc (.cells #[fV 27, fV 28] 37) = x := ⟨_, rfl⟩
            have hbx : wb.cell? ⟨wk.heap.size, 1, none⟩ = some (fV 28) := by rw [← hwb, World.cell?_alloc_new]; rfl
            have HBLT := Lib.hid (show wk.heap.size < wb.heap.size by rw [← hwb]; simp)
            have hBb : Below wk.heap.size wk wb := by rw [← hwb]; exact alloc_below _ _
            have O1 := Lib.hid (HOP.out.below hBb)
            have B1 := Lib.hid (HBK.out.trans (hBb.mono HBK.out.size))
            rw [hwb]
            clear hwb hBb e0 e1 hB HBK HOP
            refine (minus_any x0 x1 _ HR.out.1 _ _ wb (HA.out.below B1.out) (HB.out.below B1.out) N12.out.2.2.1 N12.out.2.2.2).mono ?_
            rintro e y1 ⟨v1, rfl, h1, g1⟩
            have hby : y1.cell? ⟨wk.heap.size, 1, none⟩ = some (fV 28) := (g1.cell (p := ⟨wk.heap.size, 1, none⟩) HBLT.out).trans hbx
            have O2 := Lib.hid (O1.out.below g1)
            have B2 := Lib.hid (B1.out.trans (g1.mono B1.out.size))
            have R2 := Lib.hid h1
            obtain ⟨q1, t1, rfl, _⟩ := h1
            clear g1 O1 B1 hbx HBLT
            go_wp2_with fail
            refine (refMinus_any x0 x1 _ HR.out.1 _ _ y1 (HA.out.below B2.out) (HB.out.below B2.out) N12.out.2.2.1 N12.out.2.2.2).mono ?_
            rintro e y2 ⟨v2, rfl, h2, g2⟩
            have O3 := Lib.hid (O2.out.below g2)
            have B3 := Lib.hid (B2.out.trans (g2.mono B2.out.size))
            have R3 := Lib.hid (R2.out.below g2)
            have S3 := Lib.hid h2
            obtain ⟨q2, t2, rfl, _⟩ := h2
            clear g2 O2 B2 R2 hby
            go_wp2_with fail
            refine (equal_at R R true (by simp) _ _ y2 R3.out S3.out HR.out.2 HR.out.2).mono ?_
            rintro e y3 ⟨rfl, g3⟩
            have O4 := Lib.hid (O3.out.below g3)
            have B4 := Lib.hid (B3.out.trans (g3.mono B3.out.size))
            clear g3 O3 B3 R3 S3
            go_wp2
            go_roundw
            case rel => exact ⟨3, by omega, by go_num, O4.out, B4.out⟩
            case measure => simp [intOf]
          · clear hop HOP
            obtain ⟨r, hr⟩ : ∃ r, withinR x0 x1 = r := ⟨_, rfl⟩
            obtain ⟨R, er⟩ := r
            have HR := Lib.hid hr
            clear hr hB
            go_wp2_with fail
            refine (within_any x0 x1 _ HR.out _ _ wk (HA.out.below HBK.out) (HB.out.below HBK.out) N12.out.2.2.1 N12.out.2.2.2).mono ?_
            rintro e y1 ⟨rfl, g1⟩
            have B1 := Lib.hid (HBK.out.trans (g1.mono HBK.out.size))
            clear g1 HBK
            go_wp2_with fail
            refine (refWithin_any x0 x1 _ HR.out _ _ y1 (HA.out.below B1.out) (HB.out.below B1.out) N12.out.2.2.1 N12.out.2.2.2).mono ?_
            rintro e y2 ⟨rfl, m, hm⟩
            have B2 := Lib.hid (B1.out.trans (show Below w.heap.size y1 y2 by rw [hm]; exact below_drewN_n _ _ _))
            clear hm B1 HR
            go_wp2_with fail
            refine (cover_any x0 x2 _ _ y2 (HA.out.below B2.out) (HL.out.below B2.out) N12.out.2.2.1 (by have := N12.out.1; omega) N12.out.2.1).mono ?_
            rintro e y3 ⟨r, hr, v3, rfl, h3, g3⟩
            have B3 := Lib.hid (B2.out.trans (g3.mono B2.out.size))
            have R3 := Lib.hid h3
            have HR := Lib.hid hr
            obtain ⟨R2, er2⟩ := r
            dsimp only at R3 h3
            obtain ⟨q3, t3, rfl, _⟩ := h3
            clear g3 B2 hr
            go_wp2_with fail
            refine (refCover_any x0 x2 _ _ y3 (HA.out.below B3.out) (HL.out.below B3.out) N12.out.2.2.1 (by have := N12.out.1; omega) N12.out.2.1).mono ?_
            rintro e y4 ⟨r, hr, v4, rfl, h4, g4⟩
            obtain rfl := covP_one HR.out hr
            have B4 := Lib.hid (B3.out.trans (g4.mono B3.out.size))
            have R4 := Lib.hid (R3.out.below g4)
            have S4 := Lib.hid h4
            dsimp only at S4 h4
            obtain ⟨q4, t4, rfl, _⟩ := h4
            have hl : R2.length ≤ 1000000 := by
              have hP := HR.out
              rcases hP with ⟨_, e⟩ | ⟨_, _, e⟩ | ⟨h16, _, ⟨c, hb, e⟩ | ⟨_, e⟩⟩
              · obtain ⟨rfl, _⟩ := Prod.mk.inj e; simp
              · obtain ⟨rfl, _⟩ := Prod.mk.inj e; simp
              · obtain ⟨rfl, _⟩ := Prod.mk.inj e
                have := asc_len hb.1.1 (Nat.zero_le _)
                simp only [upL, List.length_map]; omega
              · obtain ⟨rfl, _⟩ := Prod.mk.inj e; simp
            clear g4 B3 R3 hr HR
            go_wp2_with fail
            refine (equal_at R2 R2 true (by simp) _ _ y4 R4.out S4.out hl hl).mono ?_
            rintro e y5 ⟨rfl, g5⟩
            have B5 := Lib.hid (B4.out.trans (g5.mono B4.out.size))
            clear g5 B4 R4 S4 hl
            go_wp2_with fail
            refine (awake_any _).mono ?_
            rintro e y6 ⟨rfl, g6⟩
            have B6 := Lib.hid (B5.out.trans (g6.mono B5.out.size))
            clear g6
            go_wp2
            go_ret
            exact ⟨rfl, B6.out⟩
end Go.Proofs.Ytdplcpnahahkaaa
