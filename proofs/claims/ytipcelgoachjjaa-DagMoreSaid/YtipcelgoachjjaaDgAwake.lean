/- The example of the chapter. -/
import Derived.Test.YtipcelgoachjjaaDgShort
import Derived.Test.YtipcelgoachjjaaDgSlices
namespace Go.Proofs.Ytipcelgoachjjaa
set_option linter.unusedSimpArgs false
set_option linter.unusedVariables false
set_option maxRecDepth 100000
open Go.RowKit Go.Deep

abbrev ex : List LkV := [⟨0, 1, 2⟩, ⟨0, 2, 5⟩, ⟨1, 2, 3⟩, ⟨2, 3, 1⟩]
theorem ex_sho : shoR 4 ex 0 3 = ([0, 2, 3], 6, 0) := by decide
theorem ex_pot : potR 4 ex 3 = ([6, 4, 1, 0], 0) := by decide
theorem ex_cnt : cntR 4 ex 0 3 = (2, 0) := by decide
theorem ex_great : greatR 4 ex = false := by decide
theorem links_ex (w : World) : LinksAt (w.alloc (.cells #[intV 0, intV 1, intV 2, intV 0, intV 2, intV 5, intV 1, intV 2, intV 3, intV 2, intV 3, intV 1] 52)) (.slice (some ⟨w.heap.size, 0, none⟩) 4 4) ex := by
  refine ⟨_, 4, rfl, fun _ => ⟨w.heap.size, 0, rfl, by simp, fun j hj => ?_⟩⟩
  simp only [World.cell?_alloc_new]
  match j, hj with
  | 0, _ => exact ⟨rfl, rfl, rfl⟩
  | 1, _ => exact ⟨rfl, rfl, rfl⟩
  | 2, _ => exact ⟨rfl, rfl, rfl⟩
  | 3, _ => exact ⟨rfl, rfl, rfl⟩
theorem equal_yes (xs : List Int) (vx vy : Value) (w : World) (hx : IntsAt w vx xs) (hy : IntsAt w vy xs) (lx : xs.length ≤ 1000000) :
    Calls Try.prog 19 #[vx, vy] w fun e w' => e = .returned (.bool true) ∧ Below w.heap.size w w' :=
  (equal_any xs xs true (by simp) vx vy w hx hy lx lx).mono fun e w' ⟨h, m, hm⟩ => ⟨h, by rw [hm]; exact below_drewN _ _⟩
theorem alloc_below (w : World) (o : Obj) : Below w.heap.size w (w.alloc o) := (Below.refl _ _).alloc (Nat.le_refl _) _
set_option maxHeartbeats 4000000 in
theorem awake_any (w : World) : Calls Try.prog 12 #[] w fun e w' => e = .returned (.bool true) ∧ Below w.heap.size w w' := by
  go_enter Try.func12, Try.ntmps12
  go_wp2_with fail
  obtain ⟨w1, hw1⟩ : ∃ x, w.alloc (.cells #[intV 0, intV 1, intV 2, intV 0, intV 2, intV 5, intV 1, intV 2, intV 3, intV 2, intV 3, intV 1] 52) = x := ⟨_, rfl⟩
  have hL := links_ex w
  have hB := alloc_below w (.cells #[intV 0, intV 1, intV 2, intV 0, intV 2, intV 5, intV 1, intV 2, intV 3, intV 2, intV 3, intV 1] 52)
  rw [hw1] at hL hB
  have HL := Lib.hid hL
  have HB1 := Lib.hid hB
  rw [hw1]
  clear hw1 hL hB
  refine (Shortest_any 4 ex 0 3 _ w1 HL.out ex_great _ ex_sho).mono ?_
  rintro e w2 ⟨v1, rfl, h1, hB⟩
  have HB2 := Lib.hid (below_then HB1.out hB)
  have HL2 := Lib.hid (HL.out.below hB)
  have H1 := Lib.hid h1
  obtain ⟨a1, c1, rfl⟩ := h1.slice
  clear hB h1
  go_wp2_with fail
  refine (Potentials_any 4 ex 3 _ w2 HL2.out ex_great _ ex_pot).mono ?_
  rintro e w3 ⟨v2, rfl, h2, hB⟩
  have HB3 := Lib.hid (below_then HB2.out hB)
  have HL3 := Lib.hid (HL2.out.below hB)
  have H13 := Lib.hid (H1.out.below hB)
  have H2 := Lib.hid h2
  obtain ⟨a2, c2, rfl⟩ := h2.slice
  clear hB h2
  go_wp2_with fail
  refine (Count_any 4 ex 0 3 _ w3 HL3.out ex_great _ ex_cnt).mono ?_
  rintro e w4 ⟨rfl, hB⟩
  have HB4 := Lib.hid (below_then HB3.out hB)
  have H14 := Lib.hid (H13.out.below hB)
  have H24 := Lib.hid (H2.out.below hB)
  clear hB
  go_wp2_with fail
  have hBa := alloc_below w4 (.cells #[intV 0, intV 2, intV 3] 3)
  refine (equal_yes [0, 2, 3] _ _ _ (H14.out.below hBa) (ints_lit w4 [0, 2, 3] 3) (by decide)).mono ?_
  rintro e w5 ⟨rfl, hB⟩
  have hB5 := below_then hBa hB
  have HB5 := Lib.hid (below_then HB4.out hB5)
  have H25 := Lib.hid (H24.out.below hB5)
  clear hBa hB hB5
  go_wp2_with fail
  have hBa := alloc_below w5 (.cells #[intV 6, intV 4, intV 1, intV 0] 3)
  refine (equal_yes [6, 4, 1, 0] _ _ _ (H25.out.below hBa) (ints_lit w5 [6, 4, 1, 0] 3) (by decide)).mono ?_
  rintro e w6 ⟨rfl, hB⟩
  have HB6 := Lib.hid (below_then HB5.out (below_then hBa hB))
  clear hBa hB
  go_wp2
  go_ret
  exact ⟨rfl, HB6.out⟩
end Go.Proofs.Ytipcelgoachjjaa
