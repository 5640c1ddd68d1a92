/- The examples of the chapter: awake() is true, wherever the library's table lies as it is laid. -/
import Derived.Test.YtkiaiiepfphllaaDoorFpPrint
import Derived.Test.YtkiaiiepfphllaaDoorFpOwn
import Derived.Test.YtkiaiiepfphllaaDoorFpClosure
namespace Go.Proofs.YtkiaiiepfphllaaDoor
set_option linter.unusedSimpArgs false
set_option linter.unusedVariables false
set_option maxRecDepth 100000
open Go.RowKit

/-- slices.Equal of two lists of integers -/
theorem equal_ints {v1 v2 : Value} {xs ys : List Int} {w : World} (h1 : IntsAt w v1 xs) (h2 : IntsAt w v2 ys) (l1 : xs.length ≤ 9223372036854775807) (l2 : ys.length ≤ 9223372036854775807) :
    Calls Tryd.prog 24 #[v1, v2] w fun e w' => e = .returned (.bool (decide (xs = ys))) ∧ Below w.heap.size w w' := by
  obtain ⟨a1, k1, rfl, c1⟩ := h1
  obtain ⟨a2, k2, rfl, c2⟩ := h2
  by_cases hne : xs.length = ys.length
  · by_cases h0 : xs.length = 0
    · have ex : xs = [] := List.length_eq_zero_iff.1 h0
      have ey : ys = [] := List.length_eq_zero_iff.1 (by omega)
      subst ex ey
      exact (Tryd.slices_Equal_int_empty a1 a2 k1 0 k2 w (by omega)).mono fun e w' h => ⟨by rw [List.length_nil] at *; rw [h.1]; rfl, by rw [h.2]; exact Below.refl _ _⟩
    · obtain ⟨b1, o1, rfl, _, d1⟩ := c1 (by omega)
      obtain ⟨b2, o2, rfl, _, d2⟩ := c2 (by omega)
      refine (Tryd.slices_Equal_int b1 o1 xs.length k1 b2 o2 ys.length k2 xs ys w (Nat.le_refl _) (Nat.le_refl _) l1 l2 ?_ ?_).mono fun e w' ⟨h, q, h2⟩ => ⟨?_, by rw [h2]; exact below_drewN w q⟩
      · intro j hj
        rw [List.getD_eq_getElem?_getD, List.getElem?_eq_getElem hj]; exact d1 j hj
      · intro j hj
        rw [List.getD_eq_getElem?_getD, List.getElem?_eq_getElem hj]; exact d2 j hj
      · rw [h, List.take_length, List.take_length]
        exact ret_bool (by rw [Bool.eq_iff_iff]; simp)
  · have hxy : ¬ xs = ys := fun e => hne (by rw [e])
    exact (Tryd.slices_Equal_int_lens a1 a2 xs.length k1 ys.length k2 w hne).mono fun e w' h => ⟨by rw [h.1, decide_eq_false hxy], by rw [h.2]; exact Below.refl _ _⟩
theorem equal_at {v1 v2 : Value} {xs ys : List Int} (r : Bool) (hr : decide (xs = ys) = r) {w : World} (h1 : IntsAt w v1 xs) (h2 : IntsAt w v2 ys) (l1 : xs.length ≤ 9223372036854775807) (l2 : ys.length ≤ 9223372036854775807) :
    Calls Tryd.prog 24 #[v1, v2] w fun e w' => e = .returned (.bool r) ∧ Below w.heap.size w w' := by subst hr; exact equal_ints h1 h2 l1 l2
theorem ints_lit (w : World) (zs : List Int) (T : TypeId) (n : Nat) (hn : zs.length = n) (cs : Array Value) (hcs : cs.toList = zs.map intV) : IntsAt (w.alloc (.cells cs T)) (.slice (some ⟨w.heap.size, 0, none⟩) n n) zs := by
  subst hn
  refine ⟨_, _, rfl, fun _ => ⟨w.heap.size, 0, rfl, by simp, fun j hj => ?_⟩⟩
  have e : cs[j]? = some (intV zs[j]) := by rw [← Array.getElem?_toList, hcs]; simp [hj]
  simp [e, intV]
theorem dist_at (total : Int) (zs : List Int) (r : List Int × Int) (h : distR total zs = r) (v : Value) (w : World) (hv : IntsAt w v zs) (hl : zs.length ≤ 9223372036854775807) :
    Calls Tryd.prog 22 #[.int .i64 total, v] w (ListPost r w) := by subst h; exact dist_any total zs v w hv hl
theorem dd_250 : printR (-250) = ([45, 48, 46, 50, 53, 112, 116], 0) := by
  have e1 : dd 1250 = [49, 50, 53, 48] := by
    rw [dd_big (by decide), dd_big (by decide), dd_big (by decide), dd_small (by decide)]; rfl
  have e2 : dd 0 = [48] := by rw [dd_small (by decide)]; rfl
  rw [printR, if_pos (by decide), printT, amtT, fracT]
  rw [show ((-250 : Int).natAbs) / 1000 = 0 from rfl, show ((-250 : Int).natAbs) % 1000 = 250 from rfl, e2, if_neg (show ¬ (250 : Nat) = 0 by decide), show 1000 + 250 = 1250 from rfl, e1]
  decide

theorem max5_zero (w : World) : Sem.run Tryd.prog (Builtin.max_ #[23, 23, 23, 23, 23] 23 #[.int .i64 0, .int .i64 0, .int .i64 0, .int .i64 0, .int .i64 0]) w = .ok (.int .i64 0) w := by
  kernel_rfl
set_option maxHeartbeats 1000000 in
theorem awake_any (w : World) (hT : Tab w) : Calls Tryd.prog 10 #[] w fun e w' => e = .returned (.bool true) ∧ Below w.heap.size w w' := by
  have HT := Lib.hid hT
  clear hT
  go_enter Tryd.func10, Tryd.ntmps10
  go_wp2_with fail
  refine (parse_at _ (12500, 0) (by decide +kernel) (by decide) _).mono ?_
  rintro e w1 ⟨rfl, h1⟩
  have B1 := Lib.hid h1
  clear h1
  go_wp2_with fail
  refine (print_at _ _ dd_250 _ (HT.out.below B1.out)).mono ?_
  rintro e w2 ⟨rfl, h2⟩
  have B2 := Lib.hid (below_seq B1.out h2 (Nat.le_refl _))
  clear h2 B1
  go_wp2_with fail
  refine (scale_at _ _ _ (667, 0) (by decide +kernel) _).mono ?_
  rintro e w3 ⟨rfl, rfl⟩
  go_wp2_with fail
  refine (dist_at _ [1, 1, 1] ([-34, -33, -33], 0) (by decide +kernel) _ _ (ints_lit w2 [1, 1, 1] 3 3 rfl #[.int .i64 1, .int .i64 1, .int .i64 1] rfl) (by decide)).mono ?_
  rintro e w4 ⟨v4, rfl, hv4, h4⟩
  have B4 := Lib.hid (below_seq (B2.out.alloc B2.out.size _) h4 (Nat.le_refl _))
  have V4 := Lib.hid hv4
  clear h4 B2 hv4
  go_wp2_with fail
  refine (sum_at [1500, -200] (1300, 0) (by decide +kernel) _ _ (ints_lit w4 [1500, -200] 3 2 rfl #[.int .i64 1500, .int .i64 (-200)] rfl) (by decide)).mono ?_
  rintro e w5 ⟨rfl, rfl⟩
  have hm := max5_zero
  have hs : ((baL [45, 48, 46, 50, 53, 112, 116]).toList == [45, 48, 46, 50, 53, 112, 116]) = true := by rw [ByteArray.toList_eq]; rfl
  go_wp2_with fail
  clear hm hs
  have C := equal_at true (xs := [-34, -33, -33]) (ys := [-34, -33, -33]) (w := (w4.alloc (.cells #[.int .i64 1500, .int .i64 (-200)] 3)).alloc (.cells #[.int .i64 (-34), .int .i64 (-33), .int .i64 (-33)] 3)) (by decide)
    ((V4.out.below ((Below.refl w4.heap.size w4).alloc (Nat.le_refl _) (.cells #[.int .i64 1500, .int .i64 (-200)] 3))).below ((Below.refl _ (w4.alloc (.cells #[.int .i64 1500, .int .i64 (-200)] 3))).alloc (Nat.le_refl _) (.cells #[.int .i64 (-34), .int .i64 (-33), .int .i64 (-33)] 3)))
    (ints_lit (w4.alloc (.cells #[.int .i64 1500, .int .i64 (-200)] 3)) [-34, -33, -33] 3 3 rfl #[.int .i64 (-34), .int .i64 (-33), .int .i64 (-33)] rfl) (by decide) (by decide)
  rw [World.size_alloc] at C
  refine C.mono ?_
  rintro e w6 ⟨rfl, h6⟩
  have B6 := Lib.hid (below_seq ((B4.out.alloc B4.out.size _).alloc (by have := B4.out.size; simp; omega) _) h6 (Nat.le_refl _))
  clear h6 V4
  go_wp2_with fail
  refine (bad_at 1000 2000 12 (by decide +kernel) _).mono ?_
  rintro e w7 ⟨rfl, h7⟩
  have B7 := Lib.hid (below_seq B6.out h7 (Nat.le_refl _))
  clear h7
  go_wp2_with fail
  refine (bad_at (-2000) 1000 800 (by decide +kernel) _).mono ?_
  rintro e w8 ⟨rfl, h8⟩
  have B8 := Lib.hid (below_seq B7.out h8 (Nat.le_refl _))
  clear h8
  go_wp2_with fail
  refine (chk_at 2147483648 2 (by decide) _).mono ?_
  rintro e w9 ⟨rfl, rfl⟩
  go_wp2
  go_ret
  exact ⟨rfl, B8.out⟩
end Go.Proofs.YtkiaiiepfphllaaDoor
