/- The examples of the chapter, the program's contracts given. -/
import Derived.Test.YteceahbnafaeoaaSqHelp
import Derived.Below
namespace Go.Proofs.Yteceahbnafaeoaa
set_option linter.unusedSimpArgs false
set_option linter.unusedVariables false
set_option maxRecDepth 100000
open Go.RowKit Go.Deep

theorem ints_lit (w : World) (xs : List Int) (cs : Array Value) (h : cs.toList = xs.map intV) (hm : xs.length ≤ maxLen) : IntsAt (w.alloc (.cells cs 3)) (.slice (some ⟨w.heap.size, 0, none⟩) xs.length xs.length) xs := by
  have := World.ownsRow_lit (base := w.heap.size) (e := 3) (size := 1) w cs xs.length (Nat.le_refl _) hm (by rw [← Array.length_toList, h, List.length_map, Nat.mul_one])
  rw [h] at this
  exact IntsAt.of_own this
theorem lists_lit (w : World) (us : List Value) (L : List (List Int)) (hl : us.length = L.length) (hI : ∀ j (h : j < L.length), IntsAt w (us[j]'(by omega)) L[j]) : ListsAt (w.alloc (.cells us.toArray 22)) (.slice (some ⟨w.heap.size, 0, none⟩) L.length L.length) L := by
  refine ⟨_, _, rfl, fun h0 => ⟨_, _, rfl, by simp, fun j hj => ⟨us[j]'(by omega), ?_, (hI j hj).below ((Below.refl _ _).alloc (Nat.le_refl _) _)⟩⟩⟩
  rw [Nat.zero_add, World.cell?_alloc_new]
  simp [hl, hj]
theorem alloc_below (w : World) (o : Obj) : Below w.heap.size w (w.alloc o) := (Below.refl _ _).alloc (Nat.le_refl _) _
theorem max4 (W : World) : (Builtin.max_ #[25, 25, 25, 25] 25 #[.int .i64 0, .int .i64 0, .int .i64 0, .int .i64 0]).run Try.prog W = .ok (.int .i64 0) W := by rfl
abbrev i1 (a : Int) : Obj := .cells #[intV a] 3
abbrev i2 (a b : Int) : Obj := .cells #[intV a, intV b] 3
abbrev i3 (a b c : Int) : Obj := .cells #[intV a, intV b, intV c] 3
abbrev i5 (a b c d e : Int) : Obj := .cells #[intV a, intV b, intV c, intV d, intV e] 3
theorem ex_cov (w : World) : ∃ W, Below w.heap.size w W ∧ ListsAt W (.slice (some ⟨w.heap.size + 1 + 1 + 1, 0, none⟩) 3 3) [[0, 1], [2], [3, 4]] ∧
    ((((w.alloc (i2 0 1)).alloc (i1 2)).alloc (i2 3 4)).alloc (.cells #[.slice (some ⟨w.heap.size, 0, none⟩) 2 2, .slice (some ⟨w.heap.size + 1, 0, none⟩) 1 1, .slice (some ⟨w.heap.size + 1 + 1, 0, none⟩) 2 2] 22)) = W := by
  obtain ⟨w1, h1⟩ : ∃ x, w.alloc (i2 0 1) = x := ⟨_, rfl⟩
  obtain ⟨w2, h2⟩ : ∃ x, w1.alloc (i1 2) = x := ⟨_, rfl⟩
  obtain ⟨w3, h3⟩ : ∃ x, w2.alloc (i2 3 4) = x := ⟨_, rfl⟩
  have s1 : w1.heap.size = w.heap.size + 1 := by rw [← h1]; simp
  have s2 : w2.heap.size = w.heap.size + 1 + 1 := by rw [← h2]; simp [s1]
  have s3 : w3.heap.size = w.heap.size + 1 + 1 + 1 := by rw [← h3]; simp [s2]
  have b1 : Below w.heap.size w w1 := by rw [← h1]; exact alloc_below _ _
  have b2 : Below w1.heap.size w1 w2 := by rw [← h2]; exact alloc_below _ _
  have b3 : Below w2.heap.size w2 w3 := by rw [← h3]; exact alloc_below _ _
  have c2 := below_then b2 b3
  have l1 : IntsAt w1 (.slice (some ⟨w.heap.size, 0, none⟩) 2 2) [0, 1] := by rw [← h1]; exact ints_lit w [0, 1] _ rfl (by decide)
  have l2 : IntsAt w2 (.slice (some ⟨w1.heap.size, 0, none⟩) 1 1) [2] := by rw [← h2]; exact ints_lit w1 [2] _ rfl (by decide)
  have l3 : IntsAt w3 (.slice (some ⟨w2.heap.size, 0, none⟩) 2 2) [3, 4] := by rw [← h3]; exact ints_lit w2 [3, 4] _ rfl (by decide)
  rw [s1] at l2
  rw [s2] at l3
  have hL := lists_lit w3 [.slice (some ⟨w.heap.size, 0, none⟩) 2 2, .slice (some ⟨w.heap.size + 1, 0, none⟩) 1 1, .slice (some ⟨w.heap.size + 1 + 1, 0, none⟩) 2 2] [[0, 1], [2], [3, 4]] rfl (fun j hj => by
    match j, hj with
    | 0, _ => exact l1.below c2
    | 1, _ => exact l2.below b3
    | 2, _ => exact l3)
  rw [s3] at hL
  have b4 := alloc_below w3 (.cells #[.slice (some ⟨w.heap.size, 0, none⟩) 2 2, .slice (some ⟨w.heap.size + 1, 0, none⟩) 1 1, .slice (some ⟨w.heap.size + 1 + 1, 0, none⟩) 2 2] 22)
  refine ⟨_, below_then (below_then b1 c2) b4, hL, ?_⟩
  rw [h1, h2, h3]
theorem ex_runs (w : World) : ∃ W, Below w.heap.size w W ∧ ListsAt W (.slice (some ⟨w.heap.size + 1 + 1, 0, none⟩) 2 2) [[0, 3], [3, 2]] ∧
    (((w.alloc (i2 0 3)).alloc (i2 3 2)).alloc (.cells #[.slice (some ⟨w.heap.size, 0, none⟩) 2 2, .slice (some ⟨w.heap.size + 1, 0, none⟩) 2 2] 22)) = W := by
  obtain ⟨w1, h1⟩ : ∃ x, w.alloc (i2 0 3) = x := ⟨_, rfl⟩
  obtain ⟨w2, h2⟩ : ∃ x, w1.alloc (i2 3 2) = x := ⟨_, rfl⟩
  have s1 : w1.heap.size = w.heap.size + 1 := by rw [← h1]; simp
  have s2 : w2.heap.size = w.heap.size + 1 + 1 := by rw [← h2]; simp [s1]
  have b1 : Below w.heap.size w w1 := by rw [← h1]; exact alloc_below _ _
  have b2 : Below w1.heap.size w1 w2 := by rw [← h2]; exact alloc_below _ _
  have l1 : IntsAt w1 (.slice (some ⟨w.heap.size, 0, none⟩) 2 2) [0, 3] := by rw [← h1]; exact ints_lit w [0, 3] _ rfl (by decide)
  have l2 : IntsAt w2 (.slice (some ⟨w1.heap.size, 0, none⟩) 2 2) [3, 2] := by rw [← h2]; exact ints_lit w1 [3, 2] _ rfl (by decide)
  rw [s1] at l2
  have hL := lists_lit w2 [.slice (some ⟨w.heap.size, 0, none⟩) 2 2, .slice (some ⟨w.heap.size + 1, 0, none⟩) 2 2] [[0, 3], [3, 2]] rfl (fun j hj => by
    match j, hj with
    | 0, _ => exact l1.below b2
    | 1, _ => exact l2)
  rw [s2] at hL
  have b4 := alloc_below w2 (.cells #[.slice (some ⟨w.heap.size, 0, none⟩) 2 2, .slice (some ⟨w.heap.size + 1, 0, none⟩) 2 2] 22)
  refine ⟨_, below_then (below_then b1 b2) b4, hL, ?_⟩
  rw [h1, h2]
theorem ex_inc : incE [3, 1, 2, 5, 4] = ([1, 2, 3], 0) := by decide +kernel
theorem ex_covr : covE [3, 1, 2, 5, 4] = ([[0, 1], [2], [3, 4]], 0) := by decide +kernel
theorem ex_inv : invE [3, 1, 2, 5, 4] = (3, 0) := by decide +kernel
theorem ex_run : runsE [3, 4, 5, 9, 10] = ([[0, 3], [3, 2]], 0) := by decide +kernel
theorem ex_r1 : R64 [3, 1, 2, 5, 4] := by unfold R64; decide
theorem ex_r2 : R64 [3, 4, 5, 9, 10] := by unfold R64; decide
set_option maxHeartbeats 4000000 in
theorem awake_any (H : SqOk) (w : World) : Calls Try.prog 12 #[] w fun e w' => e = .returned (.bool true) ∧ Below w.heap.size w w' := by
  go_enter Try.func12, Try.ntmps12
  go_wp2_with fail
  have bA := alloc_below w (i5 3 1 2 5 4)
  have s1 := ints_lit w [3, 1, 2, 5, 4] #[intV 3, intV 1, intV 2, intV 5, intV 4] rfl (by decide)
  have B1 := Lib.hid bA
  refine (H.incr _ _ _ s1 ex_r1 (by decide)).mono ?_
  rintro e w1 ⟨v1, rfl, h1, b1⟩
  rw [ex_inc] at h1 ⊢
  simp only at h1
  have O1 := Lib.hid h1
  have B2 := Lib.hid (below_then B1.out b1)
  obtain ⟨a1, c1, rfl, _⟩ := h1
  clear bA s1 b1
  go_wp2_with fail
  have bA := alloc_below w1 (i5 3 1 2 5 4)
  have s1 := ints_lit w1 [3, 1, 2, 5, 4] #[intV 3, intV 1, intV 2, intV 5, intV 4] rfl (by decide)
  have O2 := Lib.hid (O1.out.below bA)
  have B3 := Lib.hid (below_then B2.out bA)
  refine (H.cover _ _ _ s1 ex_r1 (by decide)).mono ?_
  rintro e w2 ⟨v2, rfl, h2, b2⟩
  rw [ex_covr] at h2 ⊢
  simp only at h2
  have P2 := Lib.hid h2
  have O3 := Lib.hid (O2.out.below b2)
  have B4 := Lib.hid (below_then B3.out b2)
  obtain ⟨a2, c2, rfl, _⟩ := h2
  clear bA s1 b2
  go_wp2_with fail
  have bA := alloc_below w2 (i5 3 1 2 5 4)
  have s1 := ints_lit w2 [3, 1, 2, 5, 4] #[intV 3, intV 1, intV 2, intV 5, intV 4] rfl (by decide)
  have O4 := Lib.hid (O3.out.below bA)
  have P3 := Lib.hid (P2.out.below bA)
  have B5 := Lib.hid (below_then B4.out bA)
  refine (H.inv _ _ _ s1 (cap_lit _ _) ex_r1 (by decide)).mono ?_
  rintro e w3 ⟨rfl, b3⟩
  rw [ex_inv]
  have O5 := Lib.hid (O4.out.below b3)
  have P4 := Lib.hid (P3.out.below b3)
  have B6 := Lib.hid (below_then B5.out b3)
  clear bA s1 b3
  go_wp2_with fail
  have bA := alloc_below w3 (i5 3 4 5 9 10)
  have s1 := ints_lit w3 [3, 4, 5, 9, 10] #[intV 3, intV 4, intV 5, intV 9, intV 10] rfl (by decide)
  have O6 := Lib.hid (O5.out.below bA)
  have P5 := Lib.hid (P4.out.below bA)
  have B7 := Lib.hid (below_then B6.out bA)
  refine (H.runs _ _ _ s1 ex_r2 (by decide)).mono ?_
  rintro e w4 ⟨v4, rfl, h4, b4⟩
  rw [ex_run] at h4 ⊢
  simp only at h4
  have Q4 := Lib.hid h4
  have O7 := Lib.hid (O6.out.below b4)
  have P6 := Lib.hid (P5.out.below b4)
  have B8 := Lib.hid (below_then B7.out b4)
  obtain ⟨a4, c4, rfl, _⟩ := h4
  clear bA s1 b4
  have hmax := max4
  go_wp2_with fail
  clear hmax
  have bA := alloc_below w4 (i3 1 2 3)
  have s1 := ints_lit w4 [1, 2, 3] #[intV 1, intV 2, intV 3] rfl (by decide)
  have P7 := Lib.hid (P6.out.below bA)
  have Q5 := Lib.hid (Q4.out.below bA)
  have B9 := Lib.hid (below_then B8.out bA)
  refine (equal_any [1, 2, 3] [1, 2, 3] true (by decide) _ _ _ (O7.out.below bA) s1 (by decide) (by decide)).mono ?_
  rintro e w5 ⟨rfl, m5, h5⟩
  have b5 : Below (w4.alloc (i3 1 2 3)).heap.size (w4.alloc (i3 1 2 3)) w5 := by rw [h5]; exact below_drewN _ _
  have P8 := Lib.hid (P7.out.below b5)
  have Q6 := Lib.hid (Q5.out.below b5)
  have B10 := Lib.hid (below_then B9.out b5)
  clear bA s1 b5 h5
  go_wp2_with fail
  obtain ⟨W, hb, hL, hW⟩ := ex_cov w5
  rw [hW]
  have B11 := Lib.hid (below_then B10.out hb)
  have Q7 := Lib.hid (Q6.out.below hb)
  refine (sameL_any _ _ true (by decide) _ _ W (P8.out.below hb) hL (by decide) (by decide) (by decide) (by decide)).mono ?_
  rintro e w6 ⟨rfl, m6, h6⟩
  have b6 : Below W.heap.size W w6 := by rw [h6]; exact below_drewN _ _
  have Q8 := Lib.hid (Q7.out.below b6)
  have B12 := Lib.hid (below_then B11.out b6)
  clear hb hL hW b6 h6
  go_wp2_with fail
  obtain ⟨W2, hb, hL, hW⟩ := ex_runs w6
  rw [hW]
  have B13 := Lib.hid (below_then B12.out hb)
  refine (sameL_any _ _ true (by decide) _ _ W2 (Q8.out.below hb) hL (by decide) (by decide) (by decide) (by decide)).mono ?_
  rintro e w7 ⟨rfl, m7, h7⟩
  have b7 : Below W2.heap.size W2 w7 := by rw [h7]; exact below_drewN _ _
  have B14 := Lib.hid (below_then B13.out b7)
  clear hb hL hW b7 h7
  go_wp2
  go_ret
  exact ⟨rfl, B14.out⟩
end Go.Proofs.Yteceahbnafaeoaa
