/- The examples of the chapter. -/
import Derived.Test.YtdplcpnahahkaaaIsCover
import Derived.Test.YtdplcpnahahkaaaIsRefs
import Derived.Test.YtdplcpnahahkaaaIsPart
namespace Go.Proofs.Ytdplcpnahahkaaa
set_option linter.unusedSimpArgs false
set_option linter.unusedVariables false
set_option maxRecDepth 100000
open Go.RowKit Go.Shelf Go.Deep

theorem ex_union : opR orB [1, 3] [2, 3] = ([1, 2, 3], 0) := by decide
theorem ex_comp : compR 5 [1, 3] = ([0, 2, 4], 0) := by decide
theorem ex_cov1 : ∀ i, i < 5 → ∃ x, x < 3 ∧ has [0, 1, 2] x ≠ has (([[0], [0, 1], [1, 2], [2], [0, 3]] : List (List Int)).getD i []) x := by decide
theorem ex_cov2 : IsCov [0, 1, 2] [[0], [0, 1], [1, 2], [2], [0, 3]] [0, 2] := ⟨⟨by decide, by decide, by decide, by decide, trivial⟩, by decide⟩
theorem ex_best : Best [0, 1, 2] [[0], [0, 1], [1, 2], [2], [0, 3]] [0, 2] := by
  refine ⟨ex_cov2, fun c h => ?_⟩
  match c, h with
  | [], h => exact absurd (h.2 0 (by decide)) (by decide)
  | [i], h =>
    obtain ⟨x, hx, hn⟩ := ex_cov1 i h.1.2.1
    refine absurd (h.2 x (by omega)) ?_
    simpa using hn
  | [i, j], h =>
    refine ⟨Nat.le_refl _, fun _ hl => ?_⟩
    have h1 : i = 0 ∧ j = 1 := by
      rcases hl with hl | ⟨rfl, hl | ⟨rfl, hl⟩⟩
      · omega
      · have := h.1.2.2.1; omega
      · exact hl.elim
    obtain ⟨rfl, rfl⟩ := h1
    exact absurd (h.2 2 (by decide)) (by decide)
  | i :: j :: k :: r, h => exact ⟨by simp, fun e => by simp at e⟩
theorem ex_cov {r : List Int × Int} (h : CovP [0, 1, 2] [[0], [0, 1], [1, 2], [2], [0, 3]] r) : r = ([0, 2], 0) :=
  covP_one h (.inr (.inr ⟨by decide, by decide, .inl ⟨_, ex_best, rfl⟩⟩))

theorem ints_lit (w : World) (xs : List Int) (cs : Array Value) (h : cs.toList = xs.map intV) (hm : xs.length ≤ maxLen) : IntsAt (w.alloc (.cells cs 3)) (.slice (some ⟨w.heap.size, 0, none⟩) xs.length xs.length) xs := by
  have := World.ownsRow_lit (base := w.heap.size) (e := 3) (size := 1) w cs xs.length (Nat.le_refl _) hm (by rw [← Array.length_toList, h, List.length_map, Nat.mul_one])
  rw [h] at this
  exact IntsAt.of_own this
theorem lists_lit (w : World) (us : List Value) (L : List (List Int)) (hl : us.length = L.length) (hI : ∀ j (h : j < L.length), IntsAt w (us[j]'(by omega)) L[j]) : ListsAt (w.alloc (.cells us.toArray 22)) (.slice (some ⟨w.heap.size, 0, none⟩) L.length L.length) L := by
  refine ⟨_, _, rfl, fun h0 => ⟨_, _, rfl, by simp, fun j hj => ⟨us[j]'(by omega), ?_, (hI j hj).below ((Below.refl _ _).alloc (Nat.le_refl _) _)⟩⟩⟩
  rw [Nat.zero_add, World.cell?_alloc_new]
  simp [hl, hj]
theorem alloc_below (w : World) (o : Obj) : Below w.heap.size w (w.alloc o) := (Below.refl _ _).alloc (Nat.le_refl _) _
theorem max3_zero (w : World) : Sem.run Try.prog (Builtin.max_ #[27, 27, 27] 27 #[.int .i64 0, .int .i64 0, .int .i64 0]) w = .ok (.int .i64 0) w := by
  kernel_rfl

abbrev i1 (a : Int) : Obj := .cells #[intV a] 3
abbrev i2 (a b : Int) : Obj := .cells #[intV a, intV b] 3
abbrev i3 (a b c : Int) : Obj := .cells #[intV a, intV b, intV c] 3
/-- the lists of the third example -/
theorem ex_world (w : World) : ∃ W, Below w.heap.size w W ∧ IntsAt W (.slice (some ⟨w.heap.size, 0, none⟩) 3 3) [0, 1, 2] ∧
    ListsAt W (.slice (some ⟨w.heap.size + 1 + 1 + 1 + 1 + 1 + 1, 0, none⟩) 5 5) [[0], [0, 1], [1, 2], [2], [0, 3]] ∧
    ((((((w.alloc (i3 0 1 2)).alloc (i1 0)).alloc (i2 0 1)).alloc (i2 1 2)).alloc (i1 2)).alloc (i2 0 3)).alloc (.cells #[.slice (some ⟨w.heap.size + 1, 0, none⟩) 1 1, .slice (some ⟨w.heap.size + 1 + 1, 0, none⟩) 2 2, .slice (some ⟨w.heap.size + 1 + 1 + 1, 0, none⟩) 2 2, .slice (some ⟨w.heap.size + 1 + 1 + 1 + 1, 0, none⟩) 1 1, .slice (some ⟨w.heap.size + 1 + 1 + 1 + 1 + 1, 0, none⟩) 2 2] 22) = W := by
  obtain ⟨w1, h1⟩ : ∃ x, w.alloc (i3 0 1 2) = x := ⟨_, rfl⟩
  obtain ⟨w2, h2⟩ : ∃ x, w1.alloc (i1 0) = x := ⟨_, rfl⟩
  obtain ⟨w3, h3⟩ : ∃ x, w2.alloc (i2 0 1) = x := ⟨_, rfl⟩
  obtain ⟨w4, h4⟩ : ∃ x, w3.alloc (i2 1 2) = x := ⟨_, rfl⟩
  obtain ⟨w5, h5⟩ : ∃ x, w4.alloc (i1 2) = x := ⟨_, rfl⟩
  obtain ⟨w6, h6⟩ : ∃ x, w5.alloc (i2 0 3) = x := ⟨_, rfl⟩
  have s1 : w1.heap.size = w.heap.size + 1 := by rw [← h1]; simp
  have s2 : w2.heap.size = w.heap.size + 1 + 1 := by rw [← h2]; simp [s1]
  have s3 : w3.heap.size = w.heap.size + 1 + 1 + 1 := by rw [← h3]; simp [s2]
  have s4 : w4.heap.size = w.heap.size + 1 + 1 + 1 + 1 := by rw [← h4]; simp [s3]
  have s5 : w5.heap.size = w.heap.size + 1 + 1 + 1 + 1 + 1 := by rw [← h5]; simp [s4]
  have s6 : w6.heap.size = w.heap.size + 1 + 1 + 1 + 1 + 1 + 1 := by rw [← h6]; simp [s5]
  have b1 : Below w.heap.size w w1 := by rw [← h1]; exact alloc_below _ _
  have b2 : Below w1.heap.size w1 w2 := by rw [← h2]; exact alloc_below _ _
  have b3 : Below w2.heap.size w2 w3 := by rw [← h3]; exact alloc_below _ _
  have b4 : Below w3.heap.size w3 w4 := by rw [← h4]; exact alloc_below _ _
  have b5 : Below w4.heap.size w4 w5 := by rw [← h5]; exact alloc_below _ _
  have b6 : Below w5.heap.size w5 w6 := by rw [← h6]; exact alloc_below _ _
  have c5 := below_then b5 b6
  have c4 := below_then b4 c5
  have c3 := below_then b3 c4
  have c2 := below_then b2 c3
  have l1 : IntsAt w1 (.slice (some ⟨w.heap.size, 0, none⟩) 3 3) [0, 1, 2] := by rw [← h1]; exact ints_lit w [0, 1, 2] _ rfl (by decide)
  have l2 : IntsAt w2 (.slice (some ⟨w1.heap.size, 0, none⟩) 1 1) [0] := by rw [← h2]; exact ints_lit w1 [0] _ rfl (by decide)
  have l3 : IntsAt w3 (.slice (some ⟨w2.heap.size, 0, none⟩) 2 2) [0, 1] := by rw [← h3]; exact ints_lit w2 [0, 1] _ rfl (by decide)
  have l4 : IntsAt w4 (.slice (some ⟨w3.heap.size, 0, none⟩) 2 2) [1, 2] := by rw [← h4]; exact ints_lit w3 [1, 2] _ rfl (by decide)
  have l5 : IntsAt w5 (.slice (some ⟨w4.heap.size, 0, none⟩) 1 1) [2] := by rw [← h5]; exact ints_lit w4 [2] _ rfl (by decide)
  have l6 : IntsAt w6 (.slice (some ⟨w5.heap.size, 0, none⟩) 2 2) [0, 3] := by rw [← h6]; exact ints_lit w5 [0, 3] _ rfl (by decide)
  rw [s1] at l2
  rw [s2] at l3
  rw [s3] at l4
  rw [s4] at l5
  rw [s5] at l6
  have hL := lists_lit w6 [.slice (some ⟨w.heap.size + 1, 0, none⟩) 1 1, .slice (some ⟨w.heap.size + 1 + 1, 0, none⟩) 2 2, .slice (some ⟨w.heap.size + 1 + 1 + 1, 0, none⟩) 2 2, .slice (some ⟨w.heap.size + 1 + 1 + 1 + 1, 0, none⟩) 1 1, .slice (some ⟨w.heap.size + 1 + 1 + 1 + 1 + 1, 0, none⟩) 2 2] [[0], [0, 1], [1, 2], [2], [0, 3]] rfl (fun j hj => by
    match j, hj with
    | 0, _ => exact l2.below c3
    | 1, _ => exact l3.below c4
    | 2, _ => exact l4.below c5
    | 3, _ => exact l5.below b6
    | 4, _ => exact l6)
  rw [s6] at hL
  have b7 := alloc_below w6 (.cells #[.slice (some ⟨w.heap.size + 1, 0, none⟩) 1 1, .slice (some ⟨w.heap.size + 1 + 1, 0, none⟩) 2 2, .slice (some ⟨w.heap.size + 1 + 1 + 1, 0, none⟩) 2 2, .slice (some ⟨w.heap.size + 1 + 1 + 1 + 1, 0, none⟩) 1 1, .slice (some ⟨w.heap.size + 1 + 1 + 1 + 1 + 1, 0, none⟩) 2 2] 22)
  refine ⟨_, below_then (below_then b1 c2) b7, (l1.below c2).below b7, hL, ?_⟩
  rw [h1, h2, h3, h4, h5, h6]

theorem equal_yes (xs : List Int) (vx vy : Value) (w : World) (hx : IntsAt w vx xs) (hy : IntsAt w vy xs) (lx : xs.length ≤ 1000000) :
    Calls Try.prog 22 #[vx, vy] w fun e w' => e = .returned (.bool true) ∧ Below w.heap.size w w' :=
  (equal_any xs xs true (by simp) vx vy w hx hy lx lx).mono fun e w' ⟨h, m, hm⟩ => ⟨h, by rw [hm]; exact below_drewN _ _⟩
set_option maxHeartbeats 4000000 in
theorem awake_any (w : World) : Calls Try.prog 13 #[] w fun e w' => e = .returned (.bool true) ∧ Below w.heap.size w w' := by
  have hmax := max3_zero
  go_enter Try.func13, Try.ntmps13
  go_wp2_with fail
  have bA := alloc_below w (i2 1 3)
  have bB := alloc_below (w.alloc (i2 1 3)) (i2 2 3)
  have s1 := (ints_lit w [1, 3] #[intV 1, intV 3] rfl (by decide)).below bB
  have s2 := ints_lit (w.alloc (i2 1 3)) [2, 3] #[intV 2, intV 3] rfl (by decide)
  rw [nblk_alloc] at s2
  have B1 := Lib.hid (below_then bA bB)
  refine (union_any [1, 3] [2, 3] _ ex_union _ _ _ s1 s2 (by decide) (by decide)).mono ?_
  rintro e w1 ⟨v1, rfl, h1, b1⟩
  have O1 := Lib.hid h1
  have B2 := Lib.hid (below_then B1.out b1)
  obtain ⟨a1, c1, rfl, _⟩ := h1
  clear bA bB s1 s2 b1
  go_wp2_with fail
  have bA := alloc_below w1 (i2 1 3)
  have s1 := ints_lit w1 [1, 3] #[intV 1, intV 3] rfl (by decide)
  have O2 := Lib.hid (O1.out.below bA)
  have B3 := Lib.hid (below_then B2.out bA)
  refine (comp_any 5 [1, 3] _ ex_comp _ _ s1 (by decide)).mono ?_
  rintro e w2 ⟨v2, rfl, h2, b2⟩
  have P2 := Lib.hid h2
  have O3 := Lib.hid (O2.out.below b2)
  have B4 := Lib.hid (below_then B3.out b2)
  obtain ⟨a2, c2, rfl, _⟩ := h2
  clear bA s1 b2
  go_wp2_with fail
  obtain ⟨W, hb, hT, hL, hW⟩ := ex_world w2
  rw [hW]
  have B5 := Lib.hid (below_then B4.out hb)
  have O4 := Lib.hid (O3.out.below hb)
  have P3 := Lib.hid (P2.out.below hb)
  clear hW hb
  refine (cover_any [0, 1, 2] [[0], [0, 1], [1, 2], [2], [0, 3]] _ _ W hT hL (by decide) (by decide) (by decide)).mono ?_
  rintro e w3 ⟨r, hr, v3, rfl, h3, b3⟩
  obtain rfl := ex_cov hr
  have Q3 := Lib.hid h3
  have B6 := Lib.hid (below_then B5.out b3)
  have O5 := Lib.hid (O4.out.below b3)
  have P4 := Lib.hid (P3.out.below b3)
  obtain ⟨a3, c3, rfl, _⟩ := h3
  clear hT hL hr b3
  go_wp2_with fail
  clear hmax
  have bA := alloc_below w3 (i3 1 2 3)
  have s1 := ints_lit w3 [1, 2, 3] #[intV 1, intV 2, intV 3] rfl (by decide)
  have B7 := Lib.hid (below_then B6.out bA)
  have P5 := Lib.hid (P4.out.below bA)
  have Q4 := Lib.hid (Q3.out.below bA)
  refine (equal_yes [1, 2, 3] _ _ _ (O5.out.below bA) s1 (by decide)).mono ?_
  rintro e w4 ⟨rfl, b4⟩
  have B8 := Lib.hid (below_then B7.out b4)
  have P6 := Lib.hid (P5.out.below b4)
  have Q5 := Lib.hid (Q4.out.below b4)
  clear bA s1 b4
  go_wp2_with fail
  have bA := alloc_below w4 (i3 0 2 4)
  have s1 := ints_lit w4 [0, 2, 4] #[intV 0, intV 2, intV 4] rfl (by decide)
  have B9 := Lib.hid (below_then B8.out bA)
  have Q6 := Lib.hid (Q5.out.below bA)
  refine (equal_yes [0, 2, 4] _ _ _ (P6.out.below bA) s1 (by decide)).mono ?_
  rintro e w5 ⟨rfl, b5⟩
  have B10 := Lib.hid (below_then B9.out b5)
  have Q7 := Lib.hid (Q6.out.below b5)
  clear bA s1 b5
  go_wp2_with fail
  have bA := alloc_below w5 (i2 0 2)
  have s1 := ints_lit w5 [0, 2] #[intV 0, intV 2] rfl (by decide)
  have B11 := Lib.hid (below_then B10.out bA)
  refine (equal_yes [0, 2] _ _ _ (Q7.out.below bA) s1 (by decide)).mono ?_
  rintro e w6 ⟨rfl, b6⟩
  have B12 := Lib.hid (below_then B11.out b6)
  clear bA s1 b6
  go_wp2
  go_ret
  exact ⟨rfl, B12.out⟩
end Go.Proofs.Ytdplcpnahahkaaa
