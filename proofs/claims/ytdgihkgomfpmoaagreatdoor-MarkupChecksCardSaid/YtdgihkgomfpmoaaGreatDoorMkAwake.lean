/- The example of the chapter, the program's contracts given. -/
import Derived.Test.YtdgihkgomfpmoaaGreatDoorMkAt
namespace Go.Proofs.YtdgihkgomfpmoaaGreatDoor
set_option linter.unusedSimpArgs false
set_option linter.unusedVariables false
set_option maxRecDepth 100000
open Go.RowKit Go.Deep

def exS : Bs := [100, 101, 60, 97, 100, 100, 32, 49, 62, 117, 115, 60, 47, 97, 100, 100, 62, 60, 108, 98, 47, 62]
def exL : List Lx := [⟨1, [], [100, 101], 0⟩, ⟨2, [97, 100, 100], [49], 2⟩, ⟨1, [], [117, 115], 9⟩, ⟨3, [97, 100, 100], [], 11⟩, ⟨4, [108, 98], [], 17⟩]
theorem ex_scan : scanR exS = (exL, 0) := by decide +kernel
theorem ex_print : printR exL = (exS, 0) := by decide +kernel
theorem ex_b : LxB exL := by
  refine ⟨by decide, fun x hx => ?_⟩
  unfold exL at hx
  simp only [List.mem_cons, List.not_mem_nil, or_false] at hx
  unfold maxLen I64
  rcases hx with rfl | rfl | rfl | rfl | rfl <;> simp
theorem scan_at (H : MkOk) (s : Bs) (r : List Lx) (e : Int) (h : scanR s = (r, e)) (hl : s.length ≤ maxLen) (w : World) [T w] :
    Calls Tryz.prog 7 #[sV s] w fun en w' => ∃ v, en = .returned (.tuple #[v, intV e]) ∧ LexAt w' v r ∧ Below w.heap.size w w' := by
  refine (H.scan s w hl).mono fun en w' ⟨v, h1, h2, h3⟩ => ⟨v, ?_, ?_, h3⟩
  · rw [h1, h]
  · rw [h] at h2; exact h2
theorem print_at (H : MkOk) (L : List Lx) (s : Bs) (e : Int) (h : printR L = (s, e)) (hb : LxB L) (v : Value) (w : World) [T w] (hv : LexAt w v L) :
    Calls Tryz.prog 16 #[v] w fun en w' => en = .returned (.tuple #[sV s, intV e]) ∧ Below w.heap.size w w' := by
  refine (H.print L v w hv hb).mono fun en w' ⟨h1, h2⟩ => ⟨?_, h2⟩
  rw [h1, h]
theorem check_at (H : MkOk) (L : List Lx) (e : Int) (h : chkR L = e) (hb : LxB L) (v : Value) (w : World) [T w] (hv : LexAt w v L) :
    Calls Tryz.prog 20 #[v] w fun en w' => en = .returned (intV e) ∧ Below w.heap.size w w' := by
  refine (H.check L v w hv hb).mono fun en w' ⟨h1, h2⟩ => ⟨?_, h2⟩
  rw [h1, h]
theorem nested_at (H : MkOk) (L : List Lx) (e : Int) (h : nestR L = e) (hb : LxB L) (v : Value) (w : World) [T w] (hv : LexAt w v L) :
    Calls Tryz.prog 22 #[v] w fun en w' => en = .returned (intV e) ∧ Below w.heap.size w w' := by
  refine (H.nested L v w hv hb).mono fun en w' ⟨h1, h2⟩ => ⟨?_, h2⟩
  rw [h1, h]
theorem find_at' (H : MkOk) (L : List Lx) (i k e : Int) (h : findR L i = (k, e)) (hb : LxB L) (hi : I64 i) (v : Value) (w : World) [T w] (hv : LexAt w v L) :
    Calls Tryz.prog 18 #[v, intV i] w fun en w' => en = .returned (.tuple #[intV k, intV e]) ∧ Below w.heap.size w w' := by
  refine (H.find L i v w hv hb hi).mono fun en w' ⟨h1, h2⟩ => ⟨?_, h2⟩
  rw [h1, h]
theorem strip_at (H : MkOk) (s t : Bs) (e : Int) (h : stripR s = (t, e)) (hl : s.length ≤ maxLen) (w : World) [T w] :
    Calls Tryz.prog 9 #[sV s] w fun en w' => en = .returned (.tuple #[sV t, intV e]) ∧ Below w.heap.size w w' := by
  refine (H.strip s w hl).mono fun en w' ⟨h1, h2⟩ => ⟨?_, h2⟩
  rw [h1, h]
theorem same_at (xs ys : List Lx) (r : Bool) (h : decide (xs = ys) = r) (vx vy : Value) (w : World) (hx : LexAt w vx xs) (hy : LexAt w vy ys) (lx : xs.length ≤ 1000000) (ly : ys.length ≤ 1000000) :
    Calls Tryz.prog 11 #[vx, vy] w fun e w' => e = .returned (.bool r) ∧ Below w.heap.size w w' := by
  rw [← h]
  exact same_any xs ys vx vy w hx hy lx ly
set_option maxHeartbeats 4000000 in
theorem awake_any (H : MkOk) (w : World) [T w] : Calls Tryz.prog 6 #[] w fun e w' => e = .returned (.bool true) ∧ Below w.heap.size w w' := by
  go_enter Tryz.func6, Tryz.ntmps6
  go_wp2_with fail
  refine (scan_at H exS exL 0 ex_scan (by decide) w).mono ?_
  rintro e w1 ⟨v1, rfl, h1, b1⟩
  have O1 := Lib.hid h1
  try have tO1 := T.below O1.out
  have B1 := Lib.hid b1
  try have tB1 := T.below B1.out
  obtain ⟨a1, c1, rfl⟩ := h1.slice
  clear b1 h1
  go_wp2_with fail
  have bA := alloc_below w1 (.cells (exL.flatMap cellsX).toArray 41)
  have s1 := (lex_lit w1 exL (exL.flatMap cellsX).toArray (by simp) (by decide)).lex
  have O2 := Lib.hid (O1.out.below bA)
  have P2 := Lib.hid s1
  have B2 := Lib.hid (below_then B1.out bA)
  try have tB2 := T.below B2.out
  refine (print_at H exL exS 0 ex_print ex_b _ _ s1).mono ?_
  rintro e w2 ⟨rfl, b2⟩
  have O3 := Lib.hid (O2.out.below b2)
  have P3 := Lib.hid (P2.out.below b2)
  have B3 := Lib.hid (below_then B2.out b2)
  try have tB3 := T.below B3.out
  clear b2 bA s1
  go_wp2_with fail
  refine (same_at exL exL true (decide_eq_true rfl) _ _ _ O3.out P3.out (by decide) (by decide)).mono ?_
  rintro e w3 ⟨rfl, b3⟩
  have B4 := Lib.hid (below_then B3.out b3)
  try have tB4 := T.below B4.out
  clear b3
  go_wp2
  go_ret
  exact ⟨ret_bool (by rw [ByteArray.toList_eq]; rfl), B4.out⟩
end Go.Proofs.YtdgihkgomfpmoaaGreatDoor
