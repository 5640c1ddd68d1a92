/- What is wrong with a value alone: the program's and the reference's. -/
import Derived.Test.YtjcigjggfmfoeaaDoorCoVals
namespace Go.Proofs.YtjcigjggfmfoeaaDoor
set_option linter.unusedSimpArgs false
set_option linter.unusedVariables false
set_option maxRecDepth 100000
open Go.RowKit Go.Deep

theorem size_empty {t : ByteArray} : (t.size == 0) = t.toList.isEmpty := by
  rw [ByteArray.toList_eq]
  obtain ⟨⟨t⟩⟩ := t
  cases t <;> simp [ByteArray.size]

theorem nat_zero {m : Nat} : (m == 0) = !decide (0 < m) := by
  cases m <;> simp
theorem below_box (w : World) (o : Obj) (q : Nat) : Below w.heap.size w ((w.alloc o).drewN q) := ((Below.refl _ w).alloc (Nat.le_refl _) o).trans (below_drewN_n _ _ q)
theorem below_box0 (w : World) (o : Obj) : Below w.heap.size w (w.alloc o) := (Below.refl _ w).alloc (Nat.le_refl _) o

set_option maxHeartbeats 1000000 in
theorem oneKind_any (k n : Int) (t : ByteArray) (a : Option Addr) (m c : Nat) (hm : m ≤ 9223372036854775807) (w : World) :
    Calls Tryd.prog 56 #[.agg #[intV k, intV n, .string t, .slice a m c]] w fun e w' => e = .returned (.bool (oneKind k n t m)) ∧ Below w.heap.size w w' := by
  go_enter Tryd.func56, Tryd.ntmps56
  go_wp2
  go_quiet (fail)
  go_wp2
  all_goals
    go_ret
    refine ⟨ret_bool ?_, below_box _ _ _⟩
    unfold oneKind
    rw [size_empty, nat_zero]
    simp_all

theorem oneKind_at (k n : Int) (t : ByteArray) (a : Option Addr) (m c : Nat) (hm : m ≤ 9223372036854775807) (b : Bool) (hb : oneKind k n t m = b) (w : World) :
    Calls Tryd.prog 56 #[.agg #[intV k, intV n, .string t, .slice a m c]] w fun e w' => e = .returned (.bool b) ∧ Below w.heap.size w w' := by subst hb; exact oneKind_any k n t a m c hm w
set_option maxHeartbeats 1000000 in
theorem alone_any (k n : Int) (t : ByteArray) (a : Option Addr) (m c : Nat) (hm : m ≤ 9223372036854775807) (ht : t.size ≤ 9223372036854775807) (w : World) :
    Calls Tryd.prog 40 #[.agg #[intV k, intV n, .string t, .slice a m c]] w fun e w' => e = .returned (intV (single k n t m)) ∧ Below w.heap.size w w' := by
  obtain ⟨b, hb⟩ : ∃ b, oneKind k n t m = b := ⟨_, rfl⟩
  have HB := Lib.hid hb
  have HC := Lib.hid (fun w => oneKind_at k n t a m c hm b hb w)
  clear hb
  go_enter Tryd.func40, Tryd.ntmps40
  go_wp2_with fail
  refine (HC.out _).mono ?_
  rintro e w1 ⟨rfl, h1⟩
  have H1 := Lib.hid h1
  obtain ⟨hc, hf⟩ := bcell h1
  clear h1
  go_wp2
  all_goals
    go_ret
    refine ⟨ret_int ?_, below_seq (below_box0 w _) H1.out (by simp)⟩
    unfold single
    have hb := HB.out
    simp_all
    try omega

theorem alone_at (k n : Int) (t : ByteArray) (a : Option Addr) (m c : Nat) (hm : m ≤ 9223372036854775807) (ht : t.size ≤ 9223372036854775807) (r : Int) (hr : single k n t m = r) (w : World) :
    Calls Tryd.prog 40 #[.agg #[intV k, intV n, .string t, .slice a m c]] w fun e w' => e = .returned (intV r) ∧ Below w.heap.size w w' := by subst hr; exact alone_any k n t a m c hm ht w
set_option maxHeartbeats 1000000 in
theorem single_any (k n : Int) (t : ByteArray) (a : Option Addr) (m c : Nat) (hm : m ≤ 9223372036854775807) (ht : t.size ≤ 9223372036854775807) (w : World) :
    Calls Tryd.prog 57 #[.agg #[intV k, intV n, .string t, .slice a m c]] w fun e w' => e = .returned (intV (single k n t m)) ∧ Below w.heap.size w w' := by
  go_enter Tryd.func57, Tryd.ntmps57
  go_wp2
  all_goals
    go_ret
    refine ⟨ret_int ?_, below_box0 w _⟩
    unfold single oneKind
    rw [size_empty, nat_zero]
    simp_all
    try omega
theorem single_at (k n : Int) (t : ByteArray) (a : Option Addr) (m c : Nat) (hm : m ≤ 9223372036854775807) (ht : t.size ≤ 9223372036854775807) (r : Int) (hr : single k n t m = r) (w : World) :
    Calls Tryd.prog 57 #[.agg #[intV k, intV n, .string t, .slice a m c]] w fun e w' => e = .returned (intV r) ∧ Below w.heap.size w w' := by subst hr; exact single_any k n t a m c hm ht w
/-- the cells of a parameter's box, behind whatever leaves it alone -/
theorem box4 {w wr : World} {c0 c1 c2 c3 : Value} {t : TypeId} (hB : Below (w.heap.size + 1) (w.alloc (.cells #[c0, c1, c2, c3] t)) wr) :
    wr.cell? ⟨w.heap.size, 0, none⟩ = some c0 ∧ wr.cell? ⟨w.heap.size, 1, none⟩ = some c1 ∧ wr.cell? ⟨w.heap.size, 2, none⟩ = some c2 ∧ wr.cell? ⟨w.heap.size, 3, none⟩ = some c3 := by
  refine ⟨?_, ?_, ?_, ?_⟩ <;> rw [hB.cell (by simp)] <;> simp
end Go.Proofs.YtjcigjggfmfoeaaDoor
