/- allBytes. -/
import Derived.Test.YtjjdihkjkmhjnaaGpEl
import Derived.Lib.Hide
namespace Go.Proofs.Ytjjdihkjkmhjnaa
set_option linter.unusedSimpArgs false
set_option linter.unusedVariables false
set_option maxRecDepth 100000
open Go.RowKit Go.Deep

set_option maxHeartbeats 1000000 in
theorem allBytes_any (w : World) :
    Calls Try.prog 69 #[] w fun e w' => e = .returned (.agg (rowA fun _ => true)) ∧ Below w.heap.size w w' := by
  obtain ⟨hz, hi⟩ := zero_of_info info_row
  have HI := Lib.hid hi
  clear hi
  go_enter Try.func69, Try.ntmps69
  go_wp2
  go_loopw [3] (fun v3 wr => ∃ k : Nat, k ≤ 256 ∧ v3 = .int .i64 k ∧ wr = (w.alloc (.cells (rowA fun _ => false) 53)).alloc (.cells (rowA fun i => decide (i < k)) 53)) (fun v3 _ => 256 - (intOf v3).toNat)
  case atStart => exact ⟨0, by omega, rfl, rfl⟩
  case round =>
    obtain ⟨k, hk, rfl, rfl⟩ := hrel
    by_cases hlt : k < 256
    · have hc := rowA_get (S := fun i => decide (i < k)) hlt
      have hk0 : (k : Int) < 256 := by omega
      go_wp2
      refine ⟨⟨k + 1, by omega, by go_num, ?_⟩, by simp [intOf]; omega⟩
      rw [rowA_set]
      have : (rowA fun i => if i = k then true else decide (i < k)) = rowA fun i => decide (i < k + 1) := by
        unfold rowA
        rw [rowL_congr]
        intro i hi
        by_cases e : i = k
        · subst e; simp
        · rw [if_neg e]; exact decide_eq_decide.2 (by omega)
      rw [this]
    · obtain rfl : k = 256 := by omega
      have hk0 : ¬ ((256 : Nat) : Int) < 256 := by omega
      have ht : (rowA fun i => decide (i < 256)) = rowA fun _ => true := by
        unfold rowA
        rw [rowL_congr]
        intro i hi
        exact decide_eq_true hi
      rw [ht]
      clear ht
      have HG := Lib.hid (heap_alloc2_old w (.cells (rowA fun _ => false) 53) (.cells (rowA fun _ => true) 53))
      have HG2 := Lib.hid (heap_alloc2_new w (.cells (rowA fun _ => false) 53) (.cells (rowA fun _ => true) 53))
      have HB := Lib.hid (((Below.refl w.heap.size w).alloc (Nat.le_refl _) (.cells (rowA fun _ => false) 53)).alloc (by simp) (.cells (rowA fun _ => true) 53))
      generalize (w.alloc (.cells (rowA fun _ => false) 53)).alloc (.cells (rowA fun _ => true) 53) = W at *
      go_wp2_with (first
        | (refine wpList_load_row rfl 53 (.tmp 1) rfl (w.heap.size + 1) rfl 53 (rowA fun _ => true) (0, 0) _ HG2.out Try.underlying53 rfl (size_row _) ?_)
        | (refine wpList_store_into rfl 53 (.tmp 0) (.tmp 9) rfl w.heap.size (rowA fun _ => true) rfl rfl 53 (rowA fun _ => false) HG.out (size_row _) (by rw [rowA_size, rowA_size]) (rowA_one _) ?_; intro W1 g1 g2 g3))
      refine bodyPost_ret (v := .agg (rowA fun _ => true)) ?_ rfl ⟨rfl, HB.out.trans (g3 _ (Nat.le_refl _))⟩
      exact results_cell_row rfl _ _ _ _ _ _ _ rfl g1 Try.underlying53 rfl (size_row _)
end Go.Proofs.Ytjjdihkjkmhjnaa
