/- heaviest, and Increasing and Weighted. -/
import Derived.Test.YteceahbnafaeoaaSpBehind
import Derived.Test.YteceahbnafaeoaaSpColl
import Derived.Laws.EntriesVeiled
namespace Go.Proofs.Yteceahbnafaeoaa
set_option linter.unusedSimpArgs false
set_option linter.unusedVariables false
set_option maxRecDepth 100000
open Go.RowKit Go.Shelf Go.Deep

theorem info_ptr : (Try.prog.info? 58).map (fun i => (i.zero, i.size, i.bytes)) = some (some (.pointer none), 1, 8) := by kernel_rfl
theorem heap5 (w : World) (o1 o2 o3 o4 o5 : Obj) : ∀ W, W = ((((w.alloc o1).alloc o2).alloc o3).alloc o4).alloc o5 →
    W.heap.size = w.heap.size + 5 ∧ W.heap[w.heap.size]? = some o1 ∧ W.heap[w.heap.size + 1]? = some o2 ∧ W.heap[w.heap.size + 2]? = some o3 ∧ W.heap[w.heap.size + 3]? = some o4 ∧ W.heap[w.heap.size + 4]? = some o5 := by
  rintro W rfl
  have s1 := nblk_alloc w o1
  have s2 := nblk_alloc (w.alloc o1) o2
  have s3 := nblk_alloc ((w.alloc o1).alloc o2) o3
  have s4 := nblk_alloc (((w.alloc o1).alloc o2).alloc o3) o4
  have s5 := nblk_alloc ((((w.alloc o1).alloc o2).alloc o3).alloc o4) o5
  have n1 := blk_alloc_new w o1
  have n2 := blk_alloc_new (w.alloc o1) o2
  have n3 := blk_alloc_new ((w.alloc o1).alloc o2) o3
  have n4 := blk_alloc_new (((w.alloc o1).alloc o2).alloc o3) o4
  have n5 := blk_alloc_new ((((w.alloc o1).alloc o2).alloc o3).alloc o4) o5
  rw [s1] at n2 s2
  rw [s2] at n3 s3
  rw [s3] at n4 s4
  rw [s4] at n5 s5
  refine ⟨by omega, ?_, ?_, ?_, ?_, n5⟩
  · rw [blk_alloc_lt _ _ _ (by omega), blk_alloc_lt _ _ _ (by omega), blk_alloc_lt _ _ _ (by omega), blk_alloc_lt _ _ _ (by omega)]; exact n1
  · rw [blk_alloc_lt _ _ _ (by omega), blk_alloc_lt _ _ _ (by omega), blk_alloc_lt _ _ _ (by omega)]; exact n2
  · rw [blk_alloc_lt _ _ _ (by omega), blk_alloc_lt _ _ _ (by omega)]; exact n3
  · rw [blk_alloc_lt _ _ _ (by omega)]; exact n4
theorem cell_of_blk {W : World} {b : Nat} {v : Value} {t : TypeId} (h : W.heap[b]? = some (.cells #[v] t)) : W.cell? ⟨b, 0, none⟩ = some v := by simp only [World.cell?, h]; rfl
set_option maxHeartbeats 4000000 in
theorem heavyP_any (l ws : List Int) (hlen : l.length = ws.length) (hl : l.length ≤ 1024) (hw : ∀ x ∈ ws, 0 ≤ x ∧ x ≤ 1048576) (v u : Value) (w : World) (hv : IntsAt w v l) (hu : IntsAt w u ws) :
    Calls Try.prog 45 #[v, u] w fun e w' => ∃ q, e = .returned (.pointer q) ∧ SubAt w' q (fh none (its 0 l (toW ws))) ∧ Below w.heap.size w w' := by
  have HF := Lib.hid (fun W H => behind_any l ws hlen hl hw v u w hv hu w.heap.size (w.heap.size + 3) (w.heap.size + 4) (w.heap.size + 1) (w.heap.size + 2) (l.length - 0) 0 rfl (Nat.zero_le _) (-1) rfl W H)
  have hmk := run_make_row' (P := Try.prog) 79 58 (.pointer none) 8 rfl info_ptr rfl
  have hmk1 := fun W => hmk .i64 .i64 l.length (by omega) (by omega) W
  obtain ⟨a, cap, rfl⟩ := hv.slice
  obtain ⟨au, cu, rfl⟩ := hu.slice
  clear hv hu hmk hlen hw
  go_enter Try.func45, Try.ntmps45
  go_wp2_with fail
  obtain ⟨W, hW⟩ : ∃ W, ((((w.alloc (.cells #[.slice a l.length cap] 22)).alloc (.cells #[.slice au ws.length cu] 22)).alloc (.cells (madeCells #[.pointer none] l.length) 58)).alloc (.cells #[.slice (some ⟨w.heap.size + 1 + 1, 0, none⟩) l.length l.length] 79)).alloc (.cells #[bhF w.heap.size (w.heap.size + 3) (w.heap.size + 4) (w.heap.size + 1)] 80) = W := ⟨_, rfl⟩
  have HW5 := Lib.hid (heap5 w _ _ _ _ _ W hW.symm)
  have hBW : Below w.heap.size w W := by
    rw [← hW]
    exact (((((Below.refl _ w).alloc (Nat.le_refl _) _).alloc (by rw [nblk_alloc]; omega) _).alloc (by rw [nblk_alloc, nblk_alloc]; omega) _).alloc (by rw [nblk_alloc, nblk_alloc, nblk_alloc]; omega) _).alloc (by rw [nblk_alloc, nblk_alloc, nblk_alloc, nblk_alloc]; omega) _
  have HBW := Lib.hid hBW
  rw [hW]
  have HV0 := Lib.hid (show Hv l.length (its 0 l (toW ws)) w w.heap.size (w.heap.size + 3) (w.heap.size + 4) (w.heap.size + 1) (w.heap.size + 2) (.slice a l.length cap) (.slice au ws.length cu) W from by
    obtain ⟨hs, h1, h2, h3, h4, h5⟩ := HW5.out
    refine ⟨hBW, by omega, by omega, by omega, by omega, by omega, by omega, by omega, by omega, by omega, cell_of_blk h1, cell_of_blk h4, cell_of_blk h5, cell_of_blk h2, fun _ => none, ?_, fun j _ a h => by cases h⟩
    exact RowN.of_row ⟨_, h3, by simp [size_madeCells], fun j hj => by simp [madeCells, hj, Nat.mod_one]⟩)
  clear hW hmk1 hBW
  refine (HF.out W HV0.out).mono ?_
  rintro e w1 ⟨q, rfl, hH, hq, _⟩
  have HR := Lib.hid (And.intro hH.B hq)
  clear hH hq
  go_wp2
  go_ret
  exact ⟨q, rfl, HR.out.2, HR.out.1⟩
end Go.Proofs.Yteceahbnafaeoaa
