/- (*strings.Builder).String of a builder that holds something: what holds no bytes is as it was. -/
import Derived.Test.YtjcigjggfmfoeaaDoorCoBuild
import Derived.Lib.UnsafeStr
import Derived.BigRegionIn
namespace Go.Proofs.YtjcigjggfmfoeaaDoor
set_option linter.unusedSimpArgs false
set_option linter.unusedVariables false
set_option maxRecDepth 100000
open Go.RowKit
theorem cells_byte : Tryd.prog.cellsOf 5 = 1 := by kernel_rfl
theorem freeze_other (w : World) (p : Addr) (n k : Nat) (h : k ≠ p.block) : (w.freeze p n).heap[k]? = w.heap[k]? := by
  unfold World.freeze
  split
  · rfl
  · simp only [Array.getElem?_modify]
    rw [if_neg (by omega)]
theorem freeze_size (w : World) (p : Addr) (n : Nat) : (w.freeze p n).heap.size = w.heap.size := by
  unfold World.freeze
  split
  · rfl
  · simp
theorem KeepsOthers.freezeAt {w : World} {g n : Nat} {cur : Array Value} {t : TypeId} (hg : w.heap[g]? = some (.cells cur t (0, 0))) : KeepsOthers w (w.freeze ⟨g, 0, none⟩ n) :=
  ⟨by rw [freeze_size]; exact Nat.le_refl _, fun k o hk ho => by
    have hne : k ≠ g := by
      intro e
      rw [e, hg] at hk
      cases hk
      cases ho
    rw [freeze_other _ _ _ _ hne]; exact hk⟩
theorem Keep.freeze {w : World} {g n : Nat} {cur : Array Value} (hg : w.heap[g]? = some (.cells cur 5 (0, 0))) : Keep w (w.drew.freeze ⟨g, 0, none⟩ n) := fun k c t h h1 h2 => by
  have hne : k ≠ g := by
    intro e
    rw [e, hg] at h
    simp only [Option.some.injEq, Obj.cells.injEq] at h
    exact h1 h.2.1.symm
  rw [freeze_other _ _ _ _ hne]; exact h
set_option maxHeartbeats 1000000 in
theorem string_any (B b : Nat) (l : List UInt8) (w : World) (h : UsedB B b (Lib.byteCells l) w) (h0 : l ≠ []) :
    Calls Tryd.prog 38 #[.pointer (some ⟨b, 0, none⟩)] w fun e w' => e = .returned (.string ⟨l.toArray⟩) ∧ Below B w w' ∧ Keep w w' ∧ KeepsOthers w w' := by
  obtain ⟨hB, v, hbk, hown, hne⟩ := h
  have hl0 : l.length ≠ 0 := by simpa using h0
  rw [Lib.byteCells_length] at hown
  obtain ⟨g, cap, cur, rfl, hbg, hg, hnc, hcm, hcs, htake⟩ : ∃ g cap cur, v = .slice (some ⟨g, 0, none⟩) l.length cap ∧ B ≤ g ∧ w.heap[g]? = some (.cells cur 5 (0, 0)) ∧ l.length ≤ cap ∧ cap ≤ maxLen ∧ cur.size = cap * 1 ∧ cur.toList.take (l.length * 1) = Lib.byteCells l := by
    rcases hown.2 with ⟨_, hz⟩ | ⟨g, cap, cur, hv, r⟩
    · exact absurd hz hl0
    · exact ⟨g, cap, cur, hv, r⟩
  have c1 : w.drew.cell? ⟨b, 1, none⟩ = some (.slice (some ⟨g, 0, none⟩) l.length cap) := by
    have : w.drew.heap[b]? = some (.cells #[.pointer (some ⟨b, 0, none⟩), .slice (some ⟨g, 0, none⟩) l.length cap] 50 (0, 0)) := hbk
    rw [Lib.cell_of_heap this]; rfl
  have hSD : (Builtin.unsafeSliceData_ #[48] 80 #[.slice (some ⟨g, 0, none⟩) l.length cap]).run Tryd.prog w.drew = .ok (.pointer (some ⟨g, 0, none⟩)) w.drew :=
    Lib.run_unsafeSliceData_row _ _ _ _ _ _ (by omega)
  have hUS : (Builtin.unsafeString_ #[80, 3] 9 #[.pointer (some ⟨g, 0, none⟩), .int .i64 l.length]).run Tryd.prog w.drew = .ok (.string ⟨l.toArray⟩) (w.drew.freeze ⟨g, 0, none⟩ l.length) := by
    refine Lib.run_unsafeString_row w.drew 80 3 9 5 (by kernel_rfl) cells_byte g cur.size (by have hg' : w.drew.heap[g]? = some (.cells cur 5 (0, 0)) := hg; simp [World.shape?, hg']) l h0 (by omega) (by unfold maxLen at hcm; omega) ?_
    intro j x hx
    have := hown.cells (g := g) rfl j (.int .u8 x.toNat) (by simp [Lib.byteCells, hx])
    exact this
  have HE := Lib.hid (show Below B w (w.drew.freeze ⟨g, 0, none⟩ l.length) ∧ Keep w (w.drew.freeze ⟨g, 0, none⟩ l.length) ∧ KeepsOthers w (w.drew.freeze ⟨g, 0, none⟩ l.length) from
    ⟨Lib.below_freeze (Below.drew (Below.refl B w)) (p := ⟨g, 0, none⟩) hbg _, Keep.freeze hg, (KeepsOthers.drew w).trans (KeepsOthers.freezeAt (w := w.drew) (t := 5) hg)⟩)
  have mixed : Tryd.prog.follows Departure.mixedOrders = true := by kernel_rfl
  clear hown htake hg hbk hne
  go_enter Tryd.func38, Tryd.ntmps38
  go_wp2
  go_region_o
  all_goals (go_wp2; go_ret; exact ⟨rfl, HE.out.1, HE.out.2.1, HE.out.2.2⟩)
end Go.Proofs.YtjcigjggfmfoeaaDoor
