/- slices.Clone and slices.Reverse over lists of integers. -/
import Derived.Test.YteceahbnafaeoaaSqRises
import Derived.Test.YteceahbnafaeoaaShelf
import Derived.Deep.AppendLies
import Derived.Lib.EndianMore
namespace Go.Proofs.Yteceahbnafaeoaa
set_option linter.unusedSimpArgs false
set_option linter.unusedVariables false
set_option maxRecDepth 100000
open Go.RowKit Go.Deep

theorem cells_d {W : World} {b off : Nat} {l : List Int} (h : ∀ j (h : j < l.length), W.cell? ⟨b, off + j, none⟩ = some (.int .i64 l[j])) : ∀ j, j < l.length → W.cell? ⟨b, off + j, none⟩ = some (.int .i64 (l.getD j 0)) := fun j hj => by
  rw [List.getD_eq_getElem?_getD, List.getElem?_eq_getElem hj]; exact h j hj
theorem clone_any (l : List Int) (hl : l.length ≤ 1000000) (v : Value) (w : World) (hv : IntsAt w v l) :
    Calls Try.prog 39 #[v] w fun e w' => ∃ u, e = .returned u ∧ w'.ownsRow w.heap.size 3 1 u l.length (l.map intV) ∧ Below w.heap.size w w' := by
  obtain ⟨a, cap, rfl, hc⟩ := hv
  cases a with
  | none =>
    have h0 : l = [] := by
      cases l with
      | nil => rfl
      | cons x l => obtain ⟨b, off, h, _⟩ := hc (by simp); cases h
    subst h0
    refine (Try.slices_Clone_int_nil 0 cap w).mono fun e w' ⟨h1, h2⟩ => ⟨_, h1, World.ownsRow_nil _ _ _ _, by rw [h2]; exact Below.refl _ _⟩
  | some a =>
    by_cases h0 : l = []
    · subst h0
      refine (Try.slices_Clone_int_zero a cap w).mono fun e w' ⟨u, h1, h2, _, h3⟩ => ⟨u, h1, h2, h3⟩
    · obtain ⟨b, off, e, hb, hcs⟩ := hc (List.length_pos_iff.2 h0)
      cases e
      refine (Try.slices_Clone_int b off l.length cap l w (Nat.le_refl _) (by omega) (cells_d hcs)).mono fun e w' ⟨u, h1, h2, _, h3⟩ => ⟨u, h1, ?_, h3⟩
      rw [List.take_length] at h2
      exact h2
theorem reverse_any (l : List Int) (hl : l.length ≤ 1000000) (B : Nat) (u : Value) (w : World) (hu : w.ownsRow B 3 1 u l.length (l.map intV)) :
    Calls Try.prog 40 #[u] w fun e w' => e = .returned (.tuple #[]) ∧ IntsAt w' u l.reverse ∧ Below B w w' := by
  by_cases h0 : l = []
  · subst h0
    obtain ⟨a, cap, rfl⟩ := (IntsAt.of_own (zs := []) hu).slice
    refine (Try.slices_Reverse_int_empty a cap w).mono fun e w' ⟨h1, h2⟩ => ⟨h1, IntsAt.empty _ _ _, by rw [h2]; exact Below.refl _ _⟩
  · have hi := IntsAt.of_own hu
    have hpos := List.length_pos_iff.2 h0
    obtain ⟨g, cap, rfl, hbg, hg⟩ := hu.form hpos
    have hcg : ∀ j, j < l.length → w.cell? ⟨g, 0 + j, none⟩ = some (.int .i64 (l.getD j 0)) := fun j hj => by
      rw [Nat.zero_add, hu.cellAt j (by omega)]; simp [hj, List.getD_eq_getElem?_getD]
    refine (Try.slices_Reverse_int_cells g 0 l.length cap l w (Nat.le_refl _) (by omega) hcg (fun j _ => by rw [Nat.zero_add]; exact hu.frozenAt j)).mono fun e w' ⟨h, q, hw⟩ => ⟨h, ?_, ?_⟩
    · rw [List.take_length] at hw
      subst hw
      refine ⟨some ⟨g, 0, none⟩, cap, by rw [List.length_reverse], fun _ => ⟨g, 0, rfl, ?_, fun j hj => ?_⟩⟩
      · have := (Lib.below_setCells_w (B := 0) (Nat.zero_le g) (l.reverse.map (Value.int .i64)) 0 (w.drewN q)).size
        exact Nat.lt_of_lt_of_le (hu.lt g rfl).2 this
      · have := World.cell?_setCells_in g (l.reverse.map (Value.int .i64)) 0 (w.drewN q) (fun i hi => by
          have h9 := hcg i (by simpa using hi)
          rw [show (w.drewN q).cell? ⟨g, 0 + i, none⟩ = w.cell? ⟨g, 0 + i, none⟩ from rfl, h9]; rfl) j (by simpa using hj)
        rw [this]; simp
    · subst hw
      exact (below_drewN_n B w q).trans (Lib.below_setCells_w (hu.lt g rfl).1 _ _ _)
end Go.Proofs.Yteceahbnafaeoaa
