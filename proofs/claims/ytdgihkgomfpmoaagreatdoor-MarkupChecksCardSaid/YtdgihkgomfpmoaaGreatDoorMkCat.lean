/- slices.Concat of lists of lexemes; the laws' shifted. -/
import Derived.Test.YtdgihkgomfpmoaaGreatDoorMkOwn
namespace Go.Proofs.YtdgihkgomfpmoaaGreatDoor
set_option linter.unusedSimpArgs false
set_option linter.unusedVariables false
set_option maxRecDepth 100000
open Go.RowKit Go.Deep

/-- lists of lists of lexemes -/
def LLAt (W : World) (v : Value) (L : List (List Lx)) : Prop :=
  ∃ a cap, v = .slice a L.length cap ∧ (0 < L.length → ∃ b off, a = some ⟨b, off, none⟩ ∧ b < W.heap.size ∧ ∀ j (h : j < L.length), ∃ u, W.cell? ⟨b, off + j, none⟩ = some u ∧ LexAt W u L[j])
theorem LLAt.below {W W' : World} {v : Value} {L : List (List Lx)} (h : LLAt W v L) (hB : Below W.heap.size W W') : LLAt W' v L := by
  obtain ⟨a, cap, rfl, hc⟩ := h
  refine ⟨a, cap, rfl, fun h0 => ?_⟩
  obtain ⟨b, off, ha, hb, hcs⟩ := hc h0
  refine ⟨b, off, ha, Nat.lt_of_lt_of_le hb hB.size, fun j hj => ?_⟩
  obtain ⟨u, h1, h2⟩ := hcs j hj
  exact ⟨u, (hB.cell (p := ⟨b, off + j, none⟩) hb).trans h1, h2.below hB⟩
theorem LLAt.slice {W : World} {v : Value} {L : List (List Lx)} (h : LLAt W v L) : ∃ a cap, v = .slice a L.length cap := by obtain ⟨a, c, rfl, _⟩ := h; exact ⟨a, c, rfl⟩
theorem LLAt.elem {W : World} {a : Option Addr} {n cap : Nat} {L : List (List Lx)} (h : LLAt W (.slice a n cap) L) {j : Nat} (hj : j < L.length) :
    ∃ b off u c, a = some ⟨b, off, none⟩ ∧ b < W.heap.size ∧ W.cell? ⟨b, off + j, none⟩ = some (.slice u L[j].length c) ∧ LexAt W (.slice u L[j].length c) L[j] := by
  obtain ⟨a', cap', e, hc⟩ := h
  cases e
  obtain ⟨b, off, rfl, hb, hcs⟩ := hc (by omega)
  obtain ⟨u, h1, h2⟩ := hcs j hj
  obtain ⟨u', c', rfl⟩ := h2.slice
  exact ⟨b, off, u', c', rfl, hb, h1, h2⟩
theorem ll_lit (w : World) (us : List Value) (L : List (List Lx)) (hl : us.length = L.length) (hI : ∀ j (h : j < L.length), LexAt w (us[j]'(by omega)) L[j]) : LLAt (w.alloc (.cells us.toArray 24)) (.slice (some ⟨w.heap.size, 0, none⟩) L.length L.length) L := by
  refine ⟨_, _, rfl, fun h0 => ⟨_, _, rfl, by simp, fun j hj => ⟨us[j]'(by omega), ?_, (hI j hj).below (alloc_below _ _)⟩⟩⟩
  rw [Nat.zero_add, World.cell?_alloc_new]
  simp [hl, hj]
theorem flat_succ {α : Type} (L : List (List α)) (k : Nat) (h : k < L.length) : (L.take (k + 1)).flatten = (L.take k).flatten ++ L[k] := by
  rw [List.take_succ_eq_append_getElem h, List.flatten_append]; simp
theorem flat_take {α : Type} (L : List (List α)) (k : Nat) : (L.take k).flatten.length ≤ L.flatten.length := by
  have h : L.flatten = (L.take k).flatten ++ (L.drop k).flatten := by rw [← List.flatten_append, List.take_append_drop]
  rw [h, List.length_append]; omega
/- a lexeme's offset is stored -/
def setO (x : Lx) (o : Int) : Lx := ⟨x.k, x.n, x.v, o⟩
theorem flatX_set : ∀ (L : List Lx) (i : Nat) (h : i < L.length) (o : Int), (L.flatMap cellsX).set (i * 4 + 3) (intV o) = (L.set i (setO L[i] o)).flatMap cellsX
  | [], i, h, _ => absurd h (by simp)
  | x :: L, 0, _, o => by simp [List.flatMap_cons, cellsX, setO]
  | x :: L, i + 1, h, o => by
    have := flatX_set L i (by simpa using h) o
    rw [List.flatMap_cons, show (i + 1) * 4 + 3 = (i * 4 + 3) + (cellsX x).length by simp [cellsX]; omega, List.set_append_right _ _ (by omega), Nat.add_sub_cancel, this, List.set_cons_succ, List.flatMap_cons]
    rfl
theorem OwnX.form {B : Nat} {W : World} {v : Value} {L : List Lx} (h : OwnX B W v L) (hn : 0 < L.length) : ∃ g cap, v = .slice (some ⟨g, 0, none⟩) L.length cap ∧ B ≤ g ∧ g < W.heap.size := by
  rcases h.2 with ⟨rfl, h0⟩ | ⟨g, cap, cur, rfl, h1, h2, _⟩
  · omega
  · exact ⟨g, cap, rfl, h1, (Array.getElem?_eq_some_iff.1 h2).1⟩
theorem OwnX.slice {B : Nat} {W : World} {v : Value} {L : List Lx} (h : OwnX B W v L) : ∃ a cap, v = .slice a L.length cap := h.lex.slice
theorem OwnX.stored {B : Nat} {W : World} {g n cap : Nat} {L : List Lx} (h : OwnX B W (.slice (some ⟨g, 0, none⟩) n cap) L) {i : Nat} (hi : i < L.length) (o : Int) :
    OwnX B (W.setCell ⟨g, i * 4 + 3, none⟩ (intV o)) (.slice (some ⟨g, 0, none⟩) n cap) (L.set i (setO L[i] o)) ∧ Below B W (W.setCell ⟨g, i * 4 + 3, none⟩ (intV o)) := by
  obtain ⟨g', cap', e, hB, hg⟩ := h.form (by omega)
  cases e
  have h1 := (World.ownsRow.stored h (i * 4 + 3) (intV o)).1
  rw [flatX_set L i hi] at h1
  refine ⟨?_, (Below.refl _ _).setCell hB _⟩
  unfold OwnX
  rw [List.length_set]
  exact h1
theorem shift_step (d : Int) (L : List Lx) (i : Nat) (h : i < L.length) :
    (((L.take i).map fun x => setO x (x.o + d)) ++ L.drop i).set i (setO L[i] (L[i].o + d)) = ((L.take (i + 1)).map fun x => setO x (x.o + d)) ++ L.drop (i + 1) := by
  have hl : ((L.take i).map fun x => setO x (x.o + d)).length = i := by rw [List.length_map, List.length_take]; omega
  rw [List.drop_eq_getElem_cons h, List.set_append_right _ _ (by omega), hl, Nat.sub_self, List.set_cons_zero, List.take_succ_eq_append_getElem h, List.map_append]
  simp
end Go.Proofs.YtdgihkgomfpmoaaGreatDoor
