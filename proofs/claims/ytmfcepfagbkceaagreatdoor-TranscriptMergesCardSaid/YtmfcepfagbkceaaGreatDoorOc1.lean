/- Stage 10 (transcript): MkOwn MkCat MkAt MkAwake, put together by merge10.py. -/
import Derived.Test.YtmfcepfagbkceaaGreatDoorOc
import Derived.Deep.AppendLies
import Derived.Lib.EndianMore
import Derived.Lib.AppendZerosOnto
import Derived.Laws.AppendOwnNone
import Derived.Lib.SliceRun
import Derived.Lib.Walk
namespace Go.Proofs.YtmfcepfagbkceaaGreatDoor
set_option linter.unusedSimpArgs false
set_option linter.unusedVariables false
set_option maxRecDepth 100000
open Go.RowKit Go.Deep
def OwnX (B : Nat) (W : World) (v : Value) (L : List Lx) : Prop := W.ownsRow B 52 4 v L.length (L.flatMap cellsX)
theorem OwnX.lex {B : Nat} {W : World} {v : Value} {L : List Lx} (h : OwnX B W v L) : LexAt W v L := LexAt.of_own h
theorem OwnX.below {B : Nat} {W W' : World} {v : Value} {L : List Lx} (h : OwnX B W v L) (hB : Below W.heap.size W W') : OwnX B W' v L := by
  rcases h.2 with ⟨rfl, hn⟩ | ⟨g, cap, cur, rfl, h1, h2, h3⟩
  · exact ⟨h.1, .inl ⟨rfl, hn⟩⟩
  · refine ⟨h.1, .inr ⟨g, cap, cur, rfl, h1, ?_, h3⟩⟩
    rw [hB.block g (Array.getElem?_eq_some_iff.1 h2).1]
    exact h2
theorem OwnX.mono {B B' : Nat} {W : World} {v : Value} {L : List Lx} (h : OwnX B W v L) (hb : B' ≤ B) : OwnX B' W v L := by
  rcases h.2 with h1 | ⟨g, cap, cur, h1, h2, h3⟩
  · exact ⟨h.1, .inl h1⟩
  · exact ⟨h.1, .inr ⟨g, cap, cur, h1, Nat.le_trans hb h2, h3⟩⟩
theorem alloc_below (w : World) (o : Obj) : Below w.heap.size w (w.alloc o) := (Below.refl _ w).alloc (Nat.le_refl _) o
theorem flatX_one (L : List Lx) : ∀ u ∈ L.flatMap cellsX, u.oneCell' = true := fun u hu => by
  obtain ⟨x, _, hx⟩ := List.mem_flatMap.1 hu
  unfold cellsX at hx
  simp only [List.mem_cons, List.not_mem_nil, or_false] at hx
  rcases hx with rfl | rfl | rfl | rfl <;> rfl
theorem addr_more (b off j : Nat) : (⟨b, off, none⟩ : Addr).add j = ⟨b, off + j, none⟩ := by unfold Addr.add; split <;> simp_all
theorem LexAt.news {W : World} {p : Addr} {n cap : Nat} {L : List Lx} (h : LexAt W (.slice (some p) n cap) L) : ∀ j u, (L.flatMap cellsX)[j]? = some u → W.cell? (p.add j) = some u := by
  intro j u hj
  have hjl : j < L.length * 4 := by rw [← flatX_len]; exact (List.getElem?_eq_some_iff.1 hj).1
  have hi : j / 4 < L.length := by omega
  obtain ⟨b, off, e, hb, h1, h2, h3, h4⟩ := h.elem hi
  cases e
  obtain ⟨g1, g2, g3, g4⟩ := flatX_at L (j / 4) hi
  rw [addr_more]
  have hm : j = j / 4 * 4 ∨ j = j / 4 * 4 + 1 ∨ j = j / 4 * 4 + 2 ∨ j = j / 4 * 4 + 3 := by omega
  rcases hm with hm | hm | hm | hm
  · rw [hm] at hj ⊢; rw [g1] at hj; cases hj; exact h1
  · rw [hm] at hj ⊢; rw [g2] at hj; cases hj; rw [← Nat.add_assoc]; exact h2
  · rw [hm] at hj ⊢; rw [g3] at hj; cases hj; rw [← Nat.add_assoc]; exact h3
  · rw [hm] at hj ⊢; rw [g4] at hj; cases hj; rw [← Nat.add_assoc]; exact h4
theorem info_lx : (Tryz.prog.info? 52).map (fun i => (i.zero, i.size, i.bytes)) = some (some (.agg #[intV 0, .string ⟨#[]⟩, .string ⟨#[]⟩, intV 0]), 4, 48) := by kernel_rfl
theorem run_append_owned_noneC {P : Program} {w : World} (base : Nat) (t ty e : TypeId) (i : TypeInfo) (size c : Nat) (ht : P.underlying t = some (.slice e)) (hi : P.info? e = some i)
    (v : Value) (n : Nat) (xs : List Value) (hown : w.ownsRow base e size v n xs) :
    (Builtin.append_ #[t, t] ty #[v, .slice none 0 c]).run P w = .ok v w := by
  rcases hown.2 with ⟨rfl, rfl⟩ | ⟨g, cap, cur, rfl, _, _, hnc, _⟩
  · simp [Builtin.append_, run_underlying ht, sizeOf, typeInfo, hi, Builtin.lenOf, Builtin.firstCells]
  · simp [Builtin.append_, run_underlying ht, sizeOf, typeInfo, hi, Builtin.lenOf, Builtin.firstCells, hnc, storeCells]
end Go.Proofs.YtmfcepfagbkceaaGreatDoor
namespace Go.Proofs.YtmfcepfagbkceaaGreatDoor
set_option linter.unusedSimpArgs false
set_option linter.unusedVariables false
set_option maxRecDepth 100000
open Go.RowKit Go.Deep
def LLAt (W : World) (v : Value) (L : List (List Lx)) : Prop :=
  ∃ a cap, v = .slice a L.length cap ∧ (0 < L.length → ∃ b off, a = some ⟨b, off, none⟩ ∧ b < W.heap.size ∧ ∀ j (h : j < L.length), ∃ u, W.cell? ⟨b, off + j, none⟩ = some u ∧ LexAt W u L[j])
theorem LLAt.below {W W' : World} {v : Value} {L : List (List Lx)} (h : LLAt W v L) (hB : Below W.heap.size W W') : LLAt W' v L := by
  obtain ⟨a, cap, rfl, hc⟩ := h
  refine ⟨a, cap, rfl, fun h0 => ?_⟩
  obtain ⟨b, off, ha, hb, hcs⟩ := hc h0
  refine ⟨b, off, ha, Nat.lt_of_lt_of_le hb hB.size, fun j hj => ?_⟩
  obtain ⟨u, h1, h2⟩ := hcs j hj
  exact ⟨u, (hB.cell (p := ⟨b, off + j, none⟩) hb).trans h1, h2.below hB⟩
theorem LLAt.slice {W : World} {v : Value} {L : List (List Lx)} (h : LLAt W v L) : ∃ a cap, v = .slice a L.length cap := by obtain ⟨a, c, rfl, _⟩ := h; exact ⟨a, c, rfl⟩
theorem LLAt.elem {W : World} {a : Option Addr} {n cap : Nat} {L : List (List Lx)} (h : LLAt W (.slice a n cap) L) {j : Nat} (hj : j < L.length) :
    ∃ b off u c, a = some ⟨b, off, none⟩ ∧ b < W.heap.size ∧ W.cell? ⟨b, off + j, none⟩ = some (.slice u L[j].length c) ∧ LexAt W (.slice u L[j].length c) L[j] := by
  obtain ⟨a', cap', e, hc⟩ := h
  cases e
  obtain ⟨b, off, rfl, hb, hcs⟩ := hc (by omega)
  obtain ⟨u, h1, h2⟩ := hcs j hj
  obtain ⟨u', c', rfl⟩ := h2.slice
  exact ⟨b, off, u', c', rfl, hb, h1, h2⟩
def setO (x : Lx) (o : Int) : Lx := ⟨x.k, x.n, x.v, o⟩
theorem flatX_set : ∀ (L : List Lx) (i : Nat) (h : i < L.length) (o : Int), (L.flatMap cellsX).set (i * 4 + 3) (intV o) = (L.set i (setO L[i] o)).flatMap cellsX
  | [], i, h, _ => absurd h (by simp)
  | x :: L, 0, _, o => by simp [List.flatMap_cons, cellsX, setO]
  | x :: L, i + 1, h, o => by
    have := flatX_set L i (by simpa using h) o
    rw [List.flatMap_cons, show (i + 1) * 4 + 3 = (i * 4 + 3) + (cellsX x).length by simp [cellsX]; omega, List.set_append_right _ _ (by omega), Nat.add_sub_cancel, this, List.set_cons_succ, List.flatMap_cons]
    rfl
theorem OwnX.form {B : Nat} {W : World} {v : Value} {L : List Lx} (h : OwnX B W v L) (hn : 0 < L.length) : ∃ g cap, v = .slice (some ⟨g, 0, none⟩) L.length cap ∧ B ≤ g ∧ g < W.heap.size := by
  rcases h.2 with ⟨rfl, h0⟩ | ⟨g, cap, cur, rfl, h1, h2, _⟩
  · omega
  · exact ⟨g, cap, rfl, h1, (Array.getElem?_eq_some_iff.1 h2).1⟩
theorem OwnX.slice {B : Nat} {W : World} {v : Value} {L : List Lx} (h : OwnX B W v L) : ∃ a cap, v = .slice a L.length cap := h.lex.slice
theorem OwnX.stored {B : Nat} {W : World} {g n cap : Nat} {L : List Lx} (h : OwnX B W (.slice (some ⟨g, 0, none⟩) n cap) L) {i : Nat} (hi : i < L.length) (o : Int) :
    OwnX B (W.setCell ⟨g, i * 4 + 3, none⟩ (intV o)) (.slice (some ⟨g, 0, none⟩) n cap) (L.set i (setO L[i] o)) ∧ Below B W (W.setCell ⟨g, i * 4 + 3, none⟩ (intV o)) := by
  obtain ⟨g', cap', e, hB, hg⟩ := h.form (by omega)
  cases e
  have h1 := (World.ownsRow.stored h (i * 4 + 3) (intV o)).1
  rw [flatX_set L i hi] at h1
  refine ⟨?_, (Below.refl _ _).setCell hB _⟩
  unfold OwnX
  rw [List.length_set]
  exact h1
end Go.Proofs.YtmfcepfagbkceaaGreatDoor
namespace Go.Proofs.YtmfcepfagbkceaaGreatDoor
set_option linter.unusedSimpArgs false
set_option linter.unusedVariables false
set_option maxRecDepth 100000
open Go.RowKit Go.Deep
end Go.Proofs.YtmfcepfagbkceaaGreatDoor
namespace Go.Proofs.YtmfcepfagbkceaaGreatDoor
set_option linter.unusedSimpArgs false
set_option linter.unusedVariables false
set_option maxRecDepth 100000
open Go.RowKit Go.Deep
end Go.Proofs.YtmfcepfagbkceaaGreatDoor
