/- Loops that hold ranges over functions: a counted loop, and the marks that the ranges leave. -/
import Derived.RangeFuncNested
import Derived.RangeFuncBound
import Derived.RangeFuncCalls
import Derived.RangeFuncLeaves
import Derived.RangeFuncBox
import Derived.ControlIn
import Derived.Test.YtipcelgoachjjaaDgVals
namespace Go.Proofs.Ytipcelgoachjjaa
set_option linter.unusedSimpArgs false
set_option linter.unusedVariables false
open Go.RowKit

theorem least_nat {p : Nat → Prop} (h : ∃ m, p m) : ∃ m, p m ∧ ∀ k, p k → m ≤ k := by
  obtain ⟨m, hm⟩ := h
  induction m using Nat.strongRecOn with
  | _ m ih =>
    by_cases hk : ∃ k, k < m ∧ p k
    · obtain ⟨k, h1, h2⟩ := hk
      exact ih k h1 h2
    · exact ⟨m, hm, fun k h2 => Nat.le_of_not_lt fun h3 => hk ⟨k, h3, h2⟩⟩
open Classical in
noncomputable def leastOf (p : Nat → Prop) : Nat := if h : ∃ m, p m then Classical.choose (least_nat h) else 0
theorem leastOf_spec {p : Nat → Prop} {m : Nat} (h : p m) : p (leastOf p) ∧ leastOf p ≤ m := by
  have hs := Classical.choose_spec (least_nat ⟨m, h⟩)
  unfold leastOf
  rw [dif_pos ⟨m, h⟩]
  exact ⟨hs.1, hs.2 m h⟩
/-- a loop whose rounds lower a number that stands nowhere -/
theorem wpIn_loop_down {F : Fence} {n : Nat} {P : Program} {c : Code} {Q : Exit → Act → World → Prop} {a : Act} {w : World} (I : Nat → Act → World → Prop) (m : Nat) (h0 : I m a w)
    (round : ∀ m a w, I m a w → c.wpIn F n P (Exit.then (fun a' w' => ∃ m', m' < m ∧ I m' a' w') Q) a w) : (Code.loop c).wpIn F n P Q a w := by
  refine wpIn_loop (fun a w => ∃ m, I m a w) (fun a w => leastOf fun m => I m a w) ⟨m, h0⟩ fun a w hI => ?_
  obtain ⟨m, hm⟩ := hI
  refine wpIn_mono (round _ a w (leastOf_spec (p := fun m => I m a w) hm).1) fun e a' w' h => ?_
  cases e with
  | normal =>
    obtain ⟨m', h1, h2⟩ := h
    exact ⟨⟨m', h2⟩, Nat.lt_of_le_of_lt (leastOf_spec (p := fun m => I m a' w') h2).2 h1⟩
  | _ => exact h

theorem grown_trans {A B C : World} {row : Option Nat} (h : A.grownBy B row) (k : B.grownBy C row) : A.grownBy C row :=
  ⟨k.os.trans h.os, k.tape.trans h.tape, k.output.trans h.output, Nat.le_trans h.size k.size, fun i hi hr => (k.block i (Nat.lt_of_lt_of_le hi h.size) hr).trans (h.block i hi hr)⟩
theorem grown_refl (A : World) (row : Option Nat) : A.grownBy A row := ⟨rfl, rfl, rfl, Nat.le_refl _, fun _ _ _ => rfl⟩
theorem grown_drew (A : World) (row : Option Nat) : A.grownBy A.drew row := ⟨rfl, rfl, rfl, Nat.le_refl _, fun _ _ _ => rfl⟩
/-- a later step that turns blocks from the end of A on, and row R -/
theorem grown_far {A B C : World} {row row' : Option Nat} (h : A.grownBy B row) (k : B.grownBy C row') (hr : ∀ r, row' = some r → some r = row ∨ A.heap.size ≤ r) : A.grownBy C row :=
  ⟨k.os.trans h.os, k.tape.trans h.tape, k.output.trans h.output, Nat.le_trans h.size k.size, fun i hi hne => (k.block i (Nat.lt_of_lt_of_le hi h.size) (fun e => by
    rcases hr i e.symm with h1 | h1
    · exact hne h1
    · omega)).trans (h.block i hi hne)⟩
theorem _root_.Go.World.grownBy.to_row {A B : World} (h : A.grownBy B none) (row : Option Nat) : A.grownBy B row := ⟨h.os, h.tape, h.output, h.size, fun k hk _ => h.block k hk (by simp)⟩
theorem grown_below {A B : World} {row : Option Nat} (h : A.grownBy B row) {M : Nat} (hM : M ≤ A.heap.size) (hr : ∀ r, row = some r → M ≤ r) : Below M A B := (Below.refl _ _).grown h hM hr
theorem grown_cell {A B : World} {row : Option Nat} (h : A.grownBy B row) {p : Addr} (hp : p.block < A.heap.size) (hr : some p.block ≠ row) : B.cell? p = A.cell? p := World.cell?_of_block (h.block p.block hp hr)

abbrev mark (D : Nat) : Deferred := { target := .collected D, args := #[] }
/-- what the ranges have left -/
structure Marks (B : Nat) (l : List Nat) (W : World) : Prop where
  nodup : l.Nodup
  each : ∀ D ∈ l, B ≤ D ∧ W.heap[D]? = some (.deferred (some []))
theorem Marks.nil (B : Nat) (W : World) : Marks B [] W := ⟨List.nodup_nil, by simp⟩
theorem Marks.keep {B : Nat} {l : List Nat} {W W' : World} (h : Marks B l W) (k : KeepsOthers W W') : Marks B l W' :=
  ⟨h.nodup, fun D hD => ⟨(h.each D hD).1, k.same _ _ (h.each D hD).2 rfl⟩⟩
theorem Marks.lt {B : Nat} {l : List Nat} {W : World} (h : Marks B l W) {D : Nat} (hD : D ∈ l) : D < W.heap.size := (Array.getElem?_eq_some_iff.1 (h.each D hD).2).1
theorem Marks.cons {B D : Nat} {l : List Nat} {W : World} (h : Marks B l W) (h1 : B ≤ D) (h2 : W.heap[D]? = some (.deferred (some []))) (h3 : D ∉ l) : Marks B (D :: l) W :=
  ⟨List.nodup_cons.2 ⟨h3, h.nodup⟩, fun E hE => by
    rcases List.mem_cons.1 hE with rfl | hE
    · exact ⟨h1, h2⟩
    · exact h.each E hE⟩
/-- blocks that are none of l, and all of cells, are as they were -/
structure Left (B : Nat) (W W' : World) : Prop where
  below : Below B W W'
  cells : ∀ (k : Nat) (o : Obj), W.heap[k]? = some o → o.isCells = true → W'.heap[k]? = some o
theorem Left.refl (B : Nat) (W : World) : Left B W W := ⟨Below.refl _ _, fun _ _ h _ => h⟩
theorem leaves_marks {F : Fence} {n : Nat} {P : Program} {fn : Func} {tmps : Array Value} {R : Ending → World → Prop} {B : Nat} : ∀ (l : List Nat) (W : World), Marks B l W →
    (∀ W', Left B W W' → LeavesInM F n P fn tmps R [] .returning W') → LeavesInM F n P fn tmps R (l.map mark) .returning W
  | [], W, _, h => h W (Left.refl _ _)
  | D :: l, W, hm, h => by
    obtain ⟨h1, h2⟩ := hm.each D (List.mem_cons_self ..)
    have hlt := (Array.getElem?_eq_some_iff.1 h2).1
    obtain ⟨hn1, hn2⟩ := List.nodup_cons.1 hm.nodup
    refine ⟨by simp, .inl ⟨D, _, rfl, run_takeDeferred h2, leaves_marks l _ ⟨hn2, fun E hE => ⟨(hm.each E (List.mem_cons_of_mem _ hE)).1, ?_⟩⟩ fun W' hL => h W' ⟨?_, fun k o hk ho => ?_⟩⟩⟩
    · rw [World.putObj_heap_other (fun e => hn1 (by rw [← e]; exact hE))]
      exact (hm.each E (List.mem_cons_of_mem _ hE)).2
    · have hp : Below B W (W.putObj D (.deferred none)) := ⟨rfl, rfl, rfl, by simp, fun k hk => World.putObj_heap_other (by omega)⟩
      exact hp.trans hL.below
    · refine hL.cells k o ?_ ho
      rw [World.putObj_heap_other (fun e => by subst e; rw [h2] at hk; cases hk; cases ho)]
      exact hk
end Go.Proofs.Ytipcelgoachjjaa
