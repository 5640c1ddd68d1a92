/- Slices of elements. -/
import Derived.Test.YtjjdihkjkmhjnaaGpFirst
namespace Go.Proofs.Ytjjdihkjkmhjnaa
set_option linter.unusedSimpArgs false
set_option linter.unusedVariables false
set_option maxRecDepth 100000
open Go.RowKit Go.Deep

/-! ### one struct as a slice literal -/
theorem fold_set : ∀ (l : List Value) (k : Nat) (base : Array Value) (i : Nat), k + l.length ≤ base.size →
    ((l.zipIdx k).foldl (fun cs (p : Value × Nat) => cs.setIfInBounds (0 + p.2) p.1) base)[i]? = if k ≤ i ∧ i < k + l.length then l[i - k]? else base[i]?
  | [], k, base, i, _ => by
    rw [if_neg (by simp)]; rfl
  | v :: l, k, base, i, h => by
    rw [List.length_cons] at h
    rw [List.zipIdx_cons, List.foldl_cons, fold_set l (k + 1) _ i (by rw [Array.size_setIfInBounds]; omega), List.length_cons]
    by_cases h1 : i = k
    · subst h1
      rw [if_neg (by omega), if_pos (by omega), Nat.sub_self, Nat.zero_add]
      simp [show i < base.size by omega]
    · by_cases h2 : k + 1 ≤ i ∧ i < k + 1 + l.length
      · rw [if_pos h2, if_pos (by omega), show i - k = (i - (k + 1)) + 1 by omega, List.getElem?_cons_succ]
      · rw [if_neg h2, if_neg (by omega), Nat.zero_add]
        rw [Array.getElem?_setIfInBounds_ne (by omega)]
theorem fill_one (A base : Array Value) (n : Nat) (hA : A.size = n) (hb : base.size = n) : Instr.fill (fun i => some (i * n, n)) base [(0, .agg A)] = some A := by
  unfold Instr.fill
  simp only [Nat.zero_mul, Value.cells]
  rw [if_neg (by simp [Value.cells, hA, hb])]
  unfold Instr.fill
  congr 1
  apply Array.ext_getElem?
  intro i
  have := fold_set A.toList 0 base i (by simp [hA, hb])
  rw [← Array.foldl_toList, Array.toList_zipIdx, this]
  simp only [Nat.zero_le, true_and, Nat.zero_add, Array.length_toList, Nat.sub_zero, Array.getElem?_toList]
  split
  · rfl
  · rename_i h
    rw [Array.getElem?_eq_none (by omega), Array.getElem?_eq_none (by omega)]
theorem run_slice_one {P : Program} (w : World) (t e : TypeId) (A : Array Value) (ie : TypeInfo) (z : Value) (hu : P.underlying t = some (.slice e)) (hie : P.info? e = some ie) (hz : ie.zero = some z) (hs : ie.size = A.size) (h0 : 0 < A.size) (h24 : A.size ≤ 16777216) :
    (Instr.buildSlice t 1 #[(0, .agg A)]).run P w = .ok (.slice (some ⟨w.heap.size, 0, none⟩) 1 1) (w.alloc (.cells A e)) := by
  have hf := fill_one A ((Array.range A.size).map (z.cells[· % z.cells.size]!)) A.size rfl (by simp)
  have h1 : ¬ A.size = 0 := by omega
  have h2 : ¬ 16777216 < A.size := by omega
  simp [Instr.buildSlice, run_underlying hu, sizeOf, typeInfo, zeroValue, hie, hz, hs, h1, h2, hf, newRow]
theorem wpList_slice_one {P : Program} {ops : Array Oper} {rest : List Oper} {o : Oper} {a : Act} {w : World} {Q : Exit → Act → World → Prop} (hg : o.guard = none) (t e : TypeId) (x : Operand) (ho : o.op = .buildSlice t 1 #[(0, x)]) (A : Array Value) (hx : a.eval x = .agg A)
    (ie : TypeInfo) (z : Value) (hu : P.underlying t = some (.slice e)) (hie : P.info? e = some ie) (hz : ie.zero = some z) (hs : ie.size = A.size) (h0 : 0 < A.size) (h24 : A.size ≤ 16777216)
    (h : wpList P ops Q rest (a.put o.dst (.slice (some ⟨w.heap.size, 0, none⟩) 1 1)) (w.alloc (.cells A e))) : wpList P ops Q (o :: rest) a w :=
  wpList_plain hg fun _ hK => by
    have hp : (#[(0, x)].map fun (p : Nat × Operand) => (p.1, a.eval p.2)) = #[(0, .agg A)] := by simp [hx]
    unfold Oper.wp execOp
    simp only [ho, Sem.run_bind, hp, run_slice_one w t e A ie z hu hie hz hs h0 h24, Result.andThen_ok]
    exact hK _ _ h
/-! ### elements in a row -/
def elL (x : El) : List Value := cellL (elB x) (fun i => x.fits (UInt8.ofNat i)) x.isS
theorem elA_eq (x : El) : elA x = (elL x).toArray := rfl
theorem elL_length (x : El) : (elL x).length = 258 := cellL_length _ _ _
theorem elL_one (x : El) : ∀ v ∈ elL x, v.oneCell' = true := cellL_one _ _ _
def EAt (W : World) (v : Value) (l : List El) : Prop :=
  ∃ a cap, v = .slice a l.length cap ∧ (0 < l.length → ∃ b off, a = some ⟨b, off, none⟩ ∧ b < W.heap.size ∧ ∀ j (h : j < l.length), W.rangeAt b (off + j * 258) (elL l[j]))
theorem EAt.below {W W' : World} {v : Value} {l : List El} (h : EAt W v l) (hB : Below W.heap.size W W') : EAt W' v l := by
  obtain ⟨a, cap, rfl, hc⟩ := h
  refine ⟨a, cap, rfl, fun h0 => ?_⟩
  obtain ⟨b, off, rfl, hb, hcs⟩ := hc h0
  exact ⟨b, off, rfl, Nat.lt_of_lt_of_le hb hB.size, fun j hj i u hu => (hB.cell (p := ⟨b, _, none⟩) hb).trans (hcs j hj i u hu)⟩
theorem EAt.slice {W : World} {v : Value} {l : List El} (h : EAt W v l) : ∃ a cap, v = .slice a l.length cap := by
  obtain ⟨a, cap, rfl, _⟩ := h
  exact ⟨a, cap, rfl⟩
theorem EAt.get {W : World} {a : Option Addr} {n cap : Nat} {l : List El} (h : EAt W (.slice a n cap) l) {j : Nat} (hj : j < l.length) : ∃ b off, a = some ⟨b, off, none⟩ ∧ b < W.heap.size ∧ W.rangeAt b (off + j * 258) (elL l[j]) := by
  obtain ⟨a', cap', e, hc⟩ := h
  simp only [Value.slice.injEq] at e
  obtain ⟨rfl, _, _⟩ := e
  obtain ⟨b, off, rfl, hb, hcs⟩ := hc (by omega)
  exact ⟨b, off, rfl, hb, hcs j hj⟩
theorem EAt.nil (W : World) : EAt W (.slice none 0 0) [] := ⟨none, 0, rfl, fun h => by simp at h⟩
theorem flat_length : ∀ l : List El, (l.flatMap elL).length = l.length * 258
  | [] => rfl
  | x :: l => by rw [List.flatMap_cons, List.length_append, elL_length, flat_length l, List.length_cons]; omega
theorem flat_get : ∀ (l : List El) (j : Nat) (hj : j < l.length) (i : Nat), i < 258 → (l.flatMap elL)[j * 258 + i]? = (elL l[j])[i]?
  | x :: l, 0, _, i, hi => by rw [List.flatMap_cons, Nat.zero_mul, Nat.zero_add, List.getElem?_append_left (by rw [elL_length]; exact hi)]; rfl
  | x :: l, j + 1, hj, i, hi => by
    rw [List.flatMap_cons, List.getElem?_append_right (by rw [elL_length]; omega), elL_length, show (j + 1) * 258 + i - 258 = j * 258 + i by omega]
    exact flat_get l j (by simpa using hj) i hi
theorem EAt.of_own {W : World} {base : Nat} {v : Value} {l : List El} (h : W.ownsRow base 55 258 v l.length (l.flatMap elL)) : EAt W v l := by
  have hc := fun g hg => h.cells (g := g) hg
  have hlt := h.lt
  rcases h.2 with ⟨rfl, hn⟩ | ⟨g, cap, cur, rfl, _⟩
  · exact ⟨Option.none, 0, by rw [hn], fun h0 => by omega⟩
  · refine ⟨some ⟨g, 0, none⟩, cap, rfl, fun h0 => ⟨g, 0, rfl, (hlt g rfl).2, fun j hj i u hu => ?_⟩⟩
    have hi : i < 258 := by
      have := (List.getElem?_eq_some_iff.1 hu).1
      rwa [elL_length] at this
    have := hc g rfl (j * 258 + i) u (by rw [flat_get l j hj i hi]; exact hu)
    rw [Addr.add_mid] at this
    rw [show 0 + j * 258 + i = 0 + (j * 258 + i) by omega]
    exact this
theorem elL_text (x : El) : (elL x)[0]? = some (.string (elB x)) := rfl
theorem elL_byte (x : El) (c : UInt8) : (elL x)[1 + c.toNat]? = some (.bool (x.fits c)) := by
  rw [elL, cellL_byte _ _ _ (UInt8.toNat_lt c), UInt8.ofNat_toNat]
theorem elL_star (x : El) : (elL x)[257]? = some (.bool x.isS) := cellL_star _ _ _
end Go.Proofs.Ytjjdihkjkmhjnaa
