/- Elements as the program holds them: 258 cells each. -/
import Derived.Test.YtjjdihkjkmhjnaaGpMath
import Derived.Test.YtjjdihkjkmhjnaaGlAwake
import Derived.Deep.MidRow
import Derived.Deep.WholeRow
import Derived.Laws.Rows
namespace Go.Proofs.Ytjjdihkjkmhjnaa
set_option linter.unusedSimpArgs false
set_option linter.unusedVariables false
set_option maxRecDepth 100000
open Go.RowKit Go.Deep

/-- a set of bytes, as cells -/
def rowL (S : Nat → Bool) : List Value := (List.range 256).map fun i => .bool (S i)
theorem rowL_length (S : Nat → Bool) : (rowL S).length = 256 := by simp [rowL]
theorem rowL_get {S : Nat → Bool} {i : Nat} (h : i < 256) : (rowL S)[i]? = some (.bool (S i)) := by simp [rowL, h]
theorem rowL_one (S : Nat → Bool) : ∀ v ∈ rowL S, v.oneCell' = true := by
  intro v hv
  rw [rowL, List.mem_map] at hv
  obtain ⟨i, _, rfl⟩ := hv
  rfl
theorem rowL_congr {S T : Nat → Bool} (h : ∀ i < 256, S i = T i) : rowL S = rowL T := by
  unfold rowL
  exact List.map_congr_left fun i hi => by rw [h i (by simpa using hi)]
theorem rowL_set (S : Nat → Bool) (k : Nat) (b : Bool) : (rowL S).set k (.bool b) = rowL (fun i => if i = k then b else S i) := by
  apply List.ext_getElem?
  intro i
  rw [List.getElem?_set]
  by_cases hi : i < 256
  · rw [rowL_get hi, rowL_get hi, rowL_length]
    by_cases e : k = i
    · subst e; simp [hi]
    · rw [if_neg e, if_neg (fun h => e h.symm)]
  · have h1 : ∀ T : Nat → Bool, (rowL T)[i]? = none := fun T => List.getElem?_eq_none (by rw [rowL_length]; omega)
    rw [h1, h1, rowL_length]
    by_cases e : k = i
    · subst e; simp [hi]
    · rw [if_neg e]
def rowA (S : Nat → Bool) : Array Value := (rowL S).toArray
theorem rowA_size (S : Nat → Bool) : (rowA S).size = 256 := by simp [rowA, rowL_length]
theorem rowA_set (S : Nat → Bool) (k : Nat) (b : Bool) : (rowA S).setIfInBounds k (.bool b) = rowA (fun i => if i = k then b else S i) := by
  rw [rowA, rowA, ← rowL_set]; simp
theorem rowA_get {S : Nat → Bool} {i : Nat} (h : i < 256) : (rowA S)[i]? = some (.bool (S i)) := by
  rw [rowA, List.getElem?_toArray, rowL_get h]
/-- an element's cells -/
def cellL (t : ByteArray) (S : Nat → Bool) (s : Bool) : List Value := .string t :: (rowL S ++ [.bool s])
def cellA (t : ByteArray) (S : Nat → Bool) (s : Bool) : Array Value := (cellL t S s).toArray
theorem cellL_length (t : ByteArray) (S : Nat → Bool) (s : Bool) : (cellL t S s).length = 258 := by simp [cellL, rowL_length]
theorem cellA_size (t : ByteArray) (S : Nat → Bool) (s : Bool) : (cellA t S s).size = 258 := by simp [cellA, cellL_length]
theorem cellL_text (t : ByteArray) (S : Nat → Bool) (s : Bool) : (cellL t S s)[0]? = some (.string t) := rfl
theorem cellL_byte (t : ByteArray) (S : Nat → Bool) (s : Bool) {i : Nat} (h : i < 256) : (cellL t S s)[1 + i]? = some (.bool (S i)) := by
  rw [cellL, Nat.add_comm, List.getElem?_cons_succ, List.getElem?_append_left (by rw [rowL_length]; exact h), rowL_get h]
theorem cellL_star (t : ByteArray) (S : Nat → Bool) (s : Bool) : (cellL t S s)[257]? = some (.bool s) := by
  rw [cellL, List.getElem?_cons_succ, List.getElem?_append_right (by rw [rowL_length]; exact Nat.le_refl _), rowL_length]; rfl
theorem cellL_one (t : ByteArray) (S : Nat → Bool) (s : Bool) : ∀ v ∈ cellL t S s, v.oneCell' = true := by
  intro v hv
  rw [cellL, List.mem_cons, List.mem_append, List.mem_singleton] at hv
  rcases hv with rfl | hv | rfl
  · rfl
  · exact rowL_one S v hv
  · rfl
theorem cellA_set (t : ByteArray) (S : Nat → Bool) (s : Bool) {k : Nat} (h : k < 256) (b : Bool) : (cellA t S s).setIfInBounds (1 + k) (.bool b) = cellA t (fun i => if i = k then b else S i) s := by
  rw [cellA, cellA, cellL, cellL, ← rowL_set, Nat.add_comm]
  simp only [List.setIfInBounds_toArray, List.set_cons_succ]
  rw [List.set_append_left _ _ (by rw [rowL_length]; exact h)]
def zeroA : Array Value := cellA ⟨#[]⟩ (fun _ => false) false
theorem info_el : (Try.prog.info? 55).map (fun i => (i.zero, i.size)) = some (some (.agg zeroA), 258) := by kernel_rfl
theorem info_row : (Try.prog.info? 53).map (fun i => (i.zero, i.size)) = some (some (.agg (rowA fun _ => false)), 256) := by kernel_rfl
theorem bytes_el : (Try.prog.info? 55).map (fun i => (i.zero, i.size, i.bytes)) = some (some (.agg zeroA), 258, 280) := by kernel_rfl
theorem built_text (t : ByteArray) : Try.prog.built 55 [(0, .string t)] = some (cellA t (fun _ => false) false) := by kernel_rfl
theorem built_none : Try.prog.built 55 [] = some zeroA := by kernel_rfl
theorem built_star : Try.prog.built 55 [(0, .string ⟨#[42]⟩), (1, .agg (rowA fun _ => true)), (2, .bool true)] = some (cellA ⟨#[42]⟩ (fun _ => true) true) := by kernel_rfl
theorem built_any : Try.prog.built 55 [(0, .string ⟨#[63]⟩), (1, .agg (rowA fun _ => true))] = some (cellA ⟨#[63]⟩ (fun _ => true) false) := by kernel_rfl
/-! ### whole rows -/
theorem below_setRow (W : World) (g : Nat) (cs : Array Value) {B : Nat} (h : B ≤ g) : Below B W (W.setRow g cs) :=
  ⟨rfl, rfl, rfl, by simp, fun k hk => setRow_other W g k cs (by omega)⟩
/-- a whole row is stored: the world behind it is only known by what it holds -/
theorem wpList_store_into {P : Program} {ops : Array Oper} {rest : List Oper} {o : Oper} {a : Act} {w : World} {Q : Exit → Act → World → Prop} (hgd : o.guard = none) (ty : TypeId) (x y : Operand) (ho : o.op = .store ty x y)
    (g : Nat) (cells : Array Value) (hx : a.eval x = .pointer (some ⟨g, 0, none⟩)) (hy : a.eval y = .agg cells)
    (t : TypeId) (old : Array Value) (hg : w.heap[g]? = some (.cells old t (0, 0))) (hi : (P.info? ty).map (·.size) = some cells.size)
    (hold : old.size = cells.size) (h1 : ∀ v ∈ cells.toList, v.oneCell' = true)
    (h : ∀ w', w'.heap[g]? = some (.cells cells t (0, 0)) → (∀ k, k ≠ g → w'.heap[k]? = w.heap[k]?) → (∀ B, B ≤ g → Below B w w') → wpList P ops Q rest (a.put o.dst undef) w') : wpList P ops Q (o :: rest) a w :=
  wpList_store_row hgd ty x y ho g cells hx hy t old hg hi hold (Array.all_eq_true_iff_forall_mem.2 fun v hv => h1 v (by simpa using hv))
    (h _ (setRow_heap w g old cells t (0, 0) hg) (fun k hk => setRow_other w g k cells hk) (fun B hB => below_setRow w g cells hB))
theorem cellA_one (t : ByteArray) (S : Nat → Bool) (s : Bool) : ∀ v ∈ (cellA t S s).toList, v.oneCell' = true := by
  intro v hv
  exact cellL_one t S s v (by simpa [cellA] using hv)
theorem rowA_one (S : Nat → Bool) : ∀ v ∈ (rowA S).toList, v.oneCell' = true := by
  intro v hv
  exact rowL_one S v (by simpa [rowA] using hv)
theorem size_el (t : ByteArray) (S : Nat → Bool) (s : Bool) : (Try.prog.info? 55).map (·.size) = some (cellA t S s).size := by rw [cellA_size]; exact (zero_of_info info_el).2
theorem size_row (S : Nat → Bool) : (Try.prog.info? 53).map (·.size) = some (rowA S).size := by rw [rowA_size]; exact (zero_of_info info_row).2
theorem zeroA_eq : zeroA = cellA ⟨#[]⟩ (fun _ => false) false := rfl
/-- a struct is built: its cells in a form of our own -/
theorem wpList_build_as {P : Program} {ops : Array Oper} {rest : List Oper} {o : Oper} {a : Act} {w : World} {Q : Exit → Act → World → Prop} (hg : o.guard = none) (t : TypeId) (parts : Array (Nat × Operand)) (ho : o.op = .build t parts)
    (vals : List (Nat × Value)) (hv : (parts.map fun (i, x) => (i, a.eval x)).toList = vals) (cells : Array Value) (hc : P.built t vals = some cells) (h : wpList P ops Q rest (a.put o.dst (.agg cells)) w) : wpList P ops Q (o :: rest) a w :=
  wpList_build hg t parts ho (by rw [hv, hc]; rfl) (by rw [hv, hc]; exact h)
/-- .. where an operation stands alone -/
theorem wp_store_into {P : Program} {o : Oper} {a : Act} {w : World} {K : Act → World → Prop} {Q : Exit → Act → World → Prop} (ty : TypeId) (x y : Operand) (ho : o.op = .store ty x y)
    (g : Nat) (cells : Array Value) (hx : a.eval x = .pointer (some ⟨g, 0, none⟩)) (hy : a.eval y = .agg cells)
    (t : TypeId) (old : Array Value) (hg : w.heap[g]? = some (.cells old t (0, 0))) (hi : (P.info? ty).map (·.size) = some cells.size)
    (hold : old.size = cells.size) (h1 : ∀ v ∈ cells.toList, v.oneCell' = true)
    (h : ∀ w', w'.heap[g]? = some (.cells cells t (0, 0)) → (∀ k, k ≠ g → w'.heap[k]? = w.heap[k]?) → (∀ B, B ≤ g → Below B w w') → K (a.put o.dst undef) w') : o.wp P a w K Q :=
  wp_store_row ty x y ho g cells hx hy t old hg hi hold (Array.all_eq_true_iff_forall_mem.2 fun v hv => h1 v (by simpa using hv))
    (h _ (setRow_heap w g old cells t (0, 0) hg) (fun k hk => setRow_other w g k cells hk) (fun B hB => below_setRow w g cells hB))
end Go.Proofs.Ytjjdihkjkmhjnaa
