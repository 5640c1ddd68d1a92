/- Inversions: how many there are at most, from an index on. -/
import Derived.Test.YteceahbnafaeoaaSqInv
namespace Go.Proofs.Yteceahbnafaeoaa

theorem inv_bound (l : List Int) : invR l ≤ l.length * l.length := by
  induction l with
  | nil => simp [invR]
  | cons x l ih =>
    have := List.countP_le_length (p := fun y => decide (y < x)) (l := l)
    rw [invR, List.length_cons, Nat.add_mul, Nat.mul_add]
    omega
theorem inv_drop (l : List Int) (i : Nat) (h : i < l.length) : invR (l.drop i) = (l.drop (i + 1)).countP (fun y => decide (y < l[i])) + invR (l.drop (i + 1)) := by
  rw [List.drop_eq_getElem_cons h, invR]
theorem count_drop (l : List Int) (x : Int) (k : Nat) (h : k < l.length) : (l.drop k).countP (fun y => decide (y < x)) = (if l[k] < x then 1 else 0) + (l.drop (k + 1)).countP (fun y => decide (y < x)) := by
  rw [List.drop_eq_getElem_cons h, List.countP_cons]
  by_cases hq : l[k] < x
  · rw [if_pos (by simpa using hq), if_pos hq]; omega
  · rw [if_neg (by simpa using hq), if_neg hq]; omega
end Go.Proofs.Yteceahbnafaeoaa
