/- The laws' at: lexemes with their right offsets. -/
import Derived.Test.YtdgihkgomfpmoaaGreatDoorMkCat
namespace Go.Proofs.YtdgihkgomfpmoaaGreatDoor
set_option linter.unusedSimpArgs false
set_option linter.unusedVariables false
set_option maxRecDepth 100000
open Go.RowKit Go.Deep

def sumX (L : List Lx) : Nat := (L.map lenX).sum
theorem sumX_take (L : List Lx) (k : Nat) (h : k < L.length) : sumX (L.take (k + 1)) = sumX (L.take k) + lenX L[k] := by
  unfold sumX
  rw [List.take_succ_eq_append_getElem h, List.map_append, List.sum_append]; simp
theorem sumX_bound (m : Nat) : ∀ L : List Lx, (∀ x ∈ L, lenX x ≤ m) → sumX L ≤ m * L.length
  | [], _ => by simp [sumX]
  | x :: L, h => by
    have h1 := sumX_bound m L (fun d hd => h d (by simp [hd]))
    have h2 := h x (by simp)
    unfold sumX at h1 ⊢
    rw [List.map_cons, List.sum_cons, List.length_cons, Nat.mul_add]; omega
theorem reAt_append : ∀ (A B : List Lx) (o : Nat), reAt o (A ++ B) = reAt o A ++ reAt (o + sumX A) B
  | [], B, o => by simp [reAt, sumX]
  | x :: A, B, o => by
    rw [List.cons_append, reAt, reAt_append A B, reAt, List.cons_append]
    congr 3
    unfold sumX
    rw [List.map_cons, List.sum_cons]; omega
theorem reAt_len : ∀ (L : List Lx) (o : Nat), (reAt o L).length = L.length
  | [], _ => rfl
  | x :: L, o => by rw [reAt, List.length_cons, List.length_cons, reAt_len L]
theorem reAt_step (L : List Lx) (i : Nat) (h : i < L.length) :
    (reAt 0 (L.take i) ++ L.drop i).set i (setO L[i] (sumX (L.take i) : Nat)) = reAt 0 (L.take (i + 1)) ++ L.drop (i + 1) := by
  have hl : (reAt 0 (L.take i)).length = i := by rw [reAt_len, List.length_take]; omega
  rw [List.drop_eq_getElem_cons h, List.set_append_right _ _ (by omega), hl, Nat.sub_self, List.set_cons_zero, List.take_succ_eq_append_getElem h, reAt_append, Nat.zero_add]
  simp [reAt, setO]
end Go.Proofs.YtdgihkgomfpmoaaGreatDoor
