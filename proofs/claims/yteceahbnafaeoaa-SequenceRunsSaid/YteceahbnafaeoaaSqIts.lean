/- The items of a list and its weights, one by one; how much they weigh. -/
import Derived.Test.YteceahbnafaeoaaSqVals
import Derived.Test.YteceahbnafaeoaaSqRise
namespace Go.Proofs.Yteceahbnafaeoaa

theorem toWlen (ws : List Int) : (toW ws).length = ws.length := by simp [toW]
/-- the greatest weight from an index on -/
def fr (l ws : List Int) (i : Nat) : Nat := (ws.getD i 0).toNat + best (some (at0 l i)) ((its 0 l (toW ws)).drop (i + 1))
theorem its_get : ∀ (k : Nat) (l : List Int) (ws : List Nat) (i : Nat) (h : i < (its k l ws).length), l.length = ws.length → ((its k l ws)[i]).i = k + i ∧ ((its k l ws)[i]).v = l.getD i 0 ∧ ((its k l ws)[i]).w = ws.getD i 0
  | _, [], _, i, h, _ => by simp [its] at h
  | _, _ :: _, [], i, h, _ => by simp [its] at h
  | k, x :: l, w :: ws, i, h, hl => by
    cases i with
    | zero => simp [its]
    | succ i =>
      have h2 : i < (its (k + 1) l ws).length := by simpa [its] using h
      obtain ⟨a, b, c⟩ := its_get (k + 1) l ws i h2 (by simpa using hl)
      simp only [its, List.getElem_cons_succ, List.getD_cons_succ]
      exact ⟨by omega, b, c⟩
theorem drop_its (l ws : List Int) (h : l.length = ws.length) (k : Nat) (hk : k < l.length) :
    ∃ c : It, (its 0 l (toW ws)).drop k = c :: (its 0 l (toW ws)).drop (k + 1) ∧ c.i = k ∧ c.v = at0 l k ∧ c.w + best (some c.v) ((its 0 l (toW ws)).drop (k + 1)) = fr l ws k := by
  have hw : l.length = (toW ws).length := by rw [toWlen]; exact h
  have hlen := its_len 0 l (toW ws) hw
  have hk2 : k < (its 0 l (toW ws)).length := by omega
  obtain ⟨a, b, c⟩ := its_get 0 l (toW ws) k hk2 hw
  refine ⟨_, List.drop_eq_getElem_cons hk2, by omega, ?_, ?_⟩
  · rw [b]; unfold at0; rw [Int.toNat_natCast]
  · unfold fr
    rw [b, c]
    congr 1
    · rw [List.getD_eq_getElem?_getD, List.getD_eq_getElem?_getD]
      unfold toW
      rw [List.getElem?_map, List.getElem?_eq_getElem (show k < ws.length by omega)]
      rfl
theorem best_wt : ∀ (z : List It) (b : Option Int), best b z ≤ wt z
  | [], _ => Nat.le_refl _
  | c :: z, b => by
    have h1 := best_wt z (some c.v)
    have h2 := best_wt z b
    have e : wt (c :: z) = c.w + wt z := by simp [wt]
    unfold best
    split <;> omega
theorem wt_its (m : Nat) : ∀ (k : Nat) (l : List Int) (ws : List Nat), (∀ x ∈ ws, x ≤ m) → wt (its k l ws) ≤ m * l.length
  | _, [], _, _ => by simp [its, wt]
  | _, _ :: _, [], _ => by simp [its, wt]
  | k, x :: l, w :: ws, h => by
    have ih := wt_its m (k + 1) l ws fun x hx => h x (by simp [hx])
    have h1 := h w (by simp)
    have e : wt (its k (x :: l) (w :: ws)) = w + wt (its (k + 1) l ws) := by simp [its, wt]
    rw [e, List.length_cons, Nat.mul_add]; omega
theorem wt_drop (z : List It) : ∀ k, wt (z.drop k) ≤ wt z := by
  induction z with
  | nil => intro k; simp
  | cons c z ih =>
    intro k
    cases k with
    | zero => exact Nat.le_refl _
    | succ k =>
      have e : wt (c :: z) = c.w + wt z := by simp [wt]
      have := ih k
      simp only [List.drop_succ_cons]; omega
end Go.Proofs.Yteceahbnafaeoaa
