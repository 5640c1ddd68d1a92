/- Runs, from an index on. -/
import Derived.Test.YteceahbnafaeoaaSqVer
import Derived.Test.YteceahbnafaeoaaSqInv
namespace Go.Proofs.Yteceahbnafaeoaa

/-- the runs from an index on, where a run begins -/
def rf (l : List Int) (f : Nat) : List (List Int) := match l.drop f with
  | [] => []
  | x :: t => rn (f + 1) f x t
theorem runs_rf (l : List Int) : runsR l = rf l 0 := by cases l <;> rfl
theorem rf_end (l : List Int) : rf l l.length = [] := by unfold rf; rw [List.drop_length]
theorem rf_at (l : List Int) (f : Nat) (h : f < l.length) : rf l f = rn (f + 1) f (ix l f) (l.drop (f + 1)) := by
  unfold rf
  rw [List.drop_eq_getElem_cons h, ix_get l f h]
theorem rn_go (l : List Int) (f e : Nat) (h : e < l.length) (hf : fol (ix l (e - 1)) (ix l e) = true) : rn e f (ix l (e - 1)) (l.drop e) = rn (e + 1) f (ix l e) (l.drop (e + 1)) := by
  rw [List.drop_eq_getElem_cons h, ← ix_get l e h, rn, if_pos hf]
theorem rn_stop (l : List Int) (f e : Nat) (h : e < l.length) (hf : fol (ix l (e - 1)) (ix l e) = false) : rn e f (ix l (e - 1)) (l.drop e) = [(f : Int), (e : Int) - f] :: rf l e := by
  rw [rf_at l e h, List.drop_eq_getElem_cons h, ← ix_get l e h, rn, if_neg (by rw [hf]; decide)]
theorem rn_end (l : List Int) (f : Nat) : rn l.length f (ix l (l.length - 1)) (l.drop l.length) = [(f : Int), (l.length : Int) - f] :: rf l l.length := by
  rw [rf_end, List.drop_length, rn]
theorem rn_len : ∀ (t : List Int) (i a : Nat) (p : Int), (rn i a p t).length ≤ t.length + 1
  | [], _, _, _ => by simp [rn]
  | y :: t, i, a, p => by
    have h1 := rn_len t (i + 1) a y
    have h2 := rn_len t (i + 1) i y
    unfold rn
    split
    · simp; omega
    · simp; omega
theorem runs_lenP (l : List Int) : (runsR l).length ≤ l.length := by
  cases l with
  | nil => simp [runsR]
  | cons x t =>
    have := rn_len t 1 0 x
    simpa [runsR] using this
end Go.Proofs.Yteceahbnafaeoaa
