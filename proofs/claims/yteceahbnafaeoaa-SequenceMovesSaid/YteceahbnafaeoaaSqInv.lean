/- Inversions, runs, permutations, moves. -/
import Derived.Test.YteceahbnafaeoaaSqVer
namespace Go.Proofs.Yteceahbnafaeoaa

/-- the number of inversions -/
def invR : List Int → Nat
  | [] => 0
  | x :: l => l.countP (fun y => decide (y < x)) + invR l
theorem inv_zero : ∀ l : List Int, invR l = 0 ↔ l.Pairwise (· ≤ ·)
  | [] => by simp [invR]
  | x :: l => by
    rw [invR, List.pairwise_cons, ← inv_zero l, Nat.add_eq_zero_iff, List.countP_eq_zero]
    constructor
    · rintro ⟨h1, h2⟩; exact ⟨fun y hy => by have := h1 y hy; simp at this; omega, h2⟩
    · rintro ⟨h1, h2⟩; exact ⟨fun y hy => by have := h1 y hy; simp; omega, h2⟩
theorem inv_snoc : ∀ (l : List Int) (x : Int), invR (l ++ [x]) = invR l + l.countP (fun y => decide (x < y))
  | [], x => by simp [invR]
  | y :: l, x => by
    rw [List.cons_append, invR, invR, inv_snoc l x, List.countP_append, List.countP_cons]
    simp only [List.countP_cons, List.countP_nil]
    omega
theorem count_two (x : Int) : ∀ l : List Int, x ∉ l → l.countP (fun y => decide (y < x)) + l.countP (fun y => decide (x < y)) = l.length
  | [], _ => rfl
  | y :: l, h => by
    have h1 : x ≠ y := fun e => h (by simp [e])
    have := count_two x l fun e => h (by simp [e])
    rw [List.countP_cons, List.countP_cons, List.length_cons]
    by_cases hq : x < y
    · rw [if_neg (by simp; omega), if_pos (by simpa using hq)]; omega
    · rw [if_pos (by simp; omega), if_neg (by simpa using hq)]; omega
theorem inv_both : ∀ l : List Int, l.Nodup → 2 * (invR l + invR l.reverse) = l.length * (l.length - 1)
  | [], _ => rfl
  | x :: l, h => by
    obtain ⟨h1, h2⟩ := List.nodup_cons.1 h
    have ih := inv_both l h2
    have hc := count_two x l h1
    rw [List.reverse_cons, inv_snoc, invR, List.countP_reverse, List.length_cons]
    have e : (l.length + 1) * (l.length + 1 - 1) = l.length * (l.length - 1) + 2 * l.length := by
      cases hn : l.length with
      | zero => rfl
      | succ n =>
        simp only [Nat.add_sub_cancel]
        rw [show n + 1 + 1 = n + 2 from rfl, Nat.add_mul n 2, Nat.mul_comm (n + 1) n, Nat.mul_add n n 1]
    rw [e]; omega
theorem inv_both_div (l : List Int) (h : l.Nodup) : invR l + invR l.reverse = l.length * (l.length - 1) / 2 := by
  have := inv_both l h
  omega

/-- a step by 1 -/
def fol (a b : Int) : Bool := decide (b = a + 1)
/-- the runs behind an element: i is the index of the next one, at that of the run's first one -/
def rn (i at' : Nat) (p : Int) : List Int → List (List Int)
  | [] => [[(at' : Int), (i : Int) - at']]
  | y :: l => if fol p y then rn (i + 1) at' y l else [(at' : Int), (i : Int) - at'] :: rn (i + 1) i y l
def runsR : List Int → List (List Int)
  | [] => []
  | x :: l => rn 1 0 x l

/-- a permutation of the numbers below its length -/
def permB (l : List Int) : Bool := l.all (fun x => inB l x) && decide l.Nodup
theorem perm_nodup {l : List Int} (h : permB l = true) : l.Nodup := by
  unfold permB at h
  rw [Bool.and_eq_true, decide_eq_true_eq] at h
  exact h.2
/-- moves -/
def movR (l : List Int) : Nat := l.length - lis l
theorem asc_lt_of_le : ∀ l : List Int, l.Nodup → (l.Pairwise (· ≤ ·) ↔ l.Pairwise (· < ·))
  | [], _ => by simp
  | x :: l, h => by
    obtain ⟨h1, h2⟩ := List.nodup_cons.1 h
    rw [List.pairwise_cons, List.pairwise_cons, asc_lt_of_le l h2]
    constructor
    · rintro ⟨a, b⟩
      exact ⟨fun y hy => by
        have := a y hy
        have : x ≠ y := fun e => h1 (e ▸ hy)
        omega, b⟩
    · rintro ⟨a, b⟩
      exact ⟨fun y hy => by have := a y hy; omega, b⟩
theorem mov_zero {l : List Int} (h : l.Nodup) : movR l = 0 ↔ l.Pairwise (· ≤ ·) := by
  have h1 := lis_le l
  rw [asc_lt_of_le l h]
  have h2 := incV_iff l none
  have h3 : lis l = l.length ↔ IncV none l := lis_full
  constructor
  · intro h0
    unfold movR at h0
    exact (h2.1 (h3.1 (by omega))).1
  · intro h0
    have := h3.2 (h2.2 ⟨h0, fun _ _ => rfl⟩)
    unfold movR; omega
theorem mov_lt {l : List Int} (h : 0 < l.length) : movR l < l.length := by
  have h1 : [l[0]].Sublist l := by
    cases l with
    | nil => simp at h
    | cons x l => simp
  have := lis_ge h1 ⟨rfl, trivial⟩
  simp at this
  unfold movR; omega
/-- one element elsewhere -/
def moved (l : List Int) (i k : Nat) (x : Int) : List Int := (l.eraseIdx i).take k ++ x :: (l.eraseIdx i).drop k
theorem moved_len (l : List Int) (i k : Nat) (hi : i < l.length) (hk : k < l.length) (x : Int) : (moved l i k x).length = l.length := by
  unfold moved
  rw [List.length_append, List.length_cons, List.length_take, List.length_drop, List.length_eraseIdx, if_pos hi]; omega
theorem mov_moved (l : List Int) (i k : Nat) (hi : i < l.length) (hk : k < l.length) :
    movR (moved l i k l[i]) ≤ movR l + 1 ∧ movR l ≤ movR (moved l i k l[i]) + 1 := by
  have e : l = l.take i ++ l[i] :: l.drop (i + 1) := by
    rw [List.getElem_cons_drop, List.take_append_drop]
  have ed : l.take i ++ l.drop (i + 1) = (l.eraseIdx i).take k ++ (l.eraseIdx i).drop k := by
    rw [List.take_append_drop, List.eraseIdx_eq_take_drop_succ]
  have h1 := lis_move _ _ _ _ l[i] ed
  have h2 := lis_move _ _ _ _ l[i] ed.symm
  rw [← e] at h1 h2
  have h3 := lis_le l
  have h4 := lis_le (moved l i k l[i])
  have h5 := moved_len l i k hi hk l[i]
  unfold movR
  rw [h5]
  unfold moved at *
  omega
end Go.Proofs.Yteceahbnafaeoaa
