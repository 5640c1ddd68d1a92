/- Plain mathematics of edit distances of lists. Nothing here runs the program. -/
import Derived.Lib.Hide
namespace Go.Proofs.Ytbdeakodmhcgdaa
set_option linter.unusedSimpArgs false
set_option linter.unusedVariables false
set_option linter.unusedSectionVars false

section
variable {α : Type} [DecidableEq α]
/-- the ways from one list to another one, from the front on, and what they cost -/
inductive Ed : List α → List α → Nat → Prop
  | nil : Ed [] [] 0
  | ins {a b : List α} {n : Nat} (y : α) : Ed a b n → Ed a (y :: b) (n + 1)
  | del {a b : List α} {n : Nat} (x : α) : Ed a b n → Ed (x :: a) b (n + 1)
  | sub {a b : List α} {n : Nat} (x y : α) : Ed a b n → Ed (x :: a) (y :: b) (n + 1)
  | same {a b : List α} {n : Nat} (x : α) : Ed a b n → Ed (x :: a) (x :: b) n
/-- the distance, by its table -/
def lev : List α → List α → Nat
  | [], b => b.length
  | x :: a, [] => (x :: a).length
  | x :: a, y :: b => min (min (lev a (y :: b)) (lev (x :: a) b) + 1) (lev a b + if x = y then 0 else 1)
termination_by a b => a.length + b.length
theorem lev_nil (b : List α) : lev [] b = b.length := by rw [lev]
theorem lev_nil' (a : List α) : lev a [] = a.length := by
  cases a with
  | nil => rw [lev_nil]
  | cons x a => rw [lev]
theorem lev_cons (x y : α) (a b : List α) : lev (x :: a) (y :: b) = min (min (lev a (y :: b)) (lev (x :: a) b) + 1) (lev a b + if x = y then 0 else 1) := by rw [lev]

theorem Ed.insAll (b : List α) : Ed [] b b.length := by
  induction b with
  | nil => exact .nil
  | cons y b ih => exact .ins y ih
theorem Ed.delAll (a : List α) : Ed a [] a.length := by
  induction a with
  | nil => exact .nil
  | cons x a ih => exact .del x ih
theorem Ed.refl (a : List α) : Ed a a 0 := by
  induction a with
  | nil => exact .nil
  | cons x a ih => exact .same x ih
/-- the distance is the cost of a way -/
theorem ed_lev : ∀ (a b : List α), Ed a b (lev a b) := by
  intro a
  induction a with
  | nil => intro b; rw [lev_nil]; exact .insAll b
  | cons x a ih =>
    intro b
    induction b with
    | nil => rw [lev_nil']; exact .delAll _
    | cons y b ihb =>
      rw [lev_cons]
      have h1 := Ed.del x (ih (y :: b))
      have h2 := Ed.ins y ihb
      have h3 : Ed (x :: a) (y :: b) (lev a b + if x = y then 0 else 1) := by
        by_cases e : x = y
        · subst e; rw [if_pos rfl]; exact .same x (ih b)
        · rw [if_neg e]; exact .sub x y (ih b)
      by_cases c : min (lev a (y :: b)) (lev (x :: a) b) + 1 ≤ lev a b + if x = y then 0 else 1
      · rw [Nat.min_eq_left c]
        by_cases d : lev a (y :: b) ≤ lev (x :: a) b
        · rw [Nat.min_eq_left d]; exact h1
        · rw [Nat.min_eq_right (by omega)]; exact h2
      · rw [Nat.min_eq_right (by omega)]; exact h3
/-- no way costs less -/
theorem lev_le {a b : List α} {n : Nat} (h : Ed a b n) : lev a b ≤ n := by
  induction h with
  | nil => rw [lev_nil]; exact Nat.le_refl _
  | @ins a b n y h ih =>
    cases a with
    | nil => rw [lev_nil] at ih ⊢; simp; omega
    | cons x a => rw [lev_cons]; omega
  | @del a b n x h ih =>
    cases b with
    | nil => rw [lev_nil'] at ih ⊢; simp; omega
    | cons y b => rw [lev_cons]; omega
  | sub x y h ih => rw [lev_cons]; split <;> omega
  | same x h ih => rw [lev_cons, if_pos rfl]; omega
theorem Ed.symm {a b : List α} {n : Nat} (h : Ed a b n) : Ed b a n := by
  induction h with
  | nil => exact .nil
  | ins y h ih => exact .del y ih
  | del x h ih => exact .ins x ih
  | sub x y h ih => exact .sub y x ih
  | same x h ih => exact .same x ih
theorem Ed.append {a b c d : List α} {n m : Nat} (h : Ed a b n) (h' : Ed c d m) : Ed (a ++ c) (b ++ d) (n + m) := by
  induction h with
  | nil => rw [Nat.zero_add]; exact h'
  | ins y h ih => rw [Nat.add_right_comm]; exact .ins y ih
  | del x h ih => rw [Nat.add_right_comm]; exact .del x ih
  | sub x y h ih => rw [Nat.add_right_comm]; exact .sub x y ih
  | same x h ih => exact .same x ih
theorem Ed.reverse {a b : List α} {n : Nat} (h : Ed a b n) : Ed a.reverse b.reverse n := by
  induction h with
  | nil => exact .nil
  | ins y h ih => rw [List.reverse_cons]; have := ih.append (Ed.ins y Ed.nil); rwa [List.append_nil] at this
  | del x h ih => rw [List.reverse_cons]; have := ih.append (Ed.del x Ed.nil); rwa [List.append_nil] at this
  | sub x y h ih => rw [List.reverse_cons, List.reverse_cons]; exact ih.append (Ed.sub x y Ed.nil)
  | same x h ih => rw [List.reverse_cons, List.reverse_cons]; exact ih.append (Ed.same x Ed.nil)
theorem Ed.trans {b c : List α} {m : Nat} (h : Ed b c m) : ∀ {a : List α} {n : Nat}, Ed a b n → ∃ k, k ≤ n + m ∧ Ed a c k := by
  induction h with
  | nil => intro a n h; exact ⟨n, by omega, h⟩
  | ins y h ih =>
    intro a n h'
    obtain ⟨k, hk, e⟩ := ih h'
    exact ⟨k + 1, by omega, .ins y e⟩
  | @del b c m x h ih =>
    intro a n h'
    generalize hb : x :: b = bb at h'
    induction h' with
    | nil => cases hb
    | ins y h2 ih2 => cases hb; obtain ⟨k, hk, e⟩ := ih h2; exact ⟨k, by omega, e⟩
    | del z h2 ih2 => obtain ⟨k, hk, e⟩ := ih2 hb; exact ⟨k + 1, by omega, .del z e⟩
    | sub z y h2 ih2 => cases hb; obtain ⟨k, hk, e⟩ := ih h2; exact ⟨k + 1, by omega, .del z e⟩
    | same z h2 ih2 => cases hb; obtain ⟨k, hk, e⟩ := ih h2; exact ⟨k + 1, by omega, .del _ e⟩
  | @sub b c m x y h ih =>
    intro a n h'
    generalize hb : x :: b = bb at h'
    induction h' with
    | nil => cases hb
    | ins z h2 ih2 => cases hb; obtain ⟨k, hk, e⟩ := ih h2; exact ⟨k + 1, by omega, .ins y e⟩
    | del z h2 ih2 => obtain ⟨k, hk, e⟩ := ih2 hb; exact ⟨k + 1, by omega, .del z e⟩
    | sub z w h2 ih2 => cases hb; obtain ⟨k, hk, e⟩ := ih h2; exact ⟨k + 1, by omega, .sub z y e⟩
    | same z h2 ih2 => cases hb; obtain ⟨k, hk, e⟩ := ih h2; exact ⟨k + 1, by omega, .sub _ y e⟩
  | @same b c m x h ih =>
    intro a n h'
    generalize hb : x :: b = bb at h'
    induction h' with
    | nil => cases hb
    | ins z h2 ih2 => cases hb; obtain ⟨k, hk, e⟩ := ih h2; exact ⟨k + 1, by omega, .ins _ e⟩
    | del z h2 ih2 => obtain ⟨k, hk, e⟩ := ih2 hb; exact ⟨k + 1, by omega, .del z e⟩
    | sub z w h2 ih2 => cases hb; obtain ⟨k, hk, e⟩ := ih h2; exact ⟨k + 1, by omega, .sub z _ e⟩
    | same z h2 ih2 => cases hb; obtain ⟨k, hk, e⟩ := ih h2; exact ⟨k, by omega, .same _ e⟩
theorem Ed.lengths {a b : List α} {n : Nat} (h : Ed a b n) : a.length ≤ b.length + n ∧ b.length ≤ a.length + n := by
  induction h with
  | nil => simp
  | ins y h ih => simp only [List.length_cons]; omega
  | del x h ih => simp only [List.length_cons]; omega
  | sub x y h ih => simp only [List.length_cons]; omega
  | same x h ih => simp only [List.length_cons]; omega
theorem Ed.zero {a b : List α} {n : Nat} (h : Ed a b n) : n = 0 → a = b := by
  induction h with
  | nil => intro _; rfl
  | ins y h ih => intro e; omega
  | del x h ih => intro e; omega
  | sub x y h ih => intro e; omega
  | same x h ih => intro e; rw [ih e]
theorem Ed.most : ∀ (a b : List α), Ed a b (max a.length b.length)
  | [], b => by rw [List.length_nil, Nat.zero_max]; exact .insAll b
  | x :: a, [] => by rw [List.length_nil, Nat.max_zero]; exact .delAll _
  | x :: a, y :: b => by
    have := Ed.sub x y (Ed.most a b)
    rw [List.length_cons, List.length_cons, Nat.succ_max_succ]; exact this

/-! ### the laws of distances -/
theorem lev_symm (a b : List α) : lev a b = lev b a := Nat.le_antisymm (lev_le (ed_lev b a).symm) (lev_le (ed_lev a b).symm)
theorem lev_zero (a b : List α) : lev a b = 0 ↔ a = b := ⟨fun h => (ed_lev a b).zero h, fun h => by subst h; exact Nat.le_zero.1 (lev_le (.refl a))⟩
theorem lev_trans (a b c : List α) : lev a c ≤ lev a b + lev b c := by
  obtain ⟨k, hk, h⟩ := (ed_lev b c).trans (ed_lev a b)
  exact Nat.le_trans (lev_le h) hk
theorem lev_least (a b : List α) : a.length ≤ b.length + lev a b ∧ b.length ≤ a.length + lev a b := (ed_lev a b).lengths
theorem lev_most (a b : List α) : lev a b ≤ max a.length b.length := lev_le (.most a b)
theorem lev_append (a b c d : List α) : lev (a ++ c) (b ++ d) ≤ lev a b + lev c d := lev_le ((ed_lev a b).append (ed_lev c d))
theorem lev_reverse (a b : List α) : lev a.reverse b.reverse = lev a b := by
  refine Nat.le_antisymm (lev_le (ed_lev a b).reverse) ?_
  have := lev_le (ed_lev a.reverse b.reverse).reverse
  rwa [List.reverse_reverse, List.reverse_reverse] at this
theorem lev_del (x : α) (a b : List α) : lev a b ≤ lev (x :: a) b + 1 := by
  have h1 := lev_trans a (x :: a) b
  have h2 := lev_le (Ed.ins x (.refl a))
  omega
theorem lev_ins (y : α) (a b : List α) : lev a b ≤ lev a (y :: b) + 1 := by
  have h1 := lev_del y b a
  rw [lev_symm b a, lev_symm (y :: b) a] at h1
  exact h1
theorem lev_same (x : α) (a b : List α) : lev (x :: a) (x :: b) = lev a b := by
  rw [lev_cons, if_pos rfl]
  have h1 := lev_ins x a b
  have h2 := lev_del x a b
  omega
theorem lev_prefix (c a b : List α) : lev (c ++ a) (c ++ b) = lev a b := by
  induction c with
  | nil => rfl
  | cons x c ih => rw [List.cons_append, List.cons_append, lev_same, ih]
theorem lev_suffix (c a b : List α) : lev (a ++ c) (b ++ c) = lev a b := by
  rw [← lev_reverse, List.reverse_append, List.reverse_append, lev_prefix, lev_reverse]
/-- the table: one more element of both, of one, of none -/
theorem lev_snoc (x y : α) (a b : List α) : lev (a ++ [x]) (b ++ [y]) = min (min (lev a (b ++ [y])) (lev (a ++ [x]) b) + 1) (lev a b + if x = y then 0 else 1) := by
  have e := lev_cons x y a.reverse b.reverse
  have h1 := lev_reverse (a ++ [x]) (b ++ [y])
  have h2 := lev_reverse a (b ++ [y])
  have h3 := lev_reverse (a ++ [x]) b
  rw [List.reverse_concat] at h1 h3
  rw [List.reverse_concat] at h1 h2
  rw [h1, h2, h3, lev_reverse] at e
  exact e
theorem lev_snoc_same (x : α) (a b : List α) : lev (a ++ [x]) (b ++ [x]) = lev a b := lev_suffix [x] a b
end
theorem lev_map {α β : Type} [DecidableEq α] [DecidableEq β] (f : α → β) (hf : ∀ x y, f x = f y → x = y) : ∀ (a b : List α), lev (a.map f) (b.map f) = lev a b := by
  intro a
  induction a with
  | nil => intro b; rw [List.map_nil, lev_nil, lev_nil, List.length_map]
  | cons x a ih =>
    intro b
    induction b with
    | nil => rw [List.map_nil, lev_nil', lev_nil', List.length_map]
    | cons y b ihb =>
      rw [List.map_cons, List.map_cons, lev_cons, lev_cons, ih b, ← List.map_cons, ih (y :: b), ← List.map_cons (f := f) (l := a), ihb]
      by_cases e : x = y
      · rw [if_pos e, if_pos (by rw [e])]
      · rw [if_neg e, if_neg (fun h => e (hf x y h))]
/-! ### common subsequences -/
section
variable {α : Type} [DecidableEq α]
/-- what is not in a common subsequence bounds the distance -/
theorem ed_common {c a b : List α} (ha : c.Sublist a) (hb : c.Sublist b) : ∃ n, n + 2 * c.length ≤ a.length + b.length ∧ Ed a b n := by
  induction ha generalizing b with
  | slnil => exact ⟨b.length, by simp, .insAll b⟩
  | @cons c a x h ih =>
    obtain ⟨n, hn, e⟩ := ih hb
    exact ⟨n + 1, by simp only [List.length_cons] at *; omega, .del x e⟩
  | @cons_cons c a x h ih =>
    generalize hc : x :: c = cc at hb
    induction hb with
    | slnil => cases hc
    | cons y h2 ih2 =>
      obtain ⟨n, hn, e⟩ := ih2 hc
      subst hc
      exact ⟨n + 1, by simp only [List.length_cons] at *; omega, .ins y e⟩
    | cons_cons y h2 ih2 =>
      cases hc
      obtain ⟨n, hn, e⟩ := ih h2
      exact ⟨n, by simp only [List.length_cons] at *; omega, .same x e⟩
theorem lev_common {c a b : List α} (ha : c.Sublist a) (hb : c.Sublist b) : lev a b + 2 * c.length ≤ a.length + b.length := by
  obtain ⟨n, hn, h⟩ := ed_common ha hb
  have := lev_le h
  omega
/-- a way leaves a common subsequence -/
theorem Ed.common {a b : List α} {n : Nat} (h : Ed a b n) : ∃ c : List α, c.Sublist a ∧ c.Sublist b ∧ a.length ≤ c.length + n ∧ b.length ≤ c.length + n := by
  induction h with
  | nil => exact ⟨[], .slnil, .slnil, by simp, by simp⟩
  | ins y h ih => obtain ⟨c, h1, h2, h3, h4⟩ := ih; exact ⟨c, h1, .cons y h2, by omega, by simp only [List.length_cons]; omega⟩
  | del x h ih => obtain ⟨c, h1, h2, h3, h4⟩ := ih; exact ⟨c, .cons x h1, h2, by simp only [List.length_cons]; omega, by omega⟩
  | sub x y h ih => obtain ⟨c, h1, h2, h3, h4⟩ := ih; exact ⟨c, .cons x h1, .cons y h2, by simp only [List.length_cons]; omega, by simp only [List.length_cons]; omega⟩
  | same x h ih => obtain ⟨c, h1, h2, h3, h4⟩ := ih; exact ⟨x :: c, .cons_cons x h1, .cons_cons x h2, by simp only [List.length_cons]; omega, by simp only [List.length_cons]; omega⟩
end
end Go.Proofs.Ytbdeakodmhcgdaa
