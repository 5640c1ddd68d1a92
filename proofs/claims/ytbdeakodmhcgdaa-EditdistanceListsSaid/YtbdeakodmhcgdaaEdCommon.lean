/- Plain mathematics of common subsequences: the longest, and of these the least. Nothing here runs the program. -/
import Derived.Test.YtbdeakodmhcgdaaEdMath
namespace Go.Proofs.Ytbdeakodmhcgdaa
set_option linter.unusedSimpArgs false
set_option linter.unusedVariables false
set_option linter.unusedSectionVars false

section
variable {α : Type} [DecidableEq α]
/-- the length of the longest common subsequences, by its table -/
def lcsN : List α → List α → Nat
  | [], _ => 0
  | _ :: _, [] => 0
  | x :: a, y :: b => max (max (lcsN a (y :: b)) (lcsN (x :: a) b)) (if x = y then lcsN a b + 1 else 0)
termination_by a b => a.length + b.length
theorem lcs_nil (b : List α) : lcsN [] b = 0 := by rw [lcsN]
theorem lcs_nil' (a : List α) : lcsN a [] = 0 := by
  cases a with
  | nil => rw [lcs_nil]
  | cons x a => rw [lcsN]
theorem lcs_cons (x y : α) (a b : List α) : lcsN (x :: a) (y :: b) = max (max (lcsN a (y :: b)) (lcsN (x :: a) b)) (if x = y then lcsN a b + 1 else 0) := by rw [lcsN]
theorem lcs_ex : ∀ (a b : List α), ∃ c : List α, c.Sublist a ∧ c.Sublist b ∧ c.length = lcsN a b
  | [], b => ⟨[], .slnil, List.nil_sublist b, by rw [lcs_nil]; rfl⟩
  | x :: a, [] => ⟨[], List.nil_sublist _, .slnil, by rw [lcs_nil']; rfl⟩
  | x :: a, y :: b => by
    obtain ⟨c1, p1, q1, r1⟩ := lcs_ex a (y :: b)
    obtain ⟨c2, p2, q2, r2⟩ := lcs_ex (x :: a) b
    obtain ⟨c3, p3, q3, r3⟩ := lcs_ex a b
    have hl := lcs_cons x y a b
    by_cases e : x = y
    · rw [if_pos e] at hl
      rcases (show lcsN (x :: a) (y :: b) = lcsN a (y :: b) ∨ lcsN (x :: a) (y :: b) = lcsN (x :: a) b ∨ lcsN (x :: a) (y :: b) = lcsN a b + 1 by omega) with h | h | h
      · exact ⟨c1, .cons x p1, q1, by rw [r1, h]⟩
      · exact ⟨c2, p2, .cons y q2, by rw [r2, h]⟩
      · exact ⟨x :: c3, .cons_cons x p3, by rw [e]; exact .cons_cons y q3, by rw [List.length_cons, r3, h]⟩
    · rw [if_neg e] at hl
      rcases (show lcsN (x :: a) (y :: b) = lcsN a (y :: b) ∨ lcsN (x :: a) (y :: b) = lcsN (x :: a) b by omega) with h | h
      · exact ⟨c1, .cons x p1, q1, by rw [r1, h]⟩
      · exact ⟨c2, p2, .cons y q2, by rw [r2, h]⟩
termination_by a b => a.length + b.length
theorem lcs_le {c a b : List α} (ha : c.Sublist a) (hb : c.Sublist b) : c.length ≤ lcsN a b := by
  induction ha generalizing b with
  | slnil => exact Nat.zero_le _
  | @cons c a x h ih =>
    have := ih hb
    cases b with
    | nil => rw [lcs_nil'] at this ⊢; exact this
    | cons y b => rw [lcs_cons]; omega
  | @cons_cons c a x h ih =>
    generalize hc : x :: c = cc at hb
    induction hb with
    | slnil => cases hc
    | @cons cc b y h2 ih2 => have := ih2 hc; rw [lcs_cons]; omega
    | @cons_cons cc b y h2 ih2 =>
      cases hc
      have := ih h2
      rw [lcs_cons, if_pos rfl, List.length_cons]; omega
theorem lcs_mono {a a' b b' : List α} (ha : a.Sublist a') (hb : b.Sublist b') : lcsN a b ≤ lcsN a' b' := by
  obtain ⟨c, p, q, r⟩ := lcs_ex a b
  rw [← r]
  exact lcs_le (p.trans ha) (q.trans hb)
/-- the length and the distance bound one another -/
theorem lcs_lev (a b : List α) : lev a b + 2 * lcsN a b ≤ a.length + b.length ∧ a.length ≤ lcsN a b + lev a b ∧ b.length ≤ lcsN a b + lev a b := by
  obtain ⟨c, p, q, r⟩ := lcs_ex a b
  obtain ⟨d, p2, q2, h1, h2⟩ := (ed_lev a b).common
  have := lcs_le p2 q2
  have := lev_common p q
  omega

/-! ### the least of the longest -/
/-- a total order -/
structure TotalLt (lt : α → α → Bool) : Prop where
  irr : ∀ x, lt x x = false
  trans : ∀ x y z, lt x y = true → lt y z = true → lt x z = true
  total : ∀ x y, x ≠ y → lt x y = true ∨ lt y x = true
variable (lt : α → α → Bool)
def llt : List α → List α → Bool
  | _, [] => false
  | [], _ :: _ => true
  | x :: a, y :: b => lt x y || (decide (x = y) && llt a b)
theorem llt_total (h : TotalLt lt) : ∀ (a b : List α), llt lt a b = false → llt lt b a = false → a = b
  | [], [], _, _ => rfl
  | [], y :: b, h1, _ => by rw [llt] at h1; cases h1
  | x :: a, [], _, h2 => by rw [llt] at h2; cases h2
  | x :: a, y :: b, h1, h2 => by
    rw [llt, Bool.or_eq_false_iff] at h1 h2
    by_cases e : x = y
    · subst e
      have e1 : llt lt a b = false := by simpa using h1.2
      have e2 : llt lt b a = false := by simpa using h2.2
      rw [llt_total h a b e1 e2]
    · rcases h.total x y e with g | g
      · rw [g] at h1; exact absurd h1.1 (by simp)
      · rw [g] at h2; exact absurd h2.1 (by simp)
def IsBest (a b c : List α) : Prop := c.Sublist a ∧ c.Sublist b ∧ c.length = lcsN a b ∧ ∀ d : List α, d.Sublist a → d.Sublist b → d.length = c.length → llt lt d c = false
theorem best_unique (h : TotalLt lt) {a b c c' : List α} (h1 : IsBest lt a b c) (h2 : IsBest lt a b c') : c = c' := by
  obtain ⟨p, q, r, s⟩ := h1
  obtain ⟨p', q', r', s'⟩ := h2
  exact llt_total lt h _ _ (s' c p q (by rw [r, r'])) (s c' p' q' (by rw [r, r']))
theorem best_none {a b : List α} (h : lcsN a b = 0) : IsBest lt a b [] :=
  ⟨List.nil_sublist _, List.nil_sublist _, h.symm, fun d hd hd' hl => by rw [List.length_eq_zero_iff.1 hl, llt]⟩
theorem sub_cons {f : α} {d a : List α} (h : (f :: d).Sublist a) : ∃ k, ∃ hk : k < a.length, a[k] = f ∧ d.Sublist (a.drop (k + 1)) := by
  induction a with
  | nil => cases h
  | cons x a ih =>
    cases h with
    | cons _ h => obtain ⟨k, hk, e, hs⟩ := ih h; exact ⟨k + 1, by simp; omega, by simpa using e, by simpa using hs⟩
    | cons_cons _ h => exact ⟨0, by simp, rfl, by simpa using h⟩
theorem cons_sub {f : α} {d a : List α} {k : Nat} (hk : k < a.length) (e : a[k] = f) (h : d.Sublist (a.drop (k + 1))) : (f :: d).Sublist a := by
  have := List.drop_sublist k a
  rw [List.drop_eq_getElem_cons hk, e] at this
  exact (List.Sublist.cons_cons f h).trans this
theorem drop_mono (a : List α) {x k : Nat} (h : x ≤ k) : (a.drop k).Sublist (a.drop x) := by
  have := List.drop_sublist (k - x) (a.drop x)
  rwa [List.drop_drop, show x + (k - x) = k by omega] at this
/-- one element more: the least with which a longest one goes on, at its first places -/
theorem best_step (ht : TotalLt lt) {a b c : List α} {e : α} {x y : Nat} (hx : x < a.length) (hy : y < b.length) (ex : a[x] = e) (ey : b[y] = e)
    (fx : ∀ i (h : i < a.length), a[i] = e → x ≤ i) (fy : ∀ i (h : i < b.length), b[i] = e → y ≤ i)
    (hex : ∃ k m, ∃ hk : k < a.length, ∃ hm : m < b.length, a[k] = e ∧ b[m] = e ∧ lcsN (a.drop (k + 1)) (b.drop (m + 1)) + 1 = lcsN a b)
    (hmin : ∀ k m, ∀ hk : k < a.length, ∀ hm : m < b.length, a[k] = b[m] → lcsN (a.drop (k + 1)) (b.drop (m + 1)) + 1 = lcsN a b → lt a[k] e = false)
    (hc : IsBest lt (a.drop (x + 1)) (b.drop (y + 1)) c) : IsBest lt a b (e :: c) := by
  obtain ⟨p, q, r, s⟩ := hc
  obtain ⟨k, m, hk, hm, ek, em, hl⟩ := hex
  have hxk := fx k hk ek
  have hym := fy m hm em
  have h1 := lcs_mono (drop_mono a (show x + 1 ≤ k + 1 by omega)) (drop_mono b (show y + 1 ≤ m + 1 by omega))
  have hca := cons_sub hx ex p
  have hcb := cons_sub hy ey q
  have h2 := lcs_le hca hcb
  rw [List.length_cons, r] at h2
  have hlen : (e :: c).length = lcsN a b := by rw [List.length_cons, r]; omega
  refine ⟨hca, hcb, hlen, fun d hd hd' hdl => ?_⟩
  cases d with
  | nil => simp at hdl
  | cons f d =>
    obtain ⟨k', hk', ek', hs⟩ := sub_cons hd
    obtain ⟨m', hm', em', hs'⟩ := sub_cons hd'
    obtain ⟨c2, p2, q2, r2⟩ := lcs_ex (a.drop (k' + 1)) (b.drop (m' + 1))
    have h3 := lcs_le (cons_sub hk' ek' p2) (cons_sub hm' em' q2)
    have h4 := lcs_le hs hs'
    rw [List.length_cons, r2] at h3
    rw [hlen, List.length_cons] at hdl
    have hf := hmin k' m' hk' hm' (by rw [ek', em']) (by omega)
    rw [ek'] at hf
    rw [llt, hf, Bool.false_or]
    by_cases efe : f = e
    · subst efe
      have := s d (hs.trans (drop_mono a (by have := fx k' hk' ek'; omega))) (hs'.trans (drop_mono b (by have := fy m' hm' em'; omega))) (by rw [r]; omega)
      rw [this]; simp
    · simp [efe]
/-- while the length is positive there is such an element -/
theorem best_there {a b : List α} (h : 0 < lcsN a b) : ∃ k m, ∃ hk : k < a.length, ∃ hm : m < b.length, a[k] = b[m] ∧ lcsN (a.drop (k + 1)) (b.drop (m + 1)) + 1 = lcsN a b := by
  obtain ⟨c, p, q, r⟩ := lcs_ex a b
  cases c with
  | nil => rw [← r] at h; simp at h
  | cons f c =>
    obtain ⟨k, hk, ek, hs⟩ := sub_cons p
    obtain ⟨m, hm, em, hs'⟩ := sub_cons q
    have h4 := lcs_le hs hs'
    obtain ⟨c2, p2, q2, r2⟩ := lcs_ex (a.drop (k + 1)) (b.drop (m + 1))
    have h3 := lcs_le (cons_sub hk ek p2) (cons_sub hm em q2)
    rw [List.length_cons, r2] at h3
    rw [List.length_cons] at r
    exact ⟨k, m, hk, hm, by rw [ek, em], by omega⟩
end
end Go.Proofs.Ytbdeakodmhcgdaa
