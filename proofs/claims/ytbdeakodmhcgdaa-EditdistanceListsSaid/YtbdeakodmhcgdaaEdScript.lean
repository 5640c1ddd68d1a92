/- Plain mathematics of scripts: the edits that the table gives from its end on, and what they make of a list. Nothing here runs the program. -/
import Derived.Test.YtbdeakodmhcgdaaEdMath
namespace Go.Proofs.Ytbdeakodmhcgdaa
set_option linter.unusedSimpArgs false
set_option linter.unusedVariables false
set_option linter.unusedSectionVars false

section
variable {α : Type} [DecidableEq α]
/-- an edit: where, how many elements, and what stands in their stead -/
abbrev EdT (α : Type) := Nat × Nat × List α
/-- the edits between two beginnings that are given in the opposite order, the last one first -/
def scr : List α → List α → List (EdT α)
  | [], [] => []
  | [], y :: b => (0, 0, [y]) :: scr [] b
  | x :: a, [] => (a.length, 1, []) :: scr a []
  | x :: a, y :: b =>
    if x = y ∧ lev (x :: a) (y :: b) = lev a b then scr a b
    else if lev (x :: a) (y :: b) = lev a b + 1 then (a.length, 1, [y]) :: scr a b
    else if lev (x :: a) (y :: b) = lev a (y :: b) + 1 then (a.length, 1, []) :: scr a (y :: b)
    else (a.length + 1, 0, [y]) :: scr (x :: a) b
termination_by a b => a.length + b.length
theorem scr_nil : scr ([] : List α) [] = [] := by rw [scr]
theorem scr_ins (y : α) (b : List α) : scr [] (y :: b) = (0, 0, [y]) :: scr [] b := by rw [scr]
theorem scr_del (x : α) (a : List α) : scr (x :: a) [] = (a.length, 1, []) :: scr a [] := by rw [scr]
theorem scr_cons (x y : α) (a b : List α) : scr (x :: a) (y :: b) =
    if x = y ∧ lev (x :: a) (y :: b) = lev a b then scr a b
    else if lev (x :: a) (y :: b) = lev a b + 1 then (a.length, 1, [y]) :: scr a b
    else if lev (x :: a) (y :: b) = lev a (y :: b) + 1 then (a.length, 1, []) :: scr a (y :: b)
    else (a.length + 1, 0, [y]) :: scr (x :: a) b := by rw [scr]
/-- a script has as many edits as the distance -/
theorem scr_length : ∀ (a b : List α), (scr a b).length = lev a b
  | [], [] => by rw [scr_nil, lev_nil]; rfl
  | [], y :: b => by rw [scr_ins, List.length_cons, scr_length [] b, lev_nil, lev_nil]; rfl
  | x :: a, [] => by rw [scr_del, List.length_cons, scr_length a [], lev_nil', lev_nil']; rfl
  | x :: a, y :: b => by
    have h1 := scr_length a b
    have h2 := scr_length a (y :: b)
    have h3 := scr_length (x :: a) b
    have hl := lev_cons x y a b
    rw [scr_cons]
    by_cases c1 : x = y ∧ lev (x :: a) (y :: b) = lev a b
    · rw [if_pos c1, h1, c1.2]
    · rw [if_neg c1]
      by_cases c2 : lev (x :: a) (y :: b) = lev a b + 1
      · rw [if_pos c2, List.length_cons, h1, c2]
      · rw [if_neg c2]
        by_cases c3 : lev (x :: a) (y :: b) = lev a (y :: b) + 1
        · rw [if_pos c3, List.length_cons, h2, c3]
        · rw [if_neg c3, List.length_cons, h3]
          by_cases e : x = y
          · rw [if_pos e] at hl
            have : ¬ lev (x :: a) (y :: b) = lev a b := fun h => c1 ⟨e, h⟩
            omega
          · rw [if_neg e] at hl; omega
termination_by a b => a.length + b.length
/-- is an edit one of a single element, that changes something -/
def EdT.single (l : List α) (e : EdT α) : Prop := (e.2.1 = 0 ∧ e.1 ≤ l.length ∧ ∃ y, e.2.2 = [y]) ∨ (e.2.1 = 1 ∧ ∃ h : e.1 < l.length, e.2.2 = [] ∨ ∃ y, e.2.2 = [y] ∧ l[e.1] ≠ y)
theorem at_front (p : List α) (x : α) (a : List α) (h : a.length < (p ++ x :: a).reverse.length) : (p ++ x :: a).reverse[a.length] = x := by
  simp [List.getElem_append, List.getElem_reverse]
/-- .. of the whole list, whose beginning is taken -/
theorem scr_single : ∀ (a b p : List α), ∀ e ∈ scr a b, EdT.single (p ++ a).reverse e
  | [], [], p => by rw [scr_nil]; intro e h; cases h
  | [], y :: b, p => by
    rw [scr_ins]
    intro e h
    rcases List.mem_cons.1 h with rfl | h
    · exact .inl ⟨rfl, Nat.zero_le _, y, rfl⟩
    · exact scr_single [] b p e h
  | x :: a, [], p => by
    rw [scr_del]
    intro e h
    rcases List.mem_cons.1 h with rfl | h
    · exact .inr ⟨rfl, by simp, .inl rfl⟩
    · have := scr_single a [] (p ++ [x]) e h
      rwa [List.append_assoc, List.singleton_append] at this
  | x :: a, y :: b, p => by
    rw [scr_cons]
    intro e h
    have hp : p ++ x :: a = (p ++ [x]) ++ a := by simp
    by_cases c1 : x = y ∧ lev (x :: a) (y :: b) = lev a b
    · rw [if_pos c1] at h; rw [hp]; exact scr_single a b _ e h
    · rw [if_neg c1] at h
      by_cases c2 : lev (x :: a) (y :: b) = lev a b + 1
      · rw [if_pos c2] at h
        rcases List.mem_cons.1 h with rfl | h
        · have hlt : a.length < (p ++ x :: a).reverse.length := by simp
          refine .inr ⟨rfl, hlt, .inr ⟨y, rfl, ?_⟩⟩
          rw [show ((p ++ x :: a).reverse[(a.length, 1, [y]).1]'hlt) = x from at_front p x a hlt]
          intro exy
          have := lev_same x a b
          rw [← exy] at c2; omega
        · rw [hp]; exact scr_single a b _ e h
      · rw [if_neg c2] at h
        by_cases c3 : lev (x :: a) (y :: b) = lev a (y :: b) + 1
        · rw [if_pos c3] at h
          rcases List.mem_cons.1 h with rfl | h
          · exact .inr ⟨rfl, by simp, .inl rfl⟩
          · rw [hp]; exact scr_single a (y :: b) _ e h
        · rw [if_neg c3] at h
          rcases List.mem_cons.1 h with rfl | h
          · exact .inl ⟨rfl, by simp, y, rfl⟩
          · exact scr_single (x :: a) b p e h
termination_by a b => a.length + b.length
/-- what edits make of a list: what was put together, and the end of the edit before -/
def putE (l : List α) (s : List α × Nat) (e : EdT α) : List α × Nat := (s.1 ++ (l.drop s.2).take (e.1 - s.2) ++ e.2.2, e.1 + e.2.1)
def putAll (l : List α) (es : List (EdT α)) : List α × Nat := es.foldl (putE l) ([], 0)
def applyE (l : List α) (es : List (EdT α)) : List α := (putAll l es).1 ++ l.drop (putAll l es).2
/-- do edits fit a list of n elements, from a place on -/
def fitE (n : Nat) : Nat → List (EdT α) → Prop
  | _, [] => True
  | at_, e :: es => at_ ≤ e.1 ∧ e.1 + e.2.1 ≤ n ∧ fitE n (e.1 + e.2.1) es
theorem fitE_snoc (n : Nat) (es : List (EdT α)) (e : EdT α) : ∀ at_, fitE n at_ (es ++ [e]) ↔ fitE n at_ es ∧ (es.getLast?.elim at_ fun x => x.1 + x.2.1) ≤ e.1 ∧ e.1 + e.2.1 ≤ n := by
  induction es with
  | nil => intro at_; simp [fitE]
  | cons x es ih =>
    intro at_
    rw [List.cons_append, fitE, fitE, ih]
    cases es with
    | nil => simp [and_assoc]
    | cons y es => rw [List.getLast?_cons_cons, and_assoc, and_assoc, List.getLast?_cons]; rfl
theorem putAll_snoc (l : List α) (es : List (EdT α)) (e : EdT α) : putAll l (es ++ [e]) = putE l (putAll l es) e := by rw [putAll, List.foldl_append]; rfl
theorem putAll_end (l : List α) (es : List (EdT α)) : (putAll l es).2 = es.getLast?.elim 0 fun x => x.1 + x.2.1 := by
  rcases List.eq_nil_or_concat es with h | ⟨es', e, h⟩
  · rw [h]; rfl
  · rw [h, List.concat_eq_append, putAll_snoc, putE]; simp
theorem take_more {l : List α} {s i : Nat} (h : s ≤ i) (hi : i < l.length) : (l.drop s).take (i + 1 - s) = (l.drop s).take (i - s) ++ [l[i]] := by
  rw [show i + 1 - s = (i - s) + 1 by omega, List.take_add_one, List.getElem?_drop, show s + (i - s) = i by omega, List.getElem?_eq_getElem hi]; rfl
/-- the script leads from the one beginning to the other -/
theorem scr_leads : ∀ (a b p : List α), fitE (p ++ a).length 0 (scr a b).reverse ∧ (putAll (p ++ a).reverse (scr a b).reverse).2 ≤ a.length ∧
    (putAll (p ++ a).reverse (scr a b).reverse).1 ++ ((p ++ a).reverse.drop (putAll (p ++ a).reverse (scr a b).reverse).2).take (a.length - (putAll (p ++ a).reverse (scr a b).reverse).2) = b.reverse
  | [], [], p => by rw [scr_nil]; simp [fitE, putAll]
  | [], y :: b, p => by
    obtain ⟨h1, h2, h3⟩ := scr_leads [] b p
    rw [scr_ins, List.reverse_cons, fitE_snoc, putAll_snoc, ← putAll_end, putE]
    refine ⟨⟨h1, h2, by simp⟩, Nat.le_refl _, ?_⟩
    have e0 : (putAll (p ++ []).reverse (scr [] b).reverse).2 = 0 := Nat.le_zero.1 h2
    rw [e0] at h3 ⊢
    simp only [List.length_nil, Nat.sub_self, List.take_zero, List.append_nil] at h3 ⊢
    rw [h3, List.reverse_cons]
  | x :: a, [], p => by
    have hp : p ++ x :: a = (p ++ [x]) ++ a := by simp
    obtain ⟨h1, h2, h3⟩ := scr_leads a [] (p ++ [x])
    rw [scr_del, List.reverse_cons, fitE_snoc, putAll_snoc, ← putAll_end (l := (p ++ x :: a).reverse), putE, hp]
    refine ⟨⟨h1, h2, by simp⟩, Nat.le_refl _, ?_⟩
    simp only [List.length_cons, Nat.sub_self, List.take_zero, List.append_nil]
    exact h3
  | x :: a, y :: b, p => by
    have hp : p ++ x :: a = (p ++ [x]) ++ a := by simp
    have hlt : a.length < (p ++ x :: a).reverse.length := by simp
    have hx := at_front p x a hlt
    rw [scr_cons]
    by_cases c1 : x = y ∧ lev (x :: a) (y :: b) = lev a b
    · obtain ⟨h1, h2, h3⟩ := scr_leads a b (p ++ [x])
      rw [if_pos c1]
      rw [← hp] at h1 h2 h3
      refine ⟨h1, by simp only [List.length_cons]; omega, ?_⟩
      rw [List.length_cons, take_more h2 hlt, ← List.append_assoc, h3, hx, List.reverse_cons, c1.1]
    · rw [if_neg c1]
      by_cases c2 : lev (x :: a) (y :: b) = lev a b + 1
      · obtain ⟨h1, h2, h3⟩ := scr_leads a b (p ++ [x])
        rw [← hp] at h1 h2 h3
        rw [if_pos c2, List.reverse_cons, fitE_snoc, putAll_snoc, ← putAll_end (l := (p ++ x :: a).reverse), putE]
        refine ⟨⟨h1, h2, by simp⟩, by simp, ?_⟩
        simp only [List.length_cons, Nat.sub_self, List.take_zero, List.append_nil]
        rw [h3, List.reverse_cons]
      · rw [if_neg c2]
        by_cases c3 : lev (x :: a) (y :: b) = lev a (y :: b) + 1
        · obtain ⟨h1, h2, h3⟩ := scr_leads a (y :: b) (p ++ [x])
          rw [← hp] at h1 h2 h3
          rw [if_pos c3, List.reverse_cons, fitE_snoc, putAll_snoc, ← putAll_end (l := (p ++ x :: a).reverse), putE]
          refine ⟨⟨h1, h2, by simp⟩, by simp, ?_⟩
          simp only [List.length_cons, Nat.sub_self, List.take_zero, List.append_nil]
          exact h3
        · obtain ⟨h1, h2, h3⟩ := scr_leads (x :: a) b p
          rw [if_neg c3, List.reverse_cons, fitE_snoc, putAll_snoc, ← putAll_end (l := (p ++ x :: a).reverse), putE]
          refine ⟨⟨h1, h2, by simp⟩, by simp, ?_⟩
          simp only [List.length_cons, Nat.add_zero, Nat.sub_self, List.take_zero, List.append_nil] at h3 ⊢
          rw [h3, List.reverse_cons]
termination_by a b => a.length + b.length
/-- the script of two lists, and what it does -/
def script (a b : List α) : List (EdT α) := (scr a.reverse b.reverse).reverse
theorem script_length (a b : List α) : (script a b).length = lev a b := by rw [script, List.length_reverse, scr_length, lev_reverse]
theorem script_single (a b : List α) : ∀ e ∈ script a b, EdT.single a e := by
  intro e h
  have := scr_single a.reverse b.reverse [] e (by rw [script, List.mem_reverse] at h; exact h)
  rwa [List.nil_append, List.reverse_reverse] at this
theorem script_fits (a b : List α) : fitE a.length 0 (script a b) := by
  have := (scr_leads a.reverse b.reverse []).1
  rwa [List.nil_append, List.length_reverse] at this
theorem script_leads (a b : List α) : applyE a (script a b) = b := by
  obtain ⟨h1, h2, h3⟩ := scr_leads a.reverse b.reverse []
  rw [List.nil_append, List.reverse_reverse] at h2 h3
  rw [List.length_reverse] at h2 h3
  rw [List.take_of_length_le (by rw [List.length_drop]; exact Nat.le_refl _), List.reverse_reverse] at h3
  exact h3

/-! ### any edits -/
/-- how many elements edits touch -/
def touched (es : List (EdT α)) : Nat := (es.map fun e => max e.2.2.length e.2.1).sum
def putIn (es : List (EdT α)) : Nat := (es.map fun e => e.2.2.length).sum
def takenOut (es : List (EdT α)) : Nat := (es.map fun e => e.2.1).sum
theorem fold_len (l : List α) : ∀ (es : List (EdT α)) (s : List α × Nat), s.2 ≤ l.length → fitE l.length s.2 es →
    (es.foldl (putE l) s).2 ≤ l.length ∧ (es.foldl (putE l) s).1.length + (l.length - (es.foldl (putE l) s).2) + takenOut es = s.1.length + (l.length - s.2) + putIn es
  | [], s, h, _ => by simp [takenOut, putIn, h]
  | e :: es, s, h, hf => by
    obtain ⟨f1, f2, f3⟩ := hf
    have := fold_len l es (putE l s e) f2 f3
    rw [List.foldl_cons]
    refine ⟨this.1, ?_⟩
    have h2 := this.2
    have hl : (putE l s e).1.length = s.1.length + (e.1 - s.2) + e.2.2.length := by
      rw [putE]; simp only [List.length_append, List.length_take, List.length_drop]; omega
    have ht : takenOut (e :: es) = e.2.1 + takenOut es := by simp [takenOut]
    have hp : putIn (e :: es) = e.2.2.length + putIn es := by simp [putIn]
    have h3 : (putE l s e).2 = e.1 + e.2.1 := rfl
    rw [hl, h3] at h2
    omega
theorem apply_len (l : List α) (es : List (EdT α)) (h : fitE l.length 0 es) : (applyE l es).length + takenOut es = l.length + putIn es := by
  have := fold_len l es ([], 0) (Nat.zero_le _) h
  rw [applyE, List.length_append, List.length_drop]
  rw [putAll] at *
  simp only [List.length_nil] at this
  omega
theorem fold_lev (l : List α) : ∀ (es : List (EdT α)) (s : List α × Nat), s.2 ≤ l.length → fitE l.length s.2 es →
    (es.foldl (putE l) s).2 ≤ l.length ∧ lev (l.take (es.foldl (putE l) s).2) (es.foldl (putE l) s).1 ≤ lev (l.take s.2) s.1 + touched es
  | [], s, h, _ => by simp [touched, h]
  | e :: es, s, h, hf => by
    obtain ⟨f1, f2, f3⟩ := hf
    have := fold_lev l es (putE l s e) f2 f3
    rw [List.foldl_cons]
    refine ⟨this.1, Nat.le_trans this.2 ?_⟩
    have ht : touched (e :: es) = max e.2.2.length e.2.1 + touched es := by simp [touched]
    rw [ht]
    have h1 : l.take (e.1 + e.2.1) = l.take s.2 ++ ((l.drop s.2).take (e.1 - s.2) ++ (l.drop e.1).take e.2.1) := by
      rw [← List.append_assoc, ← List.take_add, show s.2 + (e.1 - s.2) = e.1 by omega, ← List.take_add]
    have h2 : lev (l.take (putE l s e).2) (putE l s e).1 ≤ lev (l.take s.2) s.1 + max e.2.2.length e.2.1 := by
      rw [putE]
      show lev (l.take (e.1 + e.2.1)) (s.1 ++ (l.drop s.2).take (e.1 - s.2) ++ e.2.2) ≤ _
      rw [h1, List.append_assoc]
      refine Nat.le_trans (lev_append _ _ _ _) (Nat.add_le_add_left ?_ _)
      refine Nat.le_trans (lev_append _ _ _ _) ?_
      rw [(lev_zero _ _).2 rfl, Nat.zero_add]
      refine Nat.le_trans (lev_most _ _) ?_
      rw [List.length_take, List.length_drop]
      omega
    omega
theorem apply_lev (l : List α) (es : List (EdT α)) (h : fitE l.length 0 es) : lev l (applyE l es) ≤ touched es := by
  have := fold_lev l es ([], 0) (Nat.zero_le _) h
  have h2 := lev_append (l.take (putAll l es).2) (putAll l es).1 (l.drop (putAll l es).2) (l.drop (putAll l es).2)
  rw [List.take_append_drop, (lev_zero (l.drop _) _).2 rfl] at h2
  rw [applyE]
  rw [putAll] at *
  simp only [List.take_zero, lev_nil, List.length_nil] at this
  omega
end
end Go.Proofs.Ytbdeakodmhcgdaa
