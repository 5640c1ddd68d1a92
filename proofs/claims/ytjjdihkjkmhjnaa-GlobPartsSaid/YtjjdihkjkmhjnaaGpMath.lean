/- Plain mathematics of layer 7's program: which places of a pattern are reached, and the first strings that reach pairs of places. Nothing here names a function of the program. -/
import Derived.Test.YtjjdihkjkmhjnaaGlSpec
namespace Go.Proofs.Ytjjdihkjkmhjnaa
set_option linter.unusedSimpArgs false
set_option linter.unusedVariables false
open Go.RowKit Go.Deep

/-! ### places -/
def starAt (l : List El) (i : Nat) : Bool := match l[i]? with | some x => x.isS | none => false
def fitAt (l : List El) (i : Nat) (c : UInt8) : Bool := match l[i]? with | some x => x.fits c | none => false
theorem starAt_get {l : List El} {i : Nat} (h : i < l.length) : starAt l i = l[i].isS := by rw [starAt, List.getElem?_eq_getElem h]
theorem fitAt_get {l : List El} {i : Nat} (h : i < l.length) (c : UInt8) : fitAt l i c = l[i].fits c := by rw [fitAt, List.getElem?_eq_getElem h]
theorem starAt_out {l : List El} {i : Nat} (h : l.length ≤ i) : starAt l i = false := by rw [starAt, List.getElem?_eq_none h]
theorem fitAt_out {l : List El} {i : Nat} (h : l.length ≤ i) (c : UInt8) : fitAt l i c = false := by rw [fitAt, List.getElem?_eq_none h]
theorem starAt_lt {l : List El} {i : Nat} (h : starAt l i = true) : i < l.length := by
  rcases Nat.lt_or_ge i l.length with g | g
  · exact g
  · rw [starAt_out g] at h; cases h
theorem fitAt_lt {l : List El} {i : Nat} {c : UInt8} (h : fitAt l i c = true) : i < l.length := by
  rcases Nat.lt_or_ge i l.length with g | g
  · exact g
  · rw [fitAt_out g] at h; cases h
theorem star_fits {l : List El} {i : Nat} (h : starAt l i = true) (c : UInt8) : fitAt l i c = true := by
  have hl := starAt_lt h
  rw [starAt_get hl, El.isS_iff] at h
  rw [fitAt_get hl, h]; rfl
/-- the places that are reached without a byte -/
def closeS (l : List El) (S : Nat → Bool) : Nat → Bool
  | 0 => S 0
  | j + 1 => S (j + 1) || (starAt l j && closeS l S j)
/-- .. with the byte c -/
def nextS (l : List El) (S : Nat → Bool) (c : UInt8) : Nat → Bool
  | 0 => starAt l 0 && (S 0 && fitAt l 0 c)
  | j + 1 => (starAt l (j + 1) && (S (j + 1) && fitAt l (j + 1) c)) || (!starAt l j && (S j && fitAt l j c))
def full (l : List El) (j : Nat) : Nat := if starAt l j then j + 1 else j
/-- is the place j reached with w? -/
def at1 (l : List El) (w : List UInt8) (j : Nat) : Bool := matB (l.take (full l j)) w
theorem at1_end (l : List El) (w : List UInt8) : at1 l w l.length = matB l w := by
  rw [at1, full, starAt_out (Nat.le_refl _), if_neg (by decide), List.take_length]
theorem take_star {l : List El} {j : Nat} (h : starAt l j = true) : l.take (j + 1) = l.take j ++ [.star] := by
  have hl := starAt_lt h
  rw [List.take_succ_eq_append_getElem hl]
  rw [starAt_get hl, El.isS_iff] at h
  rw [h]
theorem mat_tc_star {l : List El} {j : Nat} (h : starAt l j = true) (t : List UInt8) (c : UInt8) : matB (l.take (j + 1)) (t ++ [c]) = (matB (l.take j) (t ++ [c]) || matB (l.take (j + 1)) t) := by
  rw [take_star h]
  have := matB_star (l.take j) (t ++ [c]) (t ++ [c]).length (Nat.le_refl _)
  rw [List.take_length] at this
  rw [this]
  have h1 : (t ++ [c]).take ((t ++ [c]).length - 1) = t := by simp
  have h2 : decide (0 < (t ++ [c]).length) = true := by simp
  rw [h1, h2, Bool.true_and]
theorem mat_tc_one {l : List El} {j : Nat} (hj : j < l.length) (h : starAt l j = false) (t : List UInt8) (c : UInt8) : matB (l.take (j + 1)) (t ++ [c]) = (matB (l.take j) t && fitAt l j c) := by
  rw [starAt_get hj] at h
  have := matB_one h (l.take j) (t ++ [c]) t.length (by simp)
  rw [List.take_succ_eq_append_getElem hj, fitAt_get hj]
  have h1 : (t ++ [c]).take (t.length + 1) = t ++ [c] := List.take_of_length_le (by simp)
  have h2 : (t ++ [c]).take t.length = t := List.take_left' rfl
  have h3 : (t ++ [c])[t.length]'(by simp) = c := by simp
  rw [h1, h2, h3] at this
  exact this
theorem mat_nil_star {l : List El} {j : Nat} (h : starAt l j = true) : matB (l.take (j + 1)) [] = matB (l.take j) [] := by
  rw [take_star h]
  have := matB_star (l.take j) [] 0 (Nat.le_refl _)
  simpa using this
theorem mat_nil_one {l : List El} {j : Nat} (hj : j < l.length) (h : starAt l j = false) : matB (l.take (j + 1)) [] = false := by
  rw [starAt_get hj] at h
  rw [List.take_succ_eq_append_getElem hj]
  exact matB_zero h _
theorem at1_nil0 (l : List El) : at1 l [] 0 = true := by
  rw [at1, full]
  by_cases h : starAt l 0 = true
  · rw [if_pos h, mat_nil_star h]; rfl
  · rw [if_neg h]; rfl
theorem at1_nil (l : List El) (j : Nat) (hj : j < l.length) : at1 l [] (j + 1) = (starAt l j && at1 l [] j) := by
  have e : at1 l [] (j + 1) = matB (l.take (j + 1)) [] := by
    rw [at1, full]
    by_cases h : starAt l (j + 1) = true
    · rw [if_pos h, mat_nil_star h]
    · rw [if_neg h]
  rw [e]
  by_cases h : starAt l j = true
  · rw [at1, full, if_pos h, h, Bool.true_and]
  · have h' : starAt l j = false := by simpa using h
    rw [mat_nil_one hj h', h', Bool.false_and]
theorem at1_zero (l : List El) (t : List UInt8) (c : UInt8) : at1 l (t ++ [c]) 0 = nextS l (at1 l t) c 0 := by
  rw [nextS, at1, full]
  by_cases h : starAt l 0 = true
  · rw [if_pos h, mat_tc_star h, h, star_fits h, at1, full, if_pos h]
    simp [matB_none]
  · have h' : starAt l 0 = false := by simpa using h
    rw [if_neg h, h']
    simp [matB_none]
theorem at1_succ (l : List El) (t : List UInt8) (c : UInt8) (j : Nat) (hj : j < l.length) : at1 l (t ++ [c]) (j + 1) = (nextS l (at1 l t) c (j + 1) || (starAt l j && at1 l (t ++ [c]) j)) := by
  have P : matB (l.take (j + 1)) (t ++ [c]) = ((!starAt l j && (at1 l t j && fitAt l j c)) || (starAt l j && at1 l (t ++ [c]) j)) := by
    by_cases h : starAt l j = true
    · rw [at1, at1, full, if_pos h, h]; simp
    · have h' : starAt l j = false := by simpa using h
      rw [mat_tc_one hj h', at1, full, if_neg h, h']; simp
  rw [nextS, Bool.or_assoc, ← P]
  by_cases h : starAt l (j + 1) = true
  · rw [at1, full, if_pos h, mat_tc_star h, star_fits h, h, at1, full, if_pos h, Bool.or_comm]; simp
  · have h' : starAt l (j + 1) = false := by simpa using h
    rw [at1, full, if_neg h, h']; simp
theorem close_nil (l : List El) {S : Nat → Bool} (hS : ∀ j, j ≤ l.length → S j = (j == 0)) : ∀ j, j ≤ l.length → closeS l S j = at1 l [] j
  | 0, h => by rw [closeS, at1_nil0, hS 0 h]; rfl
  | j + 1, h => by
    rw [closeS, close_nil l hS j (by omega), at1_nil l j (by omega), hS (j + 1) h]
    simp
theorem close_step (l : List El) {S T : Nat → Bool} {t : List UInt8} {c : UInt8} (hS : ∀ j, j ≤ l.length → S j = at1 l t j) (hT : ∀ j, j ≤ l.length → T j = nextS l S c j) : ∀ j, j ≤ l.length → closeS l T j = at1 l (t ++ [c]) j
  | 0, h => by rw [closeS, hT 0 h, at1_zero, nextS, nextS, hS 0 h]
  | j + 1, h => by
    rw [closeS, close_step l hS hT j (by omega), at1_succ l t c j (by omega), hT (j + 1) h, nextS, nextS, hS (j + 1) h, hS j (by omega)]
/-- the place behind an element -/
def beh (l : List El) (p : Nat) : Nat := if starAt l p then p else p + 1
theorem next_iff {l : List El} {S : Nat → Bool} {c : UInt8} {i : Nat} : nextS l S c i = true ↔ ∃ p, p < l.length ∧ beh l p = i ∧ S p = true ∧ fitAt l p c = true := by
  constructor
  · intro h
    cases i with
    | zero =>
      rw [nextS] at h
      simp only [Bool.and_eq_true] at h
      exact ⟨0, starAt_lt h.1, by rw [beh, if_pos h.1], h.2.1, h.2.2⟩
    | succ i =>
      rw [nextS] at h
      simp only [Bool.and_eq_true, Bool.or_eq_true, Bool.not_eq_true'] at h
      rcases h with h | h
      · exact ⟨i + 1, starAt_lt h.1, by rw [beh, if_pos h.1], h.2.1, h.2.2⟩
      · exact ⟨i, fitAt_lt h.2.2, by rw [beh, if_neg (by rw [h.1]; decide)], h.2.1, h.2.2⟩
  · rintro ⟨p, hp, hb, h1, h2⟩
    rw [beh] at hb
    by_cases h : starAt l p = true
    · rw [if_pos h] at hb
      subst hb
      cases p with
      | zero => rw [nextS, h, h1, h2]; rfl
      | succ p => rw [nextS, h, h1, h2]; simp
    · rw [if_neg h] at hb
      subst hb
      have h' : starAt l p = false := by simpa using h
      rw [nextS, h', h1, h2]; simp

/-! ### the order of strings -/
theorem ltL_irrefl : ∀ a : List UInt8, ltL a a = false
  | [] => rfl
  | a :: l => by rw [ltL, ltL_irrefl l]; simp
theorem ltL_trans : ∀ {a b c : List UInt8}, ltL a b = true → ltL b c = true → ltL a c = true
  | [], [], _, h, _ => by cases h
  | [], _ :: _, [], _, h => by cases h
  | [], _ :: _, _ :: _, _, _ => rfl
  | _ :: _, [], _, h, _ => by cases h
  | _ :: _, _ :: _, [], _, h => by cases h
  | x :: a, y :: b, z :: c, h1, h2 => by
    rw [ltL, Bool.or_eq_true, Bool.and_eq_true, decide_eq_true_iff] at h1 h2 ⊢
    rcases h1 with h1 | ⟨e1, h1⟩
    · rcases h2 with h2 | ⟨e2, h2⟩
      · left; omega
      · left; rw [beq_iff_eq] at e2; subst e2; exact h1
    · rw [beq_iff_eq] at e1; subst e1
      rcases h2 with h2 | ⟨e2, h2⟩
      · left; exact h2
      · right; exact ⟨e2, ltL_trans h1 h2⟩
theorem ltL_total : ∀ {a b : List UInt8}, ltL a b = false → ltL b a = true ∨ a = b
  | [], [], _ => .inr rfl
  | [], _ :: _, h => by cases h
  | _ :: _, [], _ => .inl rfl
  | x :: a, y :: b, h => by
    rw [ltL, Bool.or_eq_false_iff, Bool.and_eq_false_iff, decide_eq_false_iff_not] at h
    obtain ⟨h1, h2⟩ := h
    by_cases e : x = y
    · subst e
      rcases h2 with h2 | h2
      · simp at h2
      · rcases ltL_total h2 with h3 | h3
        · left; rw [ltL, h3]; simp
        · right; rw [h3]
    · left
      have : x.toNat ≠ y.toNat := fun h => e (UInt8.toNat_inj.1 h)
      rw [ltL, Bool.or_eq_true, decide_eq_true_iff]; left; omega
theorem ltL_snoc : ∀ {a b : List UInt8} (x y : UInt8), a.length = b.length → ltL (a ++ [x]) (b ++ [y]) = (ltL a b || (decide (a = b) && decide (x.toNat < y.toNat)))
  | [], [], x, y, _ => by show (decide (x.toNat < y.toNat) || (x == y && false)) = _; simp [ltL]
  | [], _ :: _, _, _, h => by simp at h
  | _ :: _, [], _, _, h => by simp at h
  | c :: a, d :: b, x, y, h => by
    rw [List.cons_append, List.cons_append, ltL, ltL, ltL_snoc x y (by simpa using h)]
    by_cases e : c = d
    · subst e; simp
    · have : (c == d) = false := by simpa using e
      rw [this]; simp [e]
/-- o is the first string of A -/
def OptMin (o : Option ByteArray) (A : List UInt8 → Prop) : Prop := match o with
  | none => ∀ t, ¬ A t
  | some s => A s.data.toList ∧ ∀ t, A t → ltL t s.data.toList = false
theorem OptMin.congr {o : Option ByteArray} {A B : List UInt8 → Prop} (h : OptMin o A) (e : ∀ t, A t ↔ B t) : OptMin o B := by
  cases o with
  | none => exact fun t hb => h t ((e t).2 hb)
  | some s => exact ⟨(e _).1 h.1, fun t hb => h.2 t ((e t).2 hb)⟩
/-- what is noted at a pair -/
def note (o : Option ByteArray) (s : ByteArray) : Option ByteArray := match o with
  | none => some s
  | some k => if ltL s.data.toList k.data.toList then some s else some k
theorem note_min {o : Option ByteArray} {s : ByteArray} {A B : List UInt8 → Prop} (h : OptMin o A) (hs : OptMin (some s) B) : OptMin (note o s) (fun t => A t ∨ B t) := by
  cases o with
  | none => exact ⟨.inr hs.1, fun t ht => ht.elim (fun h' => absurd h' (h t)) (hs.2 t)⟩
  | some k =>
    rw [note]
    by_cases e : ltL s.data.toList k.data.toList = true
    · rw [if_pos e]
      refine ⟨.inr hs.1, fun t ht => ht.elim (fun h' => ?_) (hs.2 t)⟩
      cases hq : ltL t s.data.toList with
      | false => rfl
      | true => have := ltL_trans hq e; rw [h.2 t h'] at this; cases this
    · rw [if_neg e]
      have e' : ltL s.data.toList k.data.toList = false := by simpa using e
      refine ⟨.inl h.1, fun t ht => ht.elim (h.2 t) (fun h' => ?_)⟩
      cases hq : ltL t k.data.toList with
      | false => rfl
      | true =>
        have h2 := hs.2 t h'
        rcases ltL_total e' with h3 | h3
        · have := ltL_trans hq h3; rw [h2] at this; cases this
        · rw [h3, hq] at h2; cases h2
abbrev Fn := Nat → Nat → Option ByteArray
def noteF (F : Fn) (a b : Nat) (s : ByteArray) : Fn := fun i j => if i = a ∧ j = b then note (F a b) s else F i j
def IsMin (n m : Nat) (F : Fn) (D : Nat → Nat → List UInt8 → Prop) : Prop := ∀ i j, i ≤ n → j ≤ m → OptMin (F i j) (D i j)
theorem IsMin.congr {n m : Nat} {F : Fn} {D D' : Nat → Nat → List UInt8 → Prop} (h : IsMin n m F D) (e : ∀ i j t, i ≤ n → j ≤ m → (D i j t ↔ D' i j t)) : IsMin n m F D' := fun i j hi hj => (h i j hi hj).congr fun t => e i j t hi hj
theorem noteF_min {n m : Nat} {F : Fn} {D : Nat → Nat → List UInt8 → Prop} (h : IsMin n m F D) {s : ByteArray} {B : List UInt8 → Prop} (hs : OptMin (some s) B) (a b : Nat) : IsMin n m (noteF F a b s) (fun i j t => D i j t ∨ (i = a ∧ j = b ∧ B t)) := fun i j hi hj => by
  unfold noteF
  by_cases e : i = a ∧ j = b
  · rw [if_pos e]
    obtain ⟨rfl, rfl⟩ := e
    exact (note_min (h i j hi hj) hs).congr fun t => ⟨fun h => h.imp id fun h => ⟨rfl, rfl, h⟩, fun h => h.imp id fun h => h.2.2⟩
  · rw [if_neg e]
    exact (h i j hi hj).congr fun t => ⟨.inl, fun h => h.elim id fun h => absurd ⟨h.1, h.2.1⟩ e⟩
/-! ### pairs that are reached without a character -/
def stF (l m : List El) (i j : Nat) (F : Fn) : Fn := match F i j with
  | none => F
  | some s => if starAt m j then noteF (if starAt l i then noteF F (i + 1) j s else F) i (j + 1) s else (if starAt l i then noteF F (i + 1) j s else F)
def inF (l m : List El) (i : Nat) (F : Fn) : Nat → Fn
  | 0 => F
  | j + 1 => stF l m i j (inF l m i F j)
def ouF (l m : List El) (F : Fn) : Nat → Fn
  | 0 => F
  | i + 1 => inF l m i (ouF l m F i) (m.length + 1)
section
variable {l m : List El} {A C : Nat → Nat → List UInt8 → Prop}
/-- C is what is reached from A -/
def Closes (l m : List El) (A C : Nat → Nat → List UInt8 → Prop) : Prop := ∀ i j t, i ≤ l.length → j ≤ m.length →
  (C i j t ↔ A i j t ∨ (∃ p, i = p + 1 ∧ starAt l p = true ∧ C p j t) ∨ (∃ q, j = q + 1 ∧ starAt m q = true ∧ C i q t))
def doneB (i j x y : Nat) : Prop := x < i ∨ (x = i ∧ y < j)
def StD (l m : List El) (A C : Nat → Nat → List UInt8 → Prop) (i j : Nat) (a b : Nat) (t : List UInt8) : Prop :=
  A a b t ∨ (∃ p, a = p + 1 ∧ starAt l p = true ∧ doneB i j p b ∧ C p b t) ∨ (∃ q, b = q + 1 ∧ starAt m q = true ∧ doneB i j a q ∧ C a q t)
theorem stD_now (hC : Closes l m A C) {i j : Nat} (hi : i ≤ l.length) (hj : j ≤ m.length) (t : List UInt8) : StD l m A C i j i j t ↔ C i j t := by
  rw [hC i j t hi hj, StD]
  constructor
  · rintro (h | ⟨p, h1, h2, _, h3⟩ | ⟨q, h1, h2, _, h3⟩)
    · exact .inl h
    · exact .inr (.inl ⟨p, h1, h2, h3⟩)
    · exact .inr (.inr ⟨q, h1, h2, h3⟩)
  · rintro (h | ⟨p, h1, h2, h3⟩ | ⟨q, h1, h2, h3⟩)
    · exact .inl h
    · exact .inr (.inl ⟨p, h1, h2, .inl (by omega), h3⟩)
    · exact .inr (.inr ⟨q, h1, h2, .inr ⟨rfl, by omega⟩, h3⟩)
theorem done_succ {i j x y : Nat} : doneB i (j + 1) x y ↔ doneB i j x y ∨ (x = i ∧ y = j) := by unfold doneB; omega
theorem stD_succ {i j a b : Nat} {t : List UInt8} : StD l m A C i (j + 1) a b t ↔ StD l m A C i j a b t ∨ (a = i + 1 ∧ b = j ∧ starAt l i = true ∧ C i j t) ∨ (a = i ∧ b = j + 1 ∧ starAt m j = true ∧ C i j t) := by
  unfold StD
  constructor
  · rintro (h | ⟨p, h1, h2, h3, h4⟩ | ⟨q, h1, h2, h3, h4⟩)
    · exact .inl (.inl h)
    · rcases done_succ.1 h3 with h3 | ⟨rfl, rfl⟩
      · exact .inl (.inr (.inl ⟨p, h1, h2, h3, h4⟩))
      · exact .inr (.inl ⟨h1, rfl, h2, h4⟩)
    · rcases done_succ.1 h3 with h3 | ⟨rfl, rfl⟩
      · exact .inl (.inr (.inr ⟨q, h1, h2, h3, h4⟩))
      · exact .inr (.inr ⟨rfl, h1, h2, h4⟩)
  · rintro ((h | ⟨p, h1, h2, h3, h4⟩ | ⟨q, h1, h2, h3, h4⟩) | ⟨rfl, rfl, h2, h4⟩ | ⟨rfl, rfl, h2, h4⟩)
    · exact .inl h
    · exact .inr (.inl ⟨p, h1, h2, done_succ.2 (.inl h3), h4⟩)
    · exact .inr (.inr ⟨q, h1, h2, done_succ.2 (.inl h3), h4⟩)
    · exact .inr (.inl ⟨_, rfl, h2, done_succ.2 (.inr ⟨rfl, rfl⟩), h4⟩)
    · exact .inr (.inr ⟨_, rfl, h2, done_succ.2 (.inr ⟨rfl, rfl⟩), h4⟩)
theorem st_min (hC : Closes l m A C) {F : Fn} {i j : Nat} (hi : i ≤ l.length) (hj : j ≤ m.length) (h : IsMin l.length m.length F (StD l m A C i j)) : IsMin l.length m.length (stF l m i j F) (StD l m A C i (j + 1)) := by
  have hn := (h i j hi hj).congr (stD_now hC hi hj)
  unfold stF
  cases hF : F i j with
  | none =>
    rw [hF] at hn
    refine h.congr fun a b t _ _ => ?_
    rw [stD_succ]
    exact ⟨.inl, fun h => h.elim id fun h => h.elim (fun h => absurd h.2.2.2 (hn t)) (fun h => absurd h.2.2.2 (hn t))⟩
  | some s =>
    rw [hF] at hn
    simp only
    have h1 : IsMin l.length m.length (if starAt l i then noteF F (i + 1) j s else F) (fun a b t => StD l m A C i j a b t ∨ (a = i + 1 ∧ b = j ∧ starAt l i = true ∧ C i j t)) := by
      by_cases hs : starAt l i = true
      · rw [if_pos hs]
        exact (noteF_min h hn (i + 1) j).congr fun a b t _ _ => ⟨fun g => g.imp id fun g => ⟨g.1, g.2.1, hs, g.2.2⟩, fun g => g.imp id fun g => ⟨g.1, g.2.1, g.2.2.2⟩⟩
      · rw [if_neg hs]
        exact h.congr fun a b t _ _ => ⟨.inl, fun g => g.elim id fun g => absurd g.2.2.1 hs⟩
    by_cases hs : starAt m j = true
    · rw [if_pos hs]
      refine (noteF_min h1 hn i (j + 1)).congr fun a b t _ _ => ?_
      rw [stD_succ]
      exact ⟨fun g => g.elim (fun g => g.imp id .inl) fun g => .inr (.inr ⟨g.1, g.2.1, hs, g.2.2⟩), fun g => g.elim (fun g => .inl (.inl g)) fun g => g.elim (fun g => .inl (.inr g)) fun g => .inr ⟨g.1, g.2.1, g.2.2.2⟩⟩
    · rw [if_neg hs]
      refine h1.congr fun a b t _ _ => ?_
      rw [stD_succ]
      exact ⟨fun g => g.imp id .inl, fun g => g.imp id fun g => g.elim id fun g => absurd g.2.2.1 hs⟩
theorem in_min (hC : Closes l m A C) {F : Fn} {i : Nat} (hi : i ≤ l.length) (h : IsMin l.length m.length F (StD l m A C i 0)) : ∀ j, j ≤ m.length + 1 → IsMin l.length m.length (inF l m i F j) (StD l m A C i j)
  | 0, _ => h
  | j + 1, hj => st_min hC hi (by omega) (in_min hC hi h j (by omega))
theorem ou_min (hC : Closes l m A C) {F : Fn} (h : IsMin l.length m.length F A) : ∀ i, i ≤ l.length + 1 → IsMin l.length m.length (ouF l m F i) (StD l m A C i 0)
  | 0, _ => h.congr fun a b t _ _ => by
      unfold StD doneB
      exact ⟨.inl, fun g => g.elim id fun g => g.elim (fun ⟨p, _, _, g, _⟩ => by omega) (fun ⟨p, _, _, g, _⟩ => by omega)⟩
  | i + 1, hi => (in_min hC (by omega) (ou_min hC h i (by omega)) (m.length + 1) (Nat.le_refl _)).congr fun a b t ha hb => by
      unfold StD doneB
      constructor
      · rintro (g | ⟨p, h1, h2, h3, h4⟩ | ⟨q, h1, h2, h3, h4⟩)
        · exact .inl g
        · exact .inr (.inl ⟨p, h1, h2, by omega, h4⟩)
        · exact .inr (.inr ⟨q, h1, h2, by omega, h4⟩)
      · rintro (g | ⟨p, h1, h2, h3, h4⟩ | ⟨q, h1, h2, h3, h4⟩)
        · exact .inl g
        · exact .inr (.inl ⟨p, h1, h2, by omega, h4⟩)
        · exact .inr (.inr ⟨q, h1, h2, by omega, h4⟩)
/-- all that is reached without a character -/
theorem closed_min (hC : Closes l m A C) {F : Fn} (h : IsMin l.length m.length F A) : IsMin l.length m.length (ouF l m F (l.length + 1)) C :=
  (ou_min hC h (l.length + 1) (Nat.le_refl _)).congr fun a b t ha hb => by
    rw [hC a b t ha hb]
    unfold StD doneB
    constructor
    · rintro (g | ⟨p, h1, h2, h3, h4⟩ | ⟨q, h1, h2, h3, h4⟩)
      · exact .inl g
      · exact .inr (.inl ⟨p, h1, h2, h4⟩)
      · exact .inr (.inr ⟨q, h1, h2, h4⟩)
    · rintro (g | ⟨p, h1, h2, h4⟩ | ⟨q, h1, h2, h4⟩)
      · exact .inl g
      · exact .inr (.inl ⟨p, h1, h2, by omega, h4⟩)
      · exact .inr (.inr ⟨q, h1, h2, by omega, h4⟩)
end
/-! ### .. with one character more -/
/-- the first character from k on that serves both -/
def fbN (l m : List El) (i j : Nat) : Nat → Option Nat
  | 0 => none
  | k + 1 => match fbN l m i j k with
    | some c => some c
    | none => if fitAt l i (UInt8.ofNat k) && (fitAt m j (UInt8.ofNat k) && chW (UInt8.ofNat k)) then some k else none
def fb (l m : List El) (i j : Nat) : Option Nat := fbN l m i j 256
def okC (l m : List El) (i j : Nat) (c : UInt8) : Prop := fitAt l i c = true ∧ fitAt m j c = true ∧ chW c = true
theorem fbN_none {l m : List El} {i j : Nat} : ∀ {k : Nat}, fbN l m i j k = none → ∀ c < k, ¬ okC l m i j (UInt8.ofNat c)
  | 0, _, c, hc => by omega
  | k + 1, h, c, hc => by
    rw [fbN] at h
    cases hk : fbN l m i j k with
    | some d => rw [hk] at h; cases h
    | none =>
      rw [hk] at h
      simp only at h
      rcases Nat.lt_or_ge c k with hlt | hge
      · exact fbN_none hk c hlt
      · obtain rfl : c = k := by omega
        rintro ⟨h1, h2, h3⟩
        rw [h1, h2, h3] at h
        cases h
theorem fbN_some {l m : List El} {i j : Nat} : ∀ {k d : Nat}, fbN l m i j k = some d → d < k ∧ okC l m i j (UInt8.ofNat d) ∧ ∀ c < d, ¬ okC l m i j (UInt8.ofNat c)
  | 0, d, h => by cases h
  | k + 1, d, h => by
    rw [fbN] at h
    cases hk : fbN l m i j k with
    | some e =>
      rw [hk] at h
      cases h
      obtain ⟨h1, h2⟩ := fbN_some hk
      exact ⟨by omega, h2⟩
    | none =>
      rw [hk] at h
      simp only at h
      split at h
      · rename_i hc
        cases h
        simp only [Bool.and_eq_true] at hc
        exact ⟨by omega, ⟨hc.1, hc.2.1, hc.2.2⟩, fbN_none hk⟩
      · cases h
theorem fb_none {l m : List El} {i j : Nat} (h : fb l m i j = none) (c : UInt8) : ¬ okC l m i j c := by
  have := fbN_none h c.toNat (UInt8.toNat_lt c)
  rwa [UInt8.ofNat_toNat] at this
theorem fb_some {l m : List El} {i j d : Nat} (h : fb l m i j = some d) : d < 256 ∧ okC l m i j (UInt8.ofNat d) ∧ ∀ c : UInt8, okC l m i j c → d ≤ c.toNat := by
  obtain ⟨h1, h2, h3⟩ := fbN_some h
  refine ⟨h1, h2, fun c hc => ?_⟩
  rcases Nat.lt_or_ge c.toNat d with hlt | hge
  · have := h3 c.toNat hlt
    rw [UInt8.ofNat_toNat] at this
    exact absurd hc this
  · exact hge
def chF (l m : List El) (R : Fn) (i j : Nat) (N : Fn) : Fn := match R i j with
  | none => N
  | some s => match fb l m i j with
    | none => N
    | some c => noteF N (beh l i) (beh m j) (s ++ bOne (UInt8.ofNat c))
def icF (l m : List El) (R : Fn) (i : Nat) (N : Fn) : Nat → Fn
  | 0 => N
  | j + 1 => chF l m R i j (icF l m R i N j)
def ocF (l m : List El) (R N : Fn) : Nat → Fn
  | 0 => N
  | i + 1 => icF l m R i (ocF l m R N i) m.length
section
variable {l m : List El} {C : Nat → Nat → List UInt8 → Prop}
/-- what is reached from C by one character at pairs that are done -/
def ChD (l m : List El) (C : Nat → Nat → List UInt8 → Prop) (i j : Nat) (a b : Nat) (t : List UInt8) : Prop :=
  ∃ p q s c, t = s ++ [c] ∧ p < l.length ∧ q < m.length ∧ doneB i j p q ∧ beh l p = a ∧ beh m q = b ∧ C p q s ∧ okC l m p q c
theorem chD_succ {i j a b : Nat} {t : List UInt8} (hi : i < l.length) (hj : j < m.length) : ChD l m C i (j + 1) a b t ↔ ChD l m C i j a b t ∨ (a = beh l i ∧ b = beh m j ∧ ∃ s c, t = s ++ [c] ∧ C i j s ∧ okC l m i j c) := by
  unfold ChD
  constructor
  · rintro ⟨p, q, s, c, h1, h2, h3, h4, h5, h6, h7, h8⟩
    rcases done_succ.1 h4 with h4 | ⟨rfl, rfl⟩
    · exact .inl ⟨p, q, s, c, h1, h2, h3, h4, h5, h6, h7, h8⟩
    · exact .inr ⟨h5.symm, h6.symm, s, c, h1, h7, h8⟩
  · rintro (⟨p, q, s, c, h1, h2, h3, h4, h5, h6, h7, h8⟩ | ⟨h5, h6, s, c, h1, h7, h8⟩)
    · exact ⟨p, q, s, c, h1, h2, h3, done_succ.2 (.inl h4), h5, h6, h7, h8⟩
    · exact ⟨i, j, s, c, h1, hi, hj, done_succ.2 (.inr ⟨rfl, rfl⟩), h5.symm, h6.symm, h7, h8⟩
theorem ch_min {r : Nat} (hr : ∀ i j t, C i j t → t.length = r) {R : Fn} (hR : IsMin l.length m.length R C) {N : Fn} {i j : Nat} (hi : i < l.length) (hj : j < m.length) (h : IsMin l.length m.length N (ChD l m C i j)) : IsMin l.length m.length (chF l m R i j N) (ChD l m C i (j + 1)) := by
  have hn := hR i j (by omega) (by omega)
  unfold chF
  cases hF : R i j with
  | none =>
    rw [hF] at hn
    refine h.congr fun a b t _ _ => ?_
    rw [chD_succ hi hj]
    exact ⟨.inl, fun g => g.elim id fun ⟨_, _, s, c, _, g, _⟩ => absurd g (hn s)⟩
  | some s =>
    rw [hF] at hn
    simp only
    cases hb : fb l m i j with
    | none =>
      refine h.congr fun a b t _ _ => ?_
      rw [chD_succ hi hj]
      exact ⟨.inl, fun g => g.elim id fun ⟨_, _, _, c, _, _, g⟩ => absurd g (fb_none hb c)⟩
    | some d =>
      obtain ⟨h1, h2, h3⟩ := fb_some hb
      have hsl : (s ++ bOne (UInt8.ofNat d)).data.toList = s.data.toList ++ [UInt8.ofNat d] := by simp [bOne]
      have hm : OptMin (some (s ++ bOne (UInt8.ofNat d))) (fun t => ∃ s c, t = s ++ [c] ∧ C i j s ∧ okC l m i j c) := by
        refine ⟨⟨_, _, hsl, hn.1, h2⟩, ?_⟩
        rintro t ⟨u, c, rfl, hu, hc⟩
        rw [hsl, ltL_snoc _ _ ((hr i j u hu).trans (hr i j _ hn.1).symm), hn.2 u hu, Bool.false_or, Bool.and_eq_false_iff]
        right
        have := h3 c hc
        rw [decide_eq_false_iff_not, UInt8.toNat_ofNat_of_lt' (by simpa using h1)]
        omega
      refine (noteF_min h hm (beh l i) (beh m j)).congr fun a b t _ _ => ?_
      rw [chD_succ hi hj]
theorem ic_min {r : Nat} (hr : ∀ i j t, C i j t → t.length = r) {R : Fn} (hR : IsMin l.length m.length R C) {N : Fn} {i : Nat} (hi : i < l.length) (h : IsMin l.length m.length N (ChD l m C i 0)) : ∀ j, j ≤ m.length → IsMin l.length m.length (icF l m R i N j) (ChD l m C i j)
  | 0, _ => h
  | j + 1, hj => ch_min hr hR hi (by omega) (ic_min hr hR hi h j (by omega))
theorem oc_min {r : Nat} (hr : ∀ i j t, C i j t → t.length = r) {R : Fn} (hR : IsMin l.length m.length R C) : ∀ i, i ≤ l.length → IsMin l.length m.length (ocF l m R (fun _ _ => none) i) (ChD l m C i 0)
  | 0, _ => fun a b _ _ => fun t ⟨p, q, s, c, _, _, _, h, _⟩ => by unfold doneB at h; omega
  | i + 1, hi => (ic_min hr hR (by omega) (oc_min hr hR i (by omega)) m.length (Nat.le_refl _)).congr fun a b t _ _ => by
      unfold ChD doneB
      constructor
      · rintro ⟨p, q, s, c, h1, h2, h3, h4, h5⟩
        exact ⟨p, q, s, c, h1, h2, h3, by omega, h5⟩
      · rintro ⟨p, q, s, c, h1, h2, h3, h4, h5⟩
        exact ⟨p, q, s, c, h1, h2, h3, by omega, h5⟩
end
/-! ### the rounds -/
/-- the strings of r characters that reach a pair -/
def CD (l m : List El) (r : Nat) (i j : Nat) (t : List UInt8) : Prop := t.length = r ∧ t.all chW = true ∧ at1 l t i = true ∧ at1 m t j = true
theorem closes_step (l m : List El) (r : Nat) : Closes l m (fun i j t => ∃ s c, t = s ++ [c] ∧ s.length = r ∧ s.all chW = true ∧ chW c = true ∧ nextS l (at1 l s) c i = true ∧ nextS m (at1 m s) c j = true) (CD l m (r + 1)) := by
  intro i j t hi hj
  unfold CD
  have fix : ∀ (l : List El) (s : List UInt8) (c : UInt8) (i : Nat), i ≤ l.length → (at1 l (s ++ [c]) i = true ↔ nextS l (at1 l s) c i = true ∨ ∃ p, i = p + 1 ∧ starAt l p = true ∧ at1 l (s ++ [c]) p = true) := by
    intro l s c i hi
    cases i with
    | zero => rw [at1_zero]; exact ⟨.inl, fun g => g.elim id fun ⟨p, h, _⟩ => by omega⟩
    | succ i =>
      rw [at1_succ l s c i (by omega), Bool.or_eq_true, Bool.and_eq_true]
      refine ⟨fun g => g.imp id fun g => ⟨i, rfl, g⟩, fun g => g.imp id ?_⟩
      rintro ⟨p, h, g⟩
      obtain rfl : i = p := by omega
      exact g
  constructor
  · rintro ⟨h1, h2, h3, h4⟩
    rcases List.eq_nil_or_concat t with rfl | ⟨s, c, rfl⟩
    · simp at h1
    · rw [List.concat_eq_append] at h1 h2 h3 h4 ⊢
      have g3 := (fix l s c i hi).1 h3
      have g4 := (fix m s c j hj).1 h4
      rcases g3 with g3 | ⟨p, e, g, g3⟩
      · rcases g4 with g4 | ⟨q, e, g, g4⟩
        · simp at h1 h2
          exact .inl ⟨s, c, rfl, h1, by simpa using h2.1, h2.2, g3, g4⟩
        · exact .inr (.inr ⟨q, e, g, h1, h2, h3, g4⟩)
      · exact .inr (.inl ⟨p, e, g, h1, h2, g3, h4⟩)
  · rintro (⟨s, c, rfl, h1, h2, h3, h4, h5⟩ | ⟨p, rfl, h0, h1, h2, h3, h4⟩ | ⟨q, rfl, h0, h1, h2, h3, h4⟩)
    · refine ⟨by simp [h1], by simp only [List.all_append, h2, Bool.true_and]; simp [h3], (fix l s c i hi).2 (.inl h4), (fix m s c j hj).2 (.inl h5)⟩
    · rcases List.eq_nil_or_concat t with rfl | ⟨s, c, rfl⟩
      · simp at h1
      · rw [List.concat_eq_append] at h1 h2 h3 h4 ⊢
        exact ⟨h1, h2, (fix l s c _ hi).2 (.inr ⟨p, rfl, h0, h3⟩), h4⟩
    · rcases List.eq_nil_or_concat t with rfl | ⟨s, c, rfl⟩
      · simp at h1
      · rw [List.concat_eq_append] at h1 h2 h3 h4 ⊢
        exact ⟨h1, h2, h3, (fix m s c _ hj).2 (.inr ⟨q, rfl, h0, h4⟩)⟩
theorem closes_start (l m : List El) : Closes l m (fun i j t => t = [] ∧ i = 0 ∧ j = 0) (CD l m 0) := by
  intro i j t hi hj
  unfold CD
  have fix : ∀ (l : List El) (i : Nat), i ≤ l.length → (at1 l [] i = true ↔ i = 0 ∨ ∃ p, i = p + 1 ∧ starAt l p = true ∧ at1 l [] p = true) := by
    intro l i hi
    cases i with
    | zero => rw [at1_nil0]; exact ⟨fun _ => .inl rfl, fun _ => rfl⟩
    | succ i =>
      rw [at1_nil l i (by omega), Bool.and_eq_true]
      refine ⟨fun g => .inr ⟨i, rfl, g⟩, fun g => g.elim (fun g => by omega) ?_⟩
      rintro ⟨p, h, g⟩
      obtain rfl : i = p := by omega
      exact g
  constructor
  · rintro ⟨h1, h2, h3, h4⟩
    obtain rfl := List.length_eq_zero_iff.1 h1
    rcases (fix l i hi).1 h3 with g3 | ⟨p, e, g, g3⟩
    · rcases (fix m j hj).1 h4 with g4 | ⟨q, e, g, g4⟩
      · exact .inl ⟨rfl, g3, g4⟩
      · exact .inr (.inr ⟨q, e, g, h1, h2, h3, g4⟩)
    · exact .inr (.inl ⟨p, e, g, h1, h2, g3, h4⟩)
  · rintro (⟨rfl, rfl, rfl⟩ | ⟨p, rfl, h0, h1, h2, h3, h4⟩ | ⟨q, rfl, h0, h1, h2, h3, h4⟩)
    · exact ⟨rfl, rfl, at1_nil0 _, at1_nil0 _⟩
    · obtain rfl := List.length_eq_zero_iff.1 h1
      exact ⟨h1, h2, (fix l _ hi).2 (.inr ⟨p, rfl, h0, h3⟩), h4⟩
    · obtain rfl := List.length_eq_zero_iff.1 h1
      exact ⟨h1, h2, h3, (fix m _ hj).2 (.inr ⟨q, rfl, h0, h4⟩)⟩
def startF : Fn := noteF (fun _ _ => none) 0 0 ⟨#[]⟩
/-- what is known ahead of a round, and behind its first half -/
def rndF (l m : List El) : Nat → Fn
  | 0 => startF
  | r + 1 => ocF l m (ouF l m (rndF l m r) (l.length + 1)) (fun _ _ => none) l.length
theorem rnd_min (l m : List El) : ∀ r, IsMin l.length m.length (ouF l m (rndF l m r) (l.length + 1)) (CD l m r)
  | 0 => by
    refine closed_min (closes_start l m) ?_
    have h0 : IsMin l.length m.length (fun _ _ => none) (fun _ _ _ => False) := fun i j _ _ t h => h
    refine (noteF_min h0 (s := ⟨#[]⟩) (B := fun t => t = []) ⟨rfl, ?_⟩ 0 0).congr fun i j t _ _ => ?_
    · rintro t rfl; rfl
    · simp only [false_or]
      exact ⟨fun ⟨h1, h2, h3⟩ => ⟨h3, h1, h2⟩, fun ⟨h1, h2, h3⟩ => ⟨h2, h3, h1⟩⟩
  | r + 1 => by
    refine closed_min (closes_step l m r) ?_
    refine (oc_min (fun i j t h => h.1) (rnd_min l m r) l.length (Nat.le_refl _)).congr fun a b t _ _ => ?_
    unfold ChD CD doneB okC
    constructor
    · rintro ⟨p, q, s, c, rfl, hp, hq, _, rfl, rfl, ⟨h1, h2, h3, h4⟩, h5, h6, h7⟩
      exact ⟨s, c, rfl, h1, h2, h7, next_iff.2 ⟨p, hp, rfl, h3, h5⟩, next_iff.2 ⟨q, hq, rfl, h4, h6⟩⟩
    · rintro ⟨s, c, rfl, h1, h2, h7, h8, h9⟩
      obtain ⟨p, hp, rfl, h3, h5⟩ := next_iff.1 h8
      obtain ⟨q, hq, rfl, h4, h6⟩ := next_iff.1 h9
      exact ⟨p, q, s, c, rfl, hp, hq, .inl hp, rfl, rfl, ⟨h1, h2, h3, h4⟩, h5, h6, h7⟩
/-- what is found in the round r -/
def foundF (l m : List El) (r : Nat) : Option ByteArray := ouF l m (rndF l m r) (l.length + 1) l.length m.length
theorem found_some {l m : List El} {r : Nat} {s : ByteArray} (h : foundF l m r = some s) : s.data.toList.length = r ∧ s.data.toList.all chW = true ∧ Mat l s.data.toList ∧ Mat m s.data.toList ∧ ∀ t, t.length = r → t.all chW = true → Mat l t → Mat m t → ltL t s.data.toList = false := by
  have := rnd_min l m r l.length m.length (Nat.le_refl _) (Nat.le_refl _)
  rw [foundF] at h
  rw [h] at this
  obtain ⟨⟨h1, h2, h3, h4⟩, h5⟩ := this
  rw [at1_end, matB_iff] at h3 h4
  exact ⟨h1, h2, h3, h4, fun t g1 g2 g3 g4 => h5 t ⟨g1, g2, by rw [at1_end]; exact matB_iff.2 g3, by rw [at1_end]; exact matB_iff.2 g4⟩⟩
theorem found_none {l m : List El} {r : Nat} (h : foundF l m r = none) : ∀ t, t.length = r → t.all chW = true → Mat l t → Mat m t → False := by
  have := rnd_min l m r l.length m.length (Nat.le_refl _) (Nat.le_refl _)
  rw [foundF] at h
  rw [h] at this
  exact fun t g1 g2 g3 g4 => this t ⟨g1, g2, by rw [at1_end]; exact matB_iff.2 g3, by rw [at1_end]; exact matB_iff.2 g4⟩
end Go.Proofs.Ytjjdihkjkmhjnaa
