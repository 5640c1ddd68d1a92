/- Sets of integers below 64 as ascending lists: what the functions of layer 4 yield, as plain functions. -/
import Derived.Test.YtdplcpnahahkaaaRows
namespace Go.Proofs.Ytdplcpnahahkaaa
set_option linter.unusedSimpArgs false
set_option linter.unusedVariables false

/-- why a list, behind the integer p, is no set: 0, 2 or 10 -/
def errFrom : Int → List Int → Int
  | _, [] => 0
  | p, x :: r => if x < 0 ∨ 63 < x then 2 else if x ≤ p then 10 else errFrom x r
def errL (l : List Int) : Int := errFrom (-1) l
def Sorted (l : List Int) : Prop := l.Pairwise (· < ·)
def InR (l : List Int) : Prop := ∀ x ∈ l, 0 ≤ x ∧ x < 64
theorem err_zero (l : List Int) : ∀ p : Int, -1 ≤ p → (errFrom p l = 0 ↔ Sorted l ∧ InR l ∧ ∀ x ∈ l, p < x) := by
  induction l with
  | nil => intro p _; simp [errFrom, Sorted, InR]
  | cons x r ih =>
    intro p hp
    rw [errFrom]
    by_cases h1 : x < 0 ∨ 63 < x
    · rw [if_pos h1]
      refine ⟨fun h => absurd h (by decide), fun ⟨_, h, _⟩ => ?_⟩
      have := h x (List.mem_cons_self ..)
      omega
    · rw [if_neg h1]
      by_cases h2 : x ≤ p
      · rw [if_pos h2]
        refine ⟨fun h => absurd h (by decide), fun ⟨_, _, h⟩ => ?_⟩
        have := h x (List.mem_cons_self ..)
        omega
      · rw [if_neg h2, ih x (by omega)]
        constructor
        · rintro ⟨a, b, c⟩
          refine ⟨List.pairwise_cons.2 ⟨c, a⟩, ?_, ?_⟩
          · intro y hy
            rcases List.mem_cons.1 hy with rfl | hy
            · omega
            · exact b y hy
          · intro y hy
            rcases List.mem_cons.1 hy with rfl | hy
            · omega
            · have := c y hy; omega
        · rintro ⟨a, b, c⟩
          obtain ⟨a1, a2⟩ := List.pairwise_cons.1 a
          exact ⟨a2, fun y hy => b y (List.mem_cons_of_mem _ hy), a1⟩
theorem err_iff (l : List Int) : errL l = 0 ↔ Sorted l ∧ InR l := by
  rw [errL, err_zero l _ (Int.le_refl _)]
  refine ⟨fun ⟨a, b, _⟩ => ⟨a, b⟩, fun ⟨a, b⟩ => ⟨a, b, fun x hx => ?_⟩⟩
  have := b x hx
  omega
theorem sorted_ext : ∀ l m : List Int, Sorted l → Sorted m → (∀ x, x ∈ l ↔ x ∈ m) → l = m
  | [], [], _, _, _ => rfl
  | [], y :: m, _, _, h => absurd ((h y).2 (List.mem_cons_self ..)) (by simp)
  | x :: l, [], _, _, h => absurd ((h x).1 (List.mem_cons_self ..)) (by simp)
  | x :: l, y :: m, hl, hm, h => by
    obtain ⟨l1, l2⟩ := List.pairwise_cons.1 hl
    obtain ⟨m1, m2⟩ := List.pairwise_cons.1 hm
    have e : x = y := by
      rcases List.mem_cons.1 ((h x).1 (List.mem_cons_self ..)) with e | hx
      · exact e
      · rcases List.mem_cons.1 ((h y).2 (List.mem_cons_self ..)) with e | hy
        · exact e.symm
        · have := m1 x hx; have := l1 y hy; omega
    subst e
    rw [sorted_ext l m l2 m2]
    intro z
    constructor
    · intro hz
      rcases List.mem_cons.1 ((h z).1 (List.mem_cons_of_mem _ hz)) with e | hz'
      · have := l1 z hz; omega
      · exact hz'
    · intro hz
      rcases List.mem_cons.1 ((h z).2 (List.mem_cons_of_mem _ hz)) with e | hz'
      · have := m1 z hz; omega
      · exact hz'

/-- the integers below n that p holds of -/
def sel (n : Nat) (p : Nat → Bool) : List Int := ((List.range n).filter p).map fun i : Nat => (i : Int)
def has (l : List Int) (i : Nat) : Bool := decide ((i : Int) ∈ l)
theorem sel_succ (n : Nat) (p : Nat → Bool) : sel (n + 1) p = if p n = true then sel n p ++ [(n : Int)] else sel n p := by
  rw [sel, List.range_succ, List.filter_append, List.map_append]
  by_cases h : p n = true
  · rw [if_pos h, List.filter_cons_of_pos h]; rfl
  · rw [if_neg h, List.filter_cons_of_neg h]; simp [sel]
theorem mem_sel {n : Nat} {p : Nat → Bool} {x : Int} : x ∈ sel n p ↔ ∃ i, i < n ∧ p i = true ∧ x = i := by
  simp only [sel, List.mem_map, List.mem_filter, List.mem_range]
  exact ⟨fun ⟨i, ⟨a, b⟩, c⟩ => ⟨i, a, b, c.symm⟩, fun ⟨i, a, b, c⟩ => ⟨i, ⟨a, b⟩, c.symm⟩⟩
theorem sel_congr {n : Nat} {p q : Nat → Bool} (h : ∀ i, i < n → p i = q i) : sel n p = sel n q := by
  rw [sel, sel, List.filter_congr]
  intro i hi
  exact h i (List.mem_range.1 hi)
theorem sel_len (n : Nat) (p : Nat → Bool) : (sel n p).length ≤ n := by
  rw [sel, List.length_map]
  exact Nat.le_trans (List.length_filter_le _ _) (by simp)
theorem sel_sorted (n : Nat) (p : Nat → Bool) : Sorted (sel n p) := by
  rw [Sorted, sel]
  refine List.Pairwise.map _ ?_ (List.Pairwise.filter _ List.pairwise_lt_range)
  intro a b h
  omega
theorem has_sel (n : Nat) (p : Nat → Bool) (i : Nat) : has (sel n p) i = (decide (i < n) && p i) := by
  rw [Bool.eq_iff_iff, has, decide_eq_true_eq, mem_sel]
  simp only [Bool.and_eq_true, decide_eq_true_eq]
  exact ⟨fun ⟨j, a, b, c⟩ => by obtain rfl : i = j := by omega
                                exact ⟨a, b⟩, fun ⟨a, b⟩ => ⟨i, a, b, rfl⟩⟩
theorem sel_inR {n : Nat} (hn : n ≤ 64) (p : Nat → Bool) : InR (sel n p) := by
  intro x hx
  obtain ⟨i, a, _, rfl⟩ := mem_sel.1 hx
  omega
theorem err_sel {n : Nat} (hn : n ≤ 64) (p : Nat → Bool) : errL (sel n p) = 0 := (err_iff _).2 ⟨sel_sorted n p, sel_inR hn p⟩
theorem sel_has {l : List Int} (h : errL l = 0) : sel 64 (has l) = l := by
  obtain ⟨a, b⟩ := (err_iff l).1 h
  refine sorted_ext _ _ (sel_sorted _ _) a fun x => ?_
  rw [mem_sel]
  constructor
  · rintro ⟨i, _, h, rfl⟩
    simpa [has] using h
  · intro hx
    have := b x hx
    exact ⟨x.toNat, by omega, by rw [has, show ((x.toNat : Nat) : Int) = x by omega]; simpa using hx, by omega⟩
theorem sel_eq {p q : Nat → Bool} (h : sel 64 p = sel 64 q) : ∀ i, i < 64 → p i = q i := by
  intro i hi
  have := congrArg (fun l => has l i) h
  simpa [has_sel, hi] using this
theorem set_ext {l m : List Int} (hl : errL l = 0) (hm : errL m = 0) (h : ∀ i, i < 64 → has l i = has m i) : l = m := by
  rw [← sel_has hl, ← sel_has hm]; exact sel_congr h
theorem has_out {l : List Int} (h : errL l = 0) {i : Nat} (hi : 64 ≤ i) : has l i = false := by
  rw [has, decide_eq_false_iff_not]
  intro hx
  have := ((err_iff l).1 h).2 _ hx
  omega

/-! ### markings -/
def mask (l : List Int) : Nat := l.foldl (fun m x => m ||| 2 ^ x.toNat) 0
theorem mask_snoc (l : List Int) (x : Int) : mask (l ++ [x]) = mask l ||| 2 ^ x.toNat := by simp [mask]
theorem mask_bit0 (l : List Int) (h : ∀ x ∈ l, 0 ≤ x) (i : Nat) : ∀ m : Nat, (l.foldl (fun m x => m ||| 2 ^ x.toNat) m).testBit i = (m.testBit i || has l i) := by
  induction l with
  | nil => intro m; simp [has]
  | cons x r ih =>
    intro m
    rw [List.foldl_cons, ih (fun y hy => h y (List.mem_cons_of_mem _ hy)), Nat.testBit_or, Nat.testBit_two_pow, Bool.or_assoc]
    congr 1
    have h0 := h x (List.mem_cons_self ..)
    rw [Bool.eq_iff_iff]
    simp only [Bool.or_eq_true, decide_eq_true_eq, has, List.mem_cons]
    constructor
    · rintro (h | h)
      · exact .inl (by omega)
      · exact .inr h
    · rintro (h | h)
      · exact .inl (by omega)
      · exact .inr h
theorem mask_bit {l : List Int} (h : InR l) (i : Nat) : (mask l).testBit i = has l i := by
  rw [mask, mask_bit0 l (fun x hx => (h x hx).1) i 0]; simp
theorem mask_lt {l : List Int} (h : InR l) : mask l < 18446744073709551616 := by
  have : mask l < 2 ^ 64 := by
    refine Nat.lt_pow_two_of_testBit _ fun i hi => ?_
    rw [mask_bit h, has, decide_eq_false_iff_not]
    intro hx
    have := h _ hx
    omega
  simpa using this
theorem mask_zero {l : List Int} (h : InR l) : mask l = 0 ↔ l = [] := by
  constructor
  · intro e
    cases l with
    | nil => rfl
    | cons x r =>
      have h0 := h x (List.mem_cons_self ..)
      have hb := mask_bit h x.toNat
      rw [e] at hb
      simp [has, show ((x.toNat : Nat) : Int) = x by omega] at hb
  · rintro rfl; rfl
theorem ext_bits {a b : Nat} (ha : a < 18446744073709551616) (hb : b < 18446744073709551616) (h : ∀ i, i < 64 → a.testBit i = b.testBit i) : a = b := by
  refine Nat.eq_of_testBit_eq fun i => ?_
  by_cases hi : i < 64
  · exact h i hi
  · rw [Nat.testBit_lt_two_pow (Nat.lt_of_lt_of_le ha (by exact Nat.pow_le_pow_right (n := 2) (by decide) (show 64 ≤ i by omega))),
      Nat.testBit_lt_two_pow (Nat.lt_of_lt_of_le hb (by exact Nat.pow_le_pow_right (n := 2) (by decide) (show 64 ≤ i by omega)))]
theorem ones_bit (n i : Nat) : (2 ^ n - 1).testBit i = decide (i < n) := by simp [Nat.testBit_two_pow_sub_one]
theorem ones_lt {n : Nat} (h : n ≤ 64) : 2 ^ n - 1 < 18446744073709551616 := by
  have : 2 ^ n ≤ 2 ^ 64 := Nat.pow_le_pow_right (by decide) h
  omega
theorem within_iff {a b : Nat} (ha : a < 18446744073709551616) (hb : b < 18446744073709551616) : (a &&& (18446744073709551615 - b)) = 0 ↔ ∀ i, i < 64 → a.testBit i = true → b.testBit i = true := by
  have hc : ∀ i, i < 64 → (18446744073709551615 - b).testBit i = !b.testBit i := fun i hi => by
    have := Nat.testBit_two_pow_sub_succ (x := b) (n := 64) (by simpa using hb) i
    rw [show (2 : Nat) ^ 64 - (b + 1) = 18446744073709551615 - b by omega] at this
    rw [this]; simp [hi]
  constructor
  · intro h i hi h1
    have := congrArg (fun m => m.testBit i) h
    simp only [Nat.testBit_and, hc i hi, h1, Nat.zero_testBit, Bool.true_and] at this
    simpa using this
  · intro h
    refine ext_bits (by have : a &&& (18446744073709551615 - b) ≤ a := Nat.and_le_left
                        omega) (by decide) fun i hi => ?_
    rw [Nat.testBit_and, hc i hi, Nat.zero_testBit]
    cases h1 : a.testBit i
    · rfl
    · rw [h i hi h1]; rfl

/-! ### the results -/
def ofR (l : List Int) : List Int × Int := if ∃ x ∈ l, x < 0 ∨ 63 < x then ([], 2) else (sel 64 (has l), 0)
def opR (f : Bool → Bool → Bool) (a b : List Int) : List Int × Int := if errL a ≠ 0 ∨ errL b ≠ 0 then ([], 1) else (sel 64 fun i => f (has a i) (has b i), 0)
def compR (n : Int) (l : List Int) : List Int × Int :=
  if n < 0 ∨ 64 < n then ([], 2) else if errL l ≠ 0 then ([], 1) else if ∃ x ∈ l, n ≤ x then ([], 2) else (sel n.toNat fun i => !has l i, 0)
def withinR (a b : List Int) : Bool × Int := if errL a ≠ 0 ∨ errL b ≠ 0 then (false, 1) else (decide (∀ x ∈ a, x ∈ b), 0)
abbrev orB (a b : Bool) : Bool := a || b
abbrev andB (a b : Bool) : Bool := a && b
abbrev minB (a b : Bool) : Bool := a && !b
def cnt (L : List (List Int)) (x : Nat) : Nat := (L.filter fun l => has l x).length
def partB (n : Int) (L : List (List Int)) : Bool := decide ((∀ l ∈ L, l ≠ []) ∧ ∀ x : Nat, x < 64 → cnt L x = if (x : Int) < n then 1 else 0)
def partR (n : Int) (L : List (List Int)) : Bool × Int := if n < 0 ∨ 64 < n then (false, 2) else if ∃ l ∈ L, errL l ≠ 0 then (false, 1) else (partB n L, 0)
end Go.Proofs.Ytdplcpnahahkaaa
