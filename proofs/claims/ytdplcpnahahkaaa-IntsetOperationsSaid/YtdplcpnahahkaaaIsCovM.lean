/- Covers: ascending lists of indices, the first one with the fewest. -/
import Derived.Test.YtdplcpnahahkaaaIsMath
namespace Go.Proofs.Ytdplcpnahahkaaa
set_option linter.unusedSimpArgs false
set_option linter.unusedVariables false

/-- c ascends from f on, below n -/
def AscFrom (n : Nat) : Nat → List Nat → Prop
  | _, [] => True
  | f, i :: r => f ≤ i ∧ i < n ∧ AscFrom n (i + 1) r
def lexLt : List Nat → List Nat → Prop
  | i :: a, j :: b => i < j ∨ (i = j ∧ lexLt a b)
  | _, _ => False
theorem lex_tri : ∀ a b : List Nat, a.length = b.length → lexLt a b ∨ a = b ∨ lexLt b a
  | [], [], _ => .inr (.inl rfl)
  | [], _ :: _, h => by simp at h
  | _ :: _, [], h => by simp at h
  | i :: a, j :: b, h => by
    rcases Nat.lt_trichotomy i j with h1 | h1 | h1
    · exact .inl (.inl h1)
    · subst h1
      rcases lex_tri a b (by simpa using h) with h2 | h2 | h2
      · exact .inl (.inr ⟨rfl, h2⟩)
      · exact .inr (.inl (by rw [h2]))
      · exact .inr (.inr (.inr ⟨rfl, h2⟩))
    · exact .inr (.inr (.inl h1))
theorem asc_lt {n : Nat} : ∀ {f : Nat} {c : List Nat}, AscFrom n f c → ∀ i ∈ c, f ≤ i ∧ i < n
  | _, [], _, i, h => by simp at h
  | f, j :: r, ⟨a, b, d⟩, i, h => by
    rcases List.mem_cons.1 h with rfl | h
    · exact ⟨a, b⟩
    · have := asc_lt d i h
      omega
theorem asc_len {n : Nat} : ∀ {f : Nat} {c : List Nat}, AscFrom n f c → f ≤ n → c.length ≤ n - f
  | _, [], _, _ => Nat.zero_le _
  | f, j :: r, ⟨a, b, d⟩, h => by
    have := asc_len d (by omega)
    simp only [List.length_cons]
    omega
def orP (P : List Nat) : Nat → List Nat → Nat
  | m, [] => m
  | m, i :: r => orP P (m ||| P.getD i 0) r
theorem orP_bit (P : List Nat) (x : Nat) : ∀ (c : List Nat) (m : Nat), (orP P m c).testBit x = (m.testBit x || c.any fun i => (P.getD i 0).testBit x)
  | [], m => by simp [orP]
  | i :: r, m => by rw [orP, orP_bit P x r, Nat.testBit_or, List.any_cons, Bool.or_assoc]
theorem orP_lt {P : List Nat} (hP : ∀ m ∈ P, m < 18446744073709551616) : ∀ (c : List Nat) (m : Nat), m < 18446744073709551616 → orP P m c < 18446744073709551616
  | [], m, h => h
  | i :: r, m, h => by
    refine orP_lt hP r _ ?_
    have h2 : P.getD i 0 < 18446744073709551616 := by
      rw [List.getD_eq_getElem?_getD]
      cases e : P[i]? with
      | none => simp
      | some v => exact hP v (List.mem_of_getElem? e)
    have := Nat.or_lt_two_pow (n := 64) (x := m) (y := P.getD i 0) (by simpa using h) (by simpa using h2)
    simpa using this
def Good (P : List Nat) (whole f m k : Nat) (c : List Nat) : Prop := AscFrom P.length f c ∧ c.length = k ∧ orP P m c = whole
def FirstG (P : List Nat) (whole f m k : Nat) (c : List Nat) : Prop := Good P whole f m k c ∧ ∀ c', Good P whole f m k c' → ¬ lexLt c' c
theorem good_nil {P : List Nat} {whole f m : Nat} (h : m = whole) : FirstG P whole f m 0 [] := ⟨⟨trivial, rfl, h⟩, fun c' h' => by rw [List.length_eq_zero_iff.1 h'.2.1]; exact id⟩
theorem good_none {P : List Nat} {whole f m : Nat} (h : m ≠ whole) (c : List Nat) : ¬ Good P whole f m 0 c := fun ⟨_, a, b⟩ => by
  rw [List.length_eq_zero_iff.1 a] at b; exact h b
/-- none with a first index below i -/
def NoneTo (P : List Nat) (whole f m k i : Nat) : Prop := ∀ j r, Good P whole f m k (j :: r) → i ≤ j
theorem none_start {P : List Nat} {whole f m k : Nat} : NoneTo P whole f m k f := fun j r h => h.1.1
theorem none_step {P : List Nat} {whole f m k i : Nat} (h : NoneTo P whole f m (k + 1) i) (hn : ∀ c, ¬ Good P whole (i + 1) (m ||| P.getD i 0) k c) : NoneTo P whole f m (k + 1) (i + 1) := fun j r hg => by
  have h1 := h j r hg
  by_cases e : j = i
  · subst e
    exact absurd ⟨hg.1.2.2, by simpa using hg.2.1, hg.2.2⟩ (hn r)
  · omega
theorem none_end {P : List Nat} {whole f m k : Nat} (h : NoneTo P whole f m (k + 1) P.length) (c : List Nat) : ¬ Good P whole f m (k + 1) c := fun hg => by
  cases c with
  | nil => simp [Good] at hg
  | cons j r => have := h j r hg; have := hg.1.2.1; omega
theorem first_step {P : List Nat} {whole f m k i : Nat} {c : List Nat} (h : NoneTo P whole f m (k + 1) i) (hf : f ≤ i) (hi : i < P.length) (hc : FirstG P whole (i + 1) (m ||| P.getD i 0) k c) : FirstG P whole f m (k + 1) (i :: c) := by
  refine ⟨⟨⟨hf, hi, hc.1.1⟩, by simp [hc.1.2.1], hc.1.2.2⟩, fun c' hg => ?_⟩
  cases c' with
  | nil => simp [lexLt]
  | cons j r =>
    have h1 := h j r hg
    rintro (h2 | ⟨rfl, h2⟩)
    · omega
    · exact hc.2 r ⟨hg.1.2.2, by simpa using hg.2.1, hg.2.2⟩ h2

/-! ### what a cover is -/
def IsCov (T : List Int) (L : List (List Int)) (c : List Nat) : Prop := AscFrom L.length 0 c ∧ ∀ x, x < 64 → has T x = c.any fun i => has (L.getD i []) x
def Best (T : List Int) (L : List (List Int)) (c : List Nat) : Prop := IsCov T L c ∧ ∀ c', IsCov T L c' → c.length ≤ c'.length ∧ (c'.length = c.length → ¬ lexLt c' c)
theorem best_one {T : List Int} {L : List (List Int)} {c d : List Nat} (h : Best T L c) (k : Best T L d) : c = d := by
  have h1 := h.2 d k.1
  have h2 := k.2 c h.1
  rcases lex_tri c d (by omega) with h3 | h3 | h3
  · exact absurd h3 (h2.2 (by omega))
  · exact h3
  · exact absurd h3 (h1.2 (by omega))
def upL (c : List Nat) : List Int := c.map fun i : Nat => (i : Int)
def CovP (T : List Int) (L : List (List Int)) (r : List Int × Int) : Prop :=
  (16 < L.length ∧ r = ([], 4)) ∨ (¬ 16 < L.length ∧ (errL T ≠ 0 ∨ ∃ l ∈ L, errL l ≠ 0) ∧ r = ([], 1)) ∨
  (¬ 16 < L.length ∧ ¬ (errL T ≠ 0 ∨ ∃ l ∈ L, errL l ≠ 0) ∧ ((∃ c, Best T L c ∧ r = (upL c, 0)) ∨ ((∀ c, ¬ IsCov T L c) ∧ r = ([], 6))))
theorem covP_one {T : List Int} {L : List (List Int)} {r q : List Int × Int} (h : CovP T L r) (k : CovP T L q) : r = q := by
  rcases h with ⟨a, rfl⟩ | ⟨a, b, rfl⟩ | ⟨a, b, ⟨c, h1, rfl⟩ | ⟨h1, rfl⟩⟩
  all_goals rcases k with ⟨a', rfl⟩ | ⟨a', b', rfl⟩ | ⟨a', b', ⟨c', h2, rfl⟩ | ⟨h2, rfl⟩⟩
  all_goals first
    | rfl
    | (exact absurd a a')
    | (exact absurd a' a)
    | (exact absurd b b')
    | (exact absurd b' b)
    | (rw [best_one h1 h2])
    | (exact absurd h1.1 (h2 _))
    | (exact absurd h2.1 (h1 _))
theorem parts_get {L : List (List Int)} (hL : ∀ l ∈ L, InR l) {i : Nat} (hi : i < L.length) (x : Nat) : ((L.map mask).getD i 0).testBit x = has (L.getD i []) x := by
  rw [List.getD_eq_getElem?_getD, List.getD_eq_getElem?_getD, List.getElem?_map, List.getElem?_eq_getElem hi]
  exact mask_bit (hL _ (List.getElem_mem hi)) x
theorem any_congr' {α : Type} {l : List α} {p q : α → Bool} (h : ∀ x ∈ l, p x = q x) : l.any p = l.any q := by
  induction l with
  | nil => rfl
  | cons a r ih => rw [List.any_cons, List.any_cons, h a (List.mem_cons_self ..), ih fun x hx => h x (List.mem_cons_of_mem _ hx)]
theorem good_cov {T : List Int} {L : List (List Int)} (hT : InR T) (hL : ∀ l ∈ L, InR l) (k : Nat) (c : List Nat) : Good (L.map mask) (mask T) 0 0 k c ↔ IsCov T L c ∧ c.length = k := by
  have hm : ∀ m ∈ L.map mask, m < 18446744073709551616 := fun m h => by
    obtain ⟨l, h1, rfl⟩ := List.mem_map.1 h
    exact mask_lt (hL l h1)
  have key : AscFrom L.length 0 c → (orP (L.map mask) 0 c = mask T ↔ ∀ x, x < 64 → has T x = c.any fun i => has (L.getD i []) x) := fun ha => by
    have e : ∀ x, (orP (L.map mask) 0 c).testBit x = c.any fun i => has (L.getD i []) x := fun x => by
      rw [orP_bit, Nat.zero_testBit, Bool.false_or]
      exact any_congr' fun i hi => parts_get hL (asc_lt ha i hi).2 x
    constructor
    · intro h x hx
      rw [← e x, h, mask_bit hT]
    · intro h
      exact ext_bits (orP_lt hm c 0 (by decide)) (mask_lt hT) fun x hx => by rw [e x, mask_bit hT, h x hx]
  rw [Good, IsCov, List.length_map]
  exact ⟨fun ⟨a, b, d⟩ => ⟨⟨a, (key a).1 d⟩, b⟩, fun ⟨⟨a, d⟩, b⟩ => ⟨a, b, (key a).2 d⟩⟩
theorem best_first {T : List Int} {L : List (List Int)} (hT : InR T) (hL : ∀ l ∈ L, InR l) {k : Nat} {c : List Nat} (h : FirstG (L.map mask) (mask T) 0 0 k c) (hn : ∀ j, j < k → ∀ c, ¬ Good (L.map mask) (mask T) 0 0 j c) : Best T L c := by
  obtain ⟨h1, h2⟩ := (good_cov hT hL k c).1 h.1
  refine ⟨h1, fun c' h' => ⟨?_, fun e => h.2 c' ((good_cov hT hL k c').2 ⟨h', by omega⟩)⟩⟩
  exact Nat.le_of_not_lt fun hlt => hn c'.length (by omega) c' ((good_cov hT hL _ c').2 ⟨h', rfl⟩)
end Go.Proofs.Ytdplcpnahahkaaa
