/- The mathematics of sequences: increasing subsequences, the first heaviest one, the greedy cover, inversions, runs, permutations, moves. -/
import Derived.Lib.Hide
namespace Go.Proofs.Yteceahbnafaeoaa

/-- an element: its index, its value, its weight -/
structure It where
  i : Nat
  v : Int
  w : Nat
/-- the items of a list, from index k on -/
def its (k : Nat) : List Int → List Nat → List It
  | x :: l, w :: ws => ⟨k, x, w⟩ :: its (k + 1) l ws
  | _, _ => []
def gt (b : Option Int) (x : Int) : Bool := match b with | none => true | some y => decide (y < x)
/-- the greatest weight of increasing subsequences above a bound -/
def best (b : Option Int) : List It → Nat
  | [] => 0
  | c :: z => if gt b c.v then max (c.w + best (some c.v) z) (best b z) else best b z
/-- the first subsequence of a weight -/
def pk (b : Option Int) (left : Nat) : List It → List It
  | [] => []
  | c :: z => if left = 0 then [] else if gt b c.v = true ∧ c.w + best (some c.v) z = left then c :: pk (some c.v) (left - c.w) z else pk b left z
def Inc (b : Option Int) : List It → Prop
  | [] => True
  | c :: z => gt b c.v = true ∧ Inc (some c.v) z
def wt (z : List It) : Nat := (z.map (·.w)).sum
def idx (z : List It) : List Int := z.map (fun c => (c.i : Int))
def AscI (k : Nat) : List It → Prop
  | [] => True
  | c :: z => k ≤ c.i ∧ AscI (c.i + 1) z

theorem gt_trans {b : Option Int} {x y : Int} (h : gt b x = true) (h2 : x < y) : gt b y = true := by
  unfold gt at *; split
  · rfl
  · simp at h ⊢; omega
theorem best_le {b : Option Int} {x : Int} (h : gt b x = true) : ∀ z, best (some x) z ≤ best b z
  | [] => Nat.le_refl _
  | c :: z => by
    have ih := best_le h z
    unfold best
    by_cases hc : gt (some x) c.v = true
    · rw [if_pos hc, if_pos (gt_trans h (by simpa [gt] using hc))]; omega
    · rw [if_neg hc]; split <;> omega
theorem best_ge : ∀ (z s : List It) (b : Option Int), s.Sublist z → Inc b s → wt s ≤ best b z
  | [], s, b, hs, _ => by cases hs; simp [wt]
  | c :: z, s, b, hs, hi => by
    unfold best
    cases hs with
    | cons _ h =>
      have := best_ge z s b h hi
      split <;> omega
    | cons_cons _ h =>
      rename_i s'
      obtain ⟨h1, h2⟩ := hi
      have := best_ge z s' _ h h2
      rw [if_pos h1]
      have e : wt (c :: s') = c.w + wt s' := by simp [wt]
      omega
theorem AscI.mono {z : List It} {k m : Nat} (h : AscI k z) (hm : m ≤ k) : AscI m z := by
  cases z with
  | nil => trivial
  | cons c z => exact ⟨Nat.le_trans hm h.1, h.2⟩
theorem AscI.ge {k : Nat} : ∀ {z : List It}, AscI k z → ∀ c ∈ z, k ≤ c.i
  | [], _, c, hc => by cases hc
  | d :: z, h, c, hc => by
    rcases List.mem_cons.1 hc with rfl | hc
    · exact h.1
    · have := AscI.ge h.2 c hc; have := h.1; omega
theorem asc_its : ∀ (k : Nat) (l : List Int) (ws : List Nat), AscI k (its k l ws)
  | _, [], _ => by unfold its; trivial
  | _, _ :: _, [] => by unfold its; trivial
  | k, _ :: l, _ :: ws => by unfold its; exact ⟨Nat.le_refl _, asc_its (k + 1) l ws⟩
/-- the lexicographical order -/
def lexL : List Int → List Int → Bool
  | [], _ => true
  | _ :: _, [] => false
  | x :: a, y :: b => decide (x < y) || (decide (x = y) && lexL a b)
theorem lexL_refl : ∀ a, lexL a a = true
  | [] => rfl
  | x :: a => by simp [lexL, lexL_refl a]
theorem pk_nil (b : Option Int) (z : List It) : pk b 0 z = [] := by cases z <;> simp [pk]
theorem pk_good : ∀ (z : List It) (b : Option Int) (k : Nat), AscI k z → ∀ left, best b z = left →
    (pk b left z).Sublist z ∧ Inc b (pk b left z) ∧ wt (pk b left z) = left ∧
    ∀ s : List It, s.Sublist z → Inc b s → wt s = left → lexL (idx (pk b left z)) (idx s) = true
  | [], b, k, _, left, h => by
    have h : 0 = left := h
    subst h
    exact ⟨by simp [pk], by simp [pk, Inc], by simp [pk, wt], fun s _ _ _ => by simp [pk, idx, lexL]⟩
  | c :: z, b, k, ha, left, h => by
    by_cases h0 : left = 0
    · subst h0
      rw [pk_nil]
      exact ⟨by simp, trivial, by simp [wt], fun s _ _ _ => by simp [idx, lexL]⟩
    · unfold pk
      rw [if_neg h0]
      unfold best at h
      by_cases hc : gt b c.v = true
      · rw [if_pos hc] at h
        by_cases he : c.w + best (some c.v) z = left
        · rw [if_pos ⟨hc, he⟩]
          obtain ⟨h1, h2, h3, h4⟩ := pk_good z (some c.v) _ ha.2 (left - c.w) (by omega)
          refine ⟨h1.cons_cons c, ⟨hc, h2⟩, ?_, fun s hs hi hw => ?_⟩
          · have e : ∀ s', wt (c :: s') = c.w + wt s' := fun s' => by simp [wt]
            rw [e, h3]; omega
          · cases hs with
            | cons _ h =>
              cases s with
              | nil => simp [wt] at hw; omega
              | cons d s =>
                have hd : c.i < d.i := AscI.ge ha.2 d (h.subset (by simp))
                simp only [idx, List.map_cons, lexL]
                simp [show ((c.i : Int) < d.i) by omega]
            | cons_cons _ h =>
              rename_i s'
              have e : wt (c :: s') = c.w + wt s' := by simp [wt]
              have := h4 s' h hi.2 (by omega)
              simp only [idx, List.map_cons, lexL]
              simp only [idx] at this
              simp [this]
        · rw [if_neg (fun h' => he h'.2)]
          obtain ⟨h1, h2, h3, h4⟩ := pk_good z b _ ha.2 left (by omega)
          refine ⟨h1.cons c, h2, h3, fun s hs hi hw => ?_⟩
          cases hs with
          | cons _ h => exact h4 s h hi hw
          | cons_cons _ h =>
            rename_i s'
            have e : wt (c :: s') = c.w + wt s' := by simp [wt]
            have := best_ge z s' _ h hi.2
            omega
      · rw [if_neg hc] at h
        rw [if_neg (fun h' => hc h'.1)]
        obtain ⟨h1, h2, h3, h4⟩ := pk_good z b _ ha.2 left h
        refine ⟨h1.cons c, h2, h3, fun s hs hi hw => ?_⟩
        cases hs with
        | cons _ h => exact h4 s h hi hw
        | cons_cons _ h => exact absurd hi.1 hc
/-- the first heaviest increasing subsequence of a list, as items, and its weight -/
def firstZ (z : List It) : List It := pk none (best none z) z
def firstR (l : List Int) (ws : List Nat) : List Int := idx (firstZ (its 0 l ws))
def mostR (l : List Int) (ws : List Nat) : Nat := best none (its 0 l ws)
def ones (l : List Int) : List Nat := List.replicate l.length 1
def incR (l : List Int) : List Int := firstR l (ones l)
end Go.Proofs.Yteceahbnafaeoaa
