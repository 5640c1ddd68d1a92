/- The order of strings and of lists of strings. -/
import Derived.Test.YtbdeakodmhcgdaaShelf
import Derived.Test.YtbdeakodmhcgdaaEdCommon
import Derived.Test.YtbdeakodmhcgdaaEdRefs
namespace Go.Proofs.Ytbdeakodmhcgdaa
set_option linter.unusedSimpArgs false
set_option linter.unusedVariables false
open Go.RowKit Go.Deep

def cmpB (a b : List UInt8) : Int := Lib.compareBytes a b
theorem cmpB_refl : ∀ a, cmpB a a = 0
  | [] => rfl
  | x :: t => by
    have : ¬ x < x := UInt8.lt_irrefl x
    have ih := cmpB_refl t
    simp only [cmpB] at ih ⊢
    simp [Lib.compareBytes, this, ih]
theorem cmpB_cons (x y : UInt8) (a b : List UInt8) : cmpB (x :: a) (y :: b) = if x < y then -1 else if y < x then 1 else cmpB a b := rfl
theorem cmpB_vals : ∀ a b, cmpB a b = -1 ∨ cmpB a b = 0 ∨ cmpB a b = 1
  | [], [] => .inr (.inl rfl)
  | [], _ :: _ => .inl rfl
  | _ :: _, [] => .inr (.inr rfl)
  | x :: a, y :: b => by
    have ih := cmpB_vals a b
    rw [cmpB_cons]
    split
    · exact .inl rfl
    · split
      · exact .inr (.inr rfl)
      · exact ih
theorem cmpB_neg : ∀ a b, cmpB b a = - cmpB a b
  | [], [] => rfl
  | [], _ :: _ => rfl
  | _ :: _, [] => rfl
  | x :: a, y :: b => by
    have ih := cmpB_neg a b
    rw [cmpB_cons, cmpB_cons]
    by_cases h1 : x < y
    · have h2 : ¬ y < x := fun h => UInt8.lt_irrefl x (UInt8.lt_trans h1 h)
      simp [h1, h2]
    · by_cases h2 : y < x
      · simp [h1, h2]
      · simp only [h1, h2, if_false]; exact ih
theorem cmpB_zero : ∀ a b, cmpB a b = 0 → a = b
  | [], [], _ => rfl
  | [], _ :: _, h => by cases h
  | _ :: _, [], h => by cases h
  | x :: a, y :: b, h => by
    rw [cmpB_cons] at h
    by_cases h1 : x < y
    · simp [h1] at h
    · by_cases h2 : y < x
      · simp [h1, h2] at h
      · simp only [h1, h2, if_false] at h
        have e : x = y := UInt8.le_antisymm (UInt8.not_lt.1 h2) (UInt8.not_lt.1 h1)
        rw [e, cmpB_zero a b h]
theorem cmpB_trans : ∀ a b c, cmpB a b ≤ 0 → cmpB b c ≤ 0 → cmpB a c ≤ 0
  | [], _, [], _, _ => Int.le_refl _
  | [], _, _ :: _, _, _ => by show (-1 : Int) ≤ 0; omega
  | _ :: _, [], _, h, _ => absurd h (by show ¬ (1 : Int) ≤ 0; omega)
  | _ :: _, _ :: _, [], _, h => absurd h (by show ¬ (1 : Int) ≤ 0; omega)
  | x :: a, y :: b, z :: c, h, k => by
    rw [cmpB_cons] at h k ⊢
    by_cases h1 : x < y
    · by_cases k1 : y < z
      · rw [if_pos (UInt8.lt_trans h1 k1)]; omega
      · by_cases k2 : z < y
        · rw [if_neg k1, if_pos k2] at k; omega
        · have e : y = z := UInt8.le_antisymm (UInt8.not_lt.1 k2) (UInt8.not_lt.1 k1)
          subst e
          rw [if_pos h1]; omega
    · by_cases h2 : y < x
      · rw [if_neg h1, if_pos h2] at h; omega
      · have e : x = y := UInt8.le_antisymm (UInt8.not_lt.1 h2) (UInt8.not_lt.1 h1)
        subst e
        by_cases k1 : x < z
        · rw [if_pos k1]; omega
        · by_cases k2 : z < x
          · rw [if_neg k1, if_pos k2] at k; omega
          · rw [if_neg h1, if_neg h2] at h
            rw [if_neg k1, if_neg k2] at k
            rw [if_neg k1, if_neg k2]
            exact cmpB_trans a b c h k
theorem cmpB_less : ∀ a b, Op.bytesLess a b = true → cmpB a b = -1
  | [], [], h => by simp [Op.bytesLess] at h
  | [], _ :: _, _ => rfl
  | _ :: _, [], h => by simp [Op.bytesLess] at h
  | x :: a, y :: b, h => by
    simp only [Op.bytesLess, Bool.or_eq_true, decide_eq_true_eq, Bool.and_eq_true, beq_iff_eq] at h
    rw [cmpB_cons]
    rcases h with h | ⟨rfl, h⟩
    · rw [if_pos h]
    · rw [if_neg (UInt8.lt_irrefl x), if_neg (UInt8.lt_irrefl x)]; exact cmpB_less a b h
theorem cmpB_not_less : ∀ a b, Op.bytesLess a b = false → 0 ≤ cmpB a b
  | [], [], _ => Int.le_refl _
  | [], _ :: _, h => by simp [Op.bytesLess] at h
  | _ :: _, [], _ => by show (0 : Int) ≤ 1; omega
  | x :: a, y :: b, h => by
    simp only [Op.bytesLess, Bool.or_eq_false_iff, decide_eq_false_iff_not, Bool.and_eq_false_iff, beq_eq_false_iff_ne] at h
    rw [cmpB_cons, if_neg h.1]
    by_cases h2 : y < x
    · rw [if_pos h2]; omega
    · have e : x = y := UInt8.le_antisymm (UInt8.not_lt.1 h2) (UInt8.not_lt.1 h.1)
      rw [if_neg h2]
      rcases h.2 with h3 | h3
      · exact absurd e h3
      · exact cmpB_not_less a b h3
theorem cmpB_of_less {a b : ByteArray} (h : Op.bytesLess a.toList b.toList = true) : -1 = cmpB a.data.toList b.data.toList := by
  rw [ByteArray.toList_eq, ByteArray.toList_eq] at h; exact (cmpB_less _ _ h).symm
theorem cmpB_of_more {a b : ByteArray} (h : Op.bytesLess a.toList b.toList = false) (hn : (!a.toList == b.toList) = true) : 1 = cmpB a.data.toList b.data.toList := by
  rw [ByteArray.toList_eq, ByteArray.toList_eq] at h hn
  have h0 := cmpB_not_less _ _ h
  have hne : a.data.toList ≠ b.data.toList := by simpa using hn
  rcases cmpB_vals a.data.toList b.data.toList with e | e | e
  · omega
  · exact absurd (cmpB_zero _ _ e) hne
  · exact e.symm
theorem cmpB_of_same {a b : ByteArray} (hn : (!a.toList == b.toList) = false) : 0 = cmpB a.data.toList b.data.toList := by
  rw [ByteArray.toList_eq, ByteArray.toList_eq] at hn
  have he : a.data.toList = b.data.toList := by simpa using hn
  rw [he, cmpB_refl]

/-- the order of strings -/
def ltB (a b : ByteArray) : Bool := decide (cmpB a.data.toList b.data.toList < 0)
theorem ba_same {a b : ByteArray} (h : a.data.toList = b.data.toList) : a = b := by
  obtain ⟨⟨a⟩⟩ := a
  obtain ⟨⟨b⟩⟩ := b
  exact congrArg (fun l => ByteArray.mk (Array.mk l)) h
theorem ltB_total : TotalLt ltB where
  irr := fun x => by rw [ltB, cmpB_refl]; rfl
  trans := fun x y z h1 h2 => by
    simp only [ltB, decide_eq_true_eq] at h1 h2 ⊢
    have h3 := cmpB_trans _ _ _ (Int.le_of_lt h1) (Int.le_of_lt h2)
    rcases (show cmpB x.data.toList z.data.toList < 0 ∨ cmpB x.data.toList z.data.toList = 0 by omega) with h | h
    · exact h
    · have e := ba_same (cmpB_zero _ _ h)
      subst e
      have := cmpB_neg x.data.toList y.data.toList
      omega
  total := fun x y h => by
    simp only [ltB, decide_eq_true_eq]
    have h1 := cmpB_neg x.data.toList y.data.toList
    have h2 : cmpB x.data.toList y.data.toList ≠ 0 := fun e => h (ba_same (cmpB_zero _ _ e))
    omega
theorem ltB_bytes (a b : ByteArray) : Op.bytesLess a.toList b.toList = ltB a b := by
  rw [ByteArray.toList_eq, ByteArray.toList_eq, ltB]
  cases h : Op.bytesLess a.data.toList b.data.toList with
  | true => rw [cmpB_less _ _ h]; rfl
  | false =>
    have := cmpB_not_less _ _ h
    exact (decide_eq_false (by omega)).symm
/-- the better of two lists: the longer one, of two that are as long the less -/
def betterL (c d : List ByteArray) : List ByteArray := if c.length ≠ d.length then (if d.length < c.length then c else d) else if llt ltB d c then d else c
theorem betterL_len (c d : List ByteArray) : (betterL c d).length = max c.length d.length := by
  unfold betterL; split <;> (try split) <;> omega
theorem llt_pre : ∀ (p a b : List ByteArray), llt ltB (p ++ a) (p ++ b) = llt ltB a b
  | [], a, b => rfl
  | x :: p, a, b => by rw [List.cons_append, List.cons_append, llt, ltB_total.irr, llt_pre p a b]; simp
theorem llt_irr : ∀ a : List ByteArray, llt ltB a a = false
  | [] => rfl
  | x :: a => by rw [llt, ltB_total.irr, llt_irr a]; simp

/-! ### one element more: the best of both is the better one -/
theorem sub_ways {α : Type} {x y : α} {a b d : List α} (ha : d.Sublist (x :: a)) (hb : d.Sublist (y :: b)) :
    (d.Sublist a ∧ d.Sublist (y :: b)) ∨ (d.Sublist (x :: a) ∧ d.Sublist b) ∨ (x = y ∧ ∃ d', d = x :: d' ∧ d'.Sublist a ∧ d'.Sublist b) := by
  cases ha with
  | cons _ h => exact .inl ⟨h, hb⟩
  | cons_cons _ h =>
    cases hb with
    | cons _ k => exact .inr (.inl ⟨List.Sublist.cons_cons _ h, k⟩)
    | cons_cons _ k => exact .inr (.inr ⟨rfl, _, rfl, h, k⟩)
theorem llt_trans' : ∀ (a b c : List ByteArray), llt ltB a b = false → llt ltB b c = false → llt ltB a c = false
  | _, _, [], _, _ => by rw [llt]
  | a, [], c :: cs, h1, h2 => by rw [llt] at h2; cases h2
  | [], b :: bs, c :: cs, h1, h2 => by rw [llt] at h1; cases h1
  | a :: ar, b :: bs, c :: cs, h1, h2 => by
    rw [llt, Bool.or_eq_false_iff] at h1 h2 ⊢
    have ht := ltB_total
    have key : ltB a c = false := by
      rw [Bool.eq_false_iff]
      intro h
      by_cases e : a = b
      · subst e; rw [h] at h2; cases h2.1
      · rcases ht.total a b e with g | g
        · rw [g] at h1; cases h1.1
        · have := ht.trans b a c g h; rw [this] at h2; cases h2.1
    refine ⟨key, ?_⟩
    by_cases e : a = c
    · subst e
      have eb : a = b := by
        by_cases e2 : a = b
        · exact e2
        · rcases ht.total a b e2 with g | g
          · rw [g] at h1; cases h1.1
          · rw [g] at h2; cases h2.1
      subst eb
      have k1 : llt ltB ar bs = false := by simpa using h1.2
      have k2 : llt ltB bs cs = false := by simpa using h2.2
      rw [llt_trans' ar bs cs k1 k2]; simp
    · simp [e]
theorem llt_asym : ∀ (a b : List ByteArray), llt ltB a b = true → llt ltB b a = false
  | _, [], h => by rw [llt] at h; cases h
  | [], b :: bs, _ => by rw [llt]
  | a :: ar, b :: bs, h => by
    rw [llt, Bool.or_eq_true] at h
    rw [llt, Bool.or_eq_false_iff]
    have ht := ltB_total
    have asym : ∀ x y, ltB x y = true → ltB y x = false := fun x y h => by
      rw [Bool.eq_false_iff]; intro g
      have := ht.trans x y x h g
      rw [ht.irr] at this; cases this
    rcases h with h | h
    · refine ⟨asym _ _ h, ?_⟩
      have : b ≠ a := fun e => by subst e; rw [ht.irr] at h; cases h
      simp [this]
    · simp only [Bool.and_eq_true, decide_eq_true_eq] at h
      obtain ⟨rfl, h⟩ := h
      refine ⟨ht.irr _, ?_⟩
      rw [llt_asym ar bs h]; simp
/-- what holds of the best of the lists in a set of common subsequences -/
structure BestOf (S : List ByteArray → Prop) (c : List ByteArray) : Prop where
  mem : S c
  long : ∀ d, S d → d.length ≤ c.length
  least : ∀ d, S d → d.length = c.length → llt ltB d c = false
theorem BestOf.union {S T U : List ByteArray → Prop} {c d : List ByteArray} (hc : BestOf S c) (hd : BestOf T d) (h : ∀ x, U x ↔ S x ∨ T x) : BestOf U (betterL c d) := by
  have hl := betterL_len c d
  refine ⟨?_, fun x hx => ?_, fun x hx hlen => ?_⟩
  · rw [h]; unfold betterL
    split
    · split
      · exact .inl hc.mem
      · exact .inr hd.mem
    · split
      · exact .inr hd.mem
      · exact .inl hc.mem
  · rcases (h x).1 hx with g | g
    · have := hc.long x g; omega
    · have := hd.long x g; omega
  · have hx' := (h x).1 hx
    unfold betterL at hlen ⊢
    by_cases e : c.length ≠ d.length
    · rw [if_pos e] at hlen ⊢
      by_cases e2 : d.length < c.length
      · rw [if_pos e2] at hlen ⊢
        rcases hx' with g | g
        · exact hc.least x g hlen
        · have := hd.long x g; omega
      · rw [if_neg e2] at hlen ⊢
        rcases hx' with g | g
        · have := hc.long x g; omega
        · exact hd.least x g hlen
    · rw [if_neg e] at hlen ⊢
      have e : c.length = d.length := by omega
      by_cases e2 : llt ltB d c = true
      · rw [if_pos e2] at hlen ⊢
        rcases hx' with g | g
        · have h1 := hc.least x g (by omega)
          rw [Bool.eq_false_iff]
          intro h2
          -- x < d < c
          have h3 : llt ltB c d = false := by
            rw [Bool.eq_false_iff]; intro h4
            have := llt_asym d c e2
            rw [h4] at this; cases this
          have h5 := llt_trans' x c d h1 h3
          rw [h5] at h2; cases h2
        · exact hd.least x g hlen
      · rw [if_neg e2] at hlen ⊢
        have e2 : llt ltB d c = false := by simpa using e2
        rcases hx' with g | g
        · exact hc.least x g hlen
        · exact llt_trans' x d c (hd.least x g (by omega)) e2
theorem BestOf.isBest {a b c : List ByteArray} : BestOf (fun d => d.Sublist a ∧ d.Sublist b) c ↔ IsBest ltB a b c := by
  constructor
  · intro h
    obtain ⟨d, p, q, r⟩ := lcs_ex a b
    have h1 := h.long d ⟨p, q⟩
    have h2 := lcs_le h.mem.1 h.mem.2
    exact ⟨h.mem.1, h.mem.2, by omega, fun d p q hl => h.least d ⟨p, q⟩ hl⟩
  · rintro ⟨p, q, r, s⟩
    exact ⟨⟨p, q⟩, fun d hd => by have := lcs_le hd.1 hd.2; omega, fun d hd hl => s d hd.1 hd.2 hl⟩
theorem BestOf.cons {S : List ByteArray → Prop} {c : List ByteArray} (h : BestOf S c) (x : ByteArray) : BestOf (fun d => ∃ d', d = x :: d' ∧ S d') (x :: c) := by
  refine ⟨⟨c, rfl, h.mem⟩, ?_, ?_⟩
  · rintro d ⟨d', rfl, hd⟩; have := h.long d' hd; simp; omega
  · rintro d ⟨d', rfl, hd⟩ hl
    have := h.least d' hd (by simpa using hl)
    rw [llt, ltB_total.irr, this]; simp
/-- the step of the table -/
theorem best_more {x y : ByteArray} {a b c1 c2 c3 : List ByteArray} (h1 : IsBest ltB a b c1) (h2 : IsBest ltB a (y :: b) c2) (h3 : IsBest ltB (x :: a) b c3) :
    IsBest ltB (x :: a) (y :: b) (if x = y then betterL (betterL c2 c3) (x :: c1) else betterL c2 c3) := by
  rw [← BestOf.isBest] at h1 h2 h3 ⊢
  by_cases e : x = y
  · rw [if_pos e]
    subst e
    refine ((h2.union h3 (fun d => Iff.rfl)).union (h1.cons x) (fun d => ?_))
    constructor
    · rintro ⟨p, q⟩
      rcases sub_ways p q with ⟨u, v⟩ | ⟨u, v⟩ | ⟨_, d', e, u, v⟩
      · exact .inl (.inl ⟨u, v⟩)
      · exact .inl (.inr ⟨u, v⟩)
      · exact .inr ⟨d', e, u, v⟩
    · rintro ((⟨u, v⟩ | ⟨u, v⟩) | ⟨d', rfl, u, v⟩)
      · exact ⟨u.cons _, v⟩
      · exact ⟨u, v.cons _⟩
      · exact ⟨u.cons_cons _, v.cons_cons _⟩
  · rw [if_neg e]
    refine h2.union h3 (fun d => ?_)
    constructor
    · rintro ⟨p, q⟩
      rcases sub_ways p q with ⟨u, v⟩ | ⟨u, v⟩ | ⟨k, _⟩
      · exact .inl ⟨u, v⟩
      · exact .inr ⟨u, v⟩
      · exact absurd k e
    · rintro (⟨u, v⟩ | ⟨u, v⟩)
      · exact ⟨u.cons _, v⟩
      · exact ⟨u, v.cons _⟩
end Go.Proofs.Ytbdeakodmhcgdaa
