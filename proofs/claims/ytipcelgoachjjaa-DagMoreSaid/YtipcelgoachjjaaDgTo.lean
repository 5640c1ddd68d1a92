/- The reference's to: the least or greatest costs. -/
import Derived.Deep.AppendLies
import Derived.Test.YtipcelgoachjjaaDgUse
import Derived.Test.YtipcelgoachjjaaDgProg1
namespace Go.Proofs.Ytipcelgoachjjaa
set_option linter.unusedSimpArgs false
set_option linter.unusedVariables false
set_option maxRecDepth 100000
open Go.RowKit Go.Deep

/-- what is returned -/
def bestR (ls : List LkV) (b : Bool) (t s : Int) : Int := if b then most ls t s else least ls t s
def accR (ls : List LkV) (b : Bool) (t : Int) (l : List Nat) : Int := if b then mostO ls t l else leastO ls t l
theorem fold_best {n : Int} {ls : List LkV} (hg : Gr n ls) (b : Bool) (t : Int) : Fold ls t (-1) 0 (bestR ls b t) (accR ls b t) := by
  cases b
  · exact fold_least hg t
  · exact fold_most hg t
theorem best_low {n : Nat} {ls : List LkV} (h : Sm n ls) (b : Bool) {t s : Int} (hs : 0 ≤ s) (ht : t < n) (hl : bestR ls b t s ≠ -1) : 0 ≤ bestR ls b t s ∧ bestR ls b t s ≤ 8796093022208 := by
  cases b
  · exact h.low hs ht hl
  · exact h.high hs ht hl
theorem leastO_low {n : Int} {ls : List LkV} (hg : Gr n ls) (t : Int) (l : List Nat) (hl : ∀ i ∈ l, i < ls.length) : leastO ls t l = -1 ∨ 0 ≤ leastO ls t l := by
  refine minL_low fun x hx => ?_
  rw [CO, List.mem_flatMap] at hx
  obtain ⟨i, hi, hx⟩ := hx
  obtain ⟨y, hy, rfl⟩ := List.mem_map.1 hx
  have := C_nonneg hg y hy
  have := (hg.lk (hl i hi)).c0
  omega
theorem mostO_low {n : Int} {ls : List LkV} (hg : Gr n ls) (t : Int) (l : List Nat) : -1 ≤ mostO ls t l := maxL_low _
/-- one link more -/
theorem acc_step {n : Int} {ls : List LkV} (hg : Gr n ls) (b : Bool) (t : Int) (l : List Nat) (hl : ∀ i ∈ l, i < ls.length) {i : Nat} (hi : i < ls.length) (hT : bestR ls b t (lk ls i).t ≠ -1) {c : Int} (hc : (lk ls i).c + bestR ls b t (lk ls i).t = c) (hc0 : 0 ≤ c) :
    accR ls b t (l ++ [i]) = if accR ls b t l < 0 ∨ (b = true ∧ accR ls b t l < c) ∨ (b = false ∧ c < accR ls b t l) then c else accR ls b t l := by
  cases b
  · have h1 := leastO_low hg t l hl
    have hT' : least ls t (lk ls i).t ≠ -1 := hT
    have hc' : (lk ls i).c + least ls t (lk ls i).t = c := hc
    have key : leastO ls t (l ++ [i]) = mn (leastO ls t l) c := by rw [leastO_snoc hg t l hi, if_neg hT', hc']
    simp only [accR, Bool.false_eq_true, if_false, false_and, true_and, false_or]
    rw [key, mn]
    by_cases e : leastO ls t l = -1
    · rw [if_pos e, if_pos (by omega)]
    · rw [if_neg e, if_neg (show ¬ c = -1 by omega)]
      split <;> omega
  · have h1 := mostO_low hg t l
    have hT' : most ls t (lk ls i).t ≠ -1 := hT
    have hc' : (lk ls i).c + most ls t (lk ls i).t = c := hc
    have key : mostO ls t (l ++ [i]) = max (mostO ls t l) c := by rw [mostO_snoc hg t l hi, if_neg hT', hc']
    simp only [accR, if_true, true_and, false_and, or_false, Bool.true_eq_false]
    rw [key]
    split <;> omega
theorem sel_lt {n k : Nat} {p : Nat → Bool} (h : k ≤ n) : ∀ i ∈ selN k p, i < n := fun i hi => by have := (mem_selN.1 hi).1; omega
theorem vals_next {T : Int → Int} {acc : List Nat → Int} {ls : List LkV} {t : Int} {e n' : Int} (hF : Fold ls t n' e T acc) {s : Nat} (hs : (s : Int) < t) (j : Nat) : valsF T acc n' s (out ls s) j = valsF T acc n' ((s : Int) - 1) [] j := by
  unfold valsF
  by_cases h : (j : Int) = s
  · rw [if_neg (by omega), if_pos h, if_pos (by omega), h, hF.low s hs]
  · by_cases h2 : (s : Int) < j
    · rw [if_pos h2, if_pos (by omega)]
    · rw [if_neg h2, if_neg h, if_neg (by omega)]
      split
      · rw [hF.nil]
      · rfl
theorem vals_set {T : Int → Int} {acc : List Nat → Int} {n' : Int} {s : Nat} {l l' : List Nat} {x : Int} (h : acc l' = x) (j : Nat) : (if j = s then intV x else valsF T acc n' s l j) = valsF T acc n' s l' j := by
  unfold valsF
  by_cases e : j = s
  · subst e; rw [if_pos rfl, if_neg (by omega), if_pos rfl, h]
  · rw [if_neg e]
    by_cases h2 : (s : Int) < j
    · rw [if_pos h2, if_pos h2]
    · rw [if_neg h2, if_neg h2, if_neg (by omega), if_neg (by omega)]
end Go.Proofs.Ytipcelgoachjjaa
