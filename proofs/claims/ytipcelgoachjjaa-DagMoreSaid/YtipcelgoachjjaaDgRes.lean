/- The results of the functions. -/
import Derived.Test.YtipcelgoachjjaaDgVals
namespace Go.Proofs.Ytipcelgoachjjaa
set_option linter.unusedSimpArgs false
set_option linter.unusedVariables false

abbrev toI (l : List Nat) : List Int := l.map fun i : Nat => (i : Int)
def potR (n : Int) (ls : List LkV) (t : Int) : List Int × Int := if nodesR n ls [t] ≠ 0 then ([], nodesR n ls [t]) else (tab n.toNat (least ls t), 0)
def cntR (n : Int) (ls : List LkV) (s t : Int) : Int × Int := if nodesR n ls [s, t] ≠ 0 then (0, nodesR n ls [s, t]) else ((npaths ls t s : Int), 0)
def lonR (n : Int) (ls : List LkV) (s t : Int) : Int × Int := if nodesR n ls [s, t] ≠ 0 then (0, nodesR n ls [s, t]) else if most ls t s = -1 then (0, 6) else (most ls t s, 0)
/-- the link that least paths begin with -/
def hit (ls : List LkV) (t s : Int) (i : Nat) : Bool := decide (least ls t (lk ls i).t ≠ -1 ∧ (lk ls i).c + least ls t (lk ls i).t = least ls t s)
def firstF (ls : List LkV) (t : Int) : Nat → Int → List Nat
  | 0, _ => []
  | k + 1, s => if s = t then [] else match (out ls s).find? (hit ls t s) with
    | some i => i :: firstF ls t k (lk ls i).t
    | none => []
def first (ls : List LkV) (t s : Int) : List Nat := firstF ls t (t - s).toNat s
def shoR (n : Int) (ls : List LkV) (s t : Int) : List Int × Int × Int :=
  if nodesR n ls [s, t] ≠ 0 then ([], 0, nodesR n ls [s, t]) else if least ls t s = -1 then ([], 0, 6) else (toI (first ls t s), least ls t s, 0)
def reachL (n : Nat) (ls : List LkV) (s : Int) : List Nat := selN n fun j => decide (P ls j s ≠ [])
def reachR (n : Int) (ls : List LkV) (s : Int) : List Int × Int := if nodesR n ls [s] ≠ 0 then ([], nodesR n ls [s]) else (toI (reachL n.toNat ls s), 0)
/-- along a path: where it ends and what it costs -/
def walkA (ls : List LkV) : Int → Int → List Int → Option (Int × Int)
  | s, c, [] => some (s, c)
  | s, c, i :: r => if 0 ≤ i ∧ i < ls.length ∧ (lk ls i.toNat).f = s then walkA ls (lk ls i.toNat).t (c + (lk ls i.toNat).c) r else none
def pt (pots : List Int) (i : Int) : Int := pots.getD i.toNat 0
def linkOk (pots : List Int) (x : LkV) : Prop := pt pots x.t ≠ -1 → pt pots x.f ≠ -1 ∧ pt pots x.f - x.c ≤ pt pots x.t
instance (pots : List Int) (x : LkV) : Decidable (linkOk pots x) := inferInstanceAs (Decidable (_ → _))
def feas (n : Int) (ls : List LkV) (t : Int) (pots : List Int) : Bool := decide ((pots.length : Int) = n ∧ (∀ p ∈ pots, -1 ≤ p) ∧ pt pots t = 0 ∧ ∀ x ∈ ls, linkOk pots x)
def verR (n : Int) (ls : List LkV) (s t : Int) (path pots : List Int) : Int :=
  if nodesR n ls [s, t] ≠ 0 then nodesR n ls [s, t] else if feas n ls t pots = true ∧ walkA ls s 0 path = some (t, pt pots s) then 0 else 18
theorem firstF_more {ls : List LkV} (hu : Up ls) (t : Int) : ∀ k m s, (t - s).toNat ≤ k → k ≤ m → s ≤ t → firstF ls t m s = firstF ls t k s
  | 0, 0, s, _, _, _ => rfl
  | 0, m + 1, s, h, _, h2 => by
    have : s = t := by omega
    rw [firstF, firstF, if_pos this]
  | k + 1, 0, s, _, h, _ => by omega
  | k + 1, m + 1, s, h, hm, hst => by
    rw [firstF, firstF]
    split
    · rfl
    · rename_i hne
      cases hf : (out ls s).find? (hit ls t s) with
      | none => rfl
      | some i =>
        have hi := List.mem_of_find?_eq_some hf
        obtain ⟨h1, h2⟩ := mem_out.1 hi
        have := hu i h1
        have hh := List.find?_some hf
        rw [hit, decide_eq_true_eq] at hh
        have ht : (lk ls i).t ≤ t := by
          by_cases e : (lk ls i).t ≤ t
          · exact e
          · exact absurd (least_none hu (by omega)) hh.1
        simp only
        rw [firstF_more hu t k m _ (by omega) (by omega) ht]
theorem first_end (ls : List LkV) (t : Int) : first ls t t = [] := by rw [first, show (t - t).toNat = 0 by omega, firstF]
theorem first_rec {ls : List LkV} (hu : Up ls) {t s : Int} (h : s < t) {i : Nat} (hf : (out ls s).find? (hit ls t s) = some i) : first ls t s = i :: first ls t (lk ls i).t := by
  have hi := List.mem_of_find?_eq_some hf
  obtain ⟨h1, h2⟩ := mem_out.1 hi
  have := hu i h1
  have hh := List.find?_some hf
  rw [hit, decide_eq_true_eq] at hh
  have ht : (lk ls i).t ≤ t := by
    by_cases e : (lk ls i).t ≤ t
    · exact e
    · exact absurd (least_none hu (by omega)) hh.1
  rw [first, show (t - s).toNat = ((t - s).toNat - 1) + 1 by omega, firstF, if_neg (by omega), hf]
  simp only
  rw [firstF_more hu t (t - (lk ls i).t).toNat _ _ (Nat.le_refl _) (by omega) ht]; rfl
/-- where there is a path, a least one begins with some link -/
theorem hit_some {n : Int} {ls : List LkV} (hg : Gr n ls) {t s : Int} (hst : s ≠ t) (h : least ls t s ≠ -1) : ∃ i, (out ls s).find? (hit ls t s) = some i := by
  rcases hf : (out ls s).find? (hit ls t s) with _ | i
  · exfalso
    have hno := List.find?_eq_none.1 hf
    have hC : C ls t s ≠ [] := fun e => h (by rw [least, e]; rfl)
    have hm := minL_mem (C_nonneg hg) hC
    rw [C_rec hg.up hst, CO, List.mem_flatMap] at hm
    obtain ⟨i, hi, hm⟩ := hm
    obtain ⟨y, hy, e⟩ := List.mem_map.1 hm
    refine hno i hi ?_
    rw [hit, decide_eq_true_eq]
    have hne : C ls t (lk ls i).t ≠ [] := fun e => by rw [e] at hy; cases hy
    have hl : least ls t (lk ls i).t ≠ -1 := fun e' => hne ((minL_none (C_nonneg hg)).1 e')
    refine ⟨hl, ?_⟩
    have h1 := minL_le (C_nonneg hg) y hy
    have h2 : least ls t s ≤ (lk ls i).c + least ls t (lk ls i).t := by
      refine minL_le (C_nonneg hg) _ ?_
      rw [C_rec hg.up hst, CO, List.mem_flatMap]
      exact ⟨i, hi, List.mem_map.2 ⟨_, minL_mem (C_nonneg hg) hne, rfl⟩⟩
    have e : (lk ls i).c + y = minL (CO ls t (out ls s)) := e
    have e3 : least ls t s = minL (CO ls t (out ls s)) := least_rec hg.up hst
    have h1 : least ls t (lk ls i).t ≤ y := h1
    omega
  · exact ⟨i, rfl⟩
end Go.Proofs.Ytipcelgoachjjaa
