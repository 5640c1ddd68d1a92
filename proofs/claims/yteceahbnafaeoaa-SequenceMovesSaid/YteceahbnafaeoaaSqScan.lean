/- The scan that finds the first heaviest subsequence above a bound: it goes through the items, and keeps the best one so far. -/
import Derived.Test.YteceahbnafaeoaaSqRise
namespace Go.Proofs.Yteceahbnafaeoaa

/-- the first heaviest subsequence above a bound -/
def fh (b : Option Int) (z : List It) : List It := pk b (best b z) z
theorem fh_good (z : List It) (b : Option Int) {k : Nat} (h : AscI k z) : (fh b z).Sublist z ∧ Inc b (fh b z) ∧ wt (fh b z) = best b z := by
  obtain ⟨h1, h2, h3, _⟩ := pk_good z b k h _ rfl
  exact ⟨h1, h2, h3⟩
/-- an item and the first heaviest one behind it -/
def hd (c : It) (z : List It) : List It := c :: fh (some c.v) z
theorem hd_wt (c : It) (z : List It) {k : Nat} (h : AscI k z) : wt (hd c z) = c.w + best (some c.v) z := by
  have e : wt (hd c z) = c.w + wt (fh (some c.v) z) := by simp [wt, hd]
  rw [e, (fh_good z _ h).2.2]
def scan (b : Option Int) (acc : List It) : List It → List It
  | [] => acc
  | c :: z => if gt b c.v = true ∧ wt acc < wt (hd c z) then scan b (hd c z) z else scan b acc z
theorem scan_is (b : Option Int) : ∀ (z : List It) (k : Nat), AscI k z → ∀ acc, scan b acc z = if wt acc < best b z then fh b z else acc
  | [], _, _, acc => by simp [scan, best]
  | c :: z, k, h, acc => by
    have hw := hd_wt c z h.2
    have ih := scan_is b z _ h.2
    unfold scan
    rw [hw]
    by_cases hc : gt b c.v = true
    · by_cases h1 : wt acc < c.w + best (some c.v) z
      · rw [if_pos ⟨hc, h1⟩, ih, hw]
        have hb : best b (c :: z) = max (c.w + best (some c.v) z) (best b z) := by rw [best, if_pos hc]
        rw [hb, if_pos (show wt acc < max _ _ by omega)]
        unfold fh
        rw [hb]
        by_cases h2 : c.w + best (some c.v) z < best b z
        · rw [if_pos h2, show max (c.w + best (some c.v) z) (best b z) = best b z by omega]
          rw [pk, if_neg (by omega), if_neg (by omega)]
        · rw [if_neg h2, show max (c.w + best (some c.v) z) (best b z) = c.w + best (some c.v) z by omega]
          rw [pk, if_neg (by omega), if_pos ⟨hc, rfl⟩, Nat.add_sub_cancel_left]
          rfl
      · rw [if_neg (fun h => h1 h.2), ih]
        have hb : best b (c :: z) = max (c.w + best (some c.v) z) (best b z) := by rw [best, if_pos hc]
        rw [hb]
        by_cases h2 : wt acc < best b z
        · rw [if_pos h2, if_pos (by omega)]
          unfold fh
          rw [hb, show max (c.w + best (some c.v) z) (best b z) = best b z by omega]
          rw [pk.eq_def b (best b z) (c :: z)]
          show _ = if best b z = 0 then [] else if gt b c.v = true ∧ c.w + best (some c.v) z = best b z then _ else _
          rw [if_neg (by omega), if_neg (by omega)]
        · rw [if_neg h2, if_neg (by omega)]
    · rw [if_neg (fun h => hc h.1), ih]
      have hb : best b (c :: z) = best b z := by rw [best, if_neg hc]
      rw [hb]
      by_cases h2 : wt acc < best b z
      · rw [if_pos h2, if_pos h2]
        unfold fh
        rw [hb]
        rw [pk.eq_def b (best b z) (c :: z)]
        show _ = if best b z = 0 then [] else if gt b c.v = true ∧ c.w + best (some c.v) z = best b z then _ else _
        rw [if_neg (by omega), if_neg (fun h => hc h.1)]
      · rw [if_neg h2, if_neg h2]
theorem scan_nil (b : Option Int) (z : List It) {k : Nat} (h : AscI k z) : scan b [] z = fh b z := by
  rw [scan_is b z k h]
  show (if 0 < best b z then _ else _) = _
  by_cases h0 : 0 < best b z
  · rw [if_pos h0]
  · rw [if_neg h0]
    unfold fh
    rw [show best b z = 0 by omega, pk_nil]
theorem first_fh (l : List Int) (ws : List Nat) : firstR l ws = idx (fh none (its 0 l ws)) := rfl
theorem most_fh (l : List Int) (ws : List Nat) : mostR l ws = wt (fh none (its 0 l ws)) := (fh_good _ none (asc_its 0 l ws)).2.2.symm
end Go.Proofs.Yteceahbnafaeoaa
