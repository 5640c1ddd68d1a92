/- Weights that are a multiple; sublists of values; a longest increasing sublist, one element more or less. -/
import Derived.Test.YteceahbnafaeoaaSqMath
namespace Go.Proofs.Yteceahbnafaeoaa

def sc (c : Nat) (x : It) : It := ⟨x.i, x.v, c * x.w⟩
theorem best_sc (c : Nat) : ∀ (z : List It) (b : Option Int), best b (z.map (sc c)) = c * best b z
  | [], b => by simp [best]
  | d :: z, b => by
    rw [List.map_cons, best, best, best_sc c z, best_sc c z]
    show (if gt b d.v = true then max (c * d.w + c * best (some d.v) z) _ else _) = _
    split
    · rw [← Nat.mul_add]
      rcases Nat.le_total (d.w + best (some d.v) z) (best b z) with h | h
      · rw [Nat.max_eq_right h, Nat.max_eq_right (Nat.mul_le_mul_left c h)]
      · rw [Nat.max_eq_left h, Nat.max_eq_left (Nat.mul_le_mul_left c h)]
    · rfl
theorem pk_sc {c : Nat} (hc : 0 < c) : ∀ (z : List It) (b : Option Int) (left : Nat), pk b (c * left) (z.map (sc c)) = (pk b left z).map (sc c)
  | [], b, left => by simp [pk]
  | d :: z, b, left => by
    have e0 : (c * left = 0) = (left = 0) := by
      apply propext
      exact ⟨fun h => by rcases Nat.mul_eq_zero.1 h with h | h; omega; exact h, fun h => by rw [h]; rfl⟩
    have e1 : (c * d.w + best (some d.v) (z.map (sc c)) = c * left) = (d.w + best (some d.v) z = left) := by
      rw [best_sc, ← Nat.mul_add]
      apply propext
      exact ⟨fun h => Nat.eq_of_mul_eq_mul_left hc h, fun h => by rw [h]⟩
    have i1 := pk_sc hc z (some d.v) (left - d.w)
    have i2 := pk_sc hc z b left
    rw [List.map_cons, pk, pk]
    show (if c * left = 0 then [] else if gt b d.v = true ∧ c * d.w + best (some d.v) (z.map (sc c)) = c * left then sc c d :: pk (some d.v) (c * left - c * d.w) (z.map (sc c)) else pk b (c * left) (z.map (sc c))) = _
    simp only [e0, e1, i2, ← Nat.mul_sub, i1]
    split
    · rfl
    · split <;> rfl
theorem its_sc (c : Nat) : ∀ (k : Nat) (l : List Int) (ws : List Nat), its k l (ws.map (c * ·)) = (its k l ws).map (sc c)
  | _, [], _ => by simp [its]
  | _, _ :: _, [] => by simp [its]
  | k, x :: l, w :: ws => by
    rw [List.map_cons, its, its, List.map_cons, its_sc c (k + 1) l ws]
    rfl
theorem idx_sc (c : Nat) (z : List It) : idx (z.map (sc c)) = idx z := by
  unfold idx
  rw [List.map_map]
  rfl
/-- an increasing list above a bound -/
def IncV (b : Option Int) : List Int → Prop
  | [] => True
  | x :: l => gt b x = true ∧ IncV (some x) l
def lis (l : List Int) : Nat := best none (its 0 l (ones l))
theorem its_vals : ∀ (k : Nat) (l : List Int), (its k l (ones l)).map (·.v) = l
  | _, [] => rfl
  | k, x :: l => by
    have := its_vals (k + 1) l
    simp only [ones, List.length_cons, List.replicate_succ, its, List.map_cons] at this ⊢
    rw [this]
theorem wt_ones : ∀ (k : Nat) (l : List Int) (s : List It), s.Sublist (its k l (ones l)) → wt s = s.length
  | _, [], s, h => by
    have : s = [] := by simpa [its] using h
    subst this; rfl
  | k, x :: l, s, h => by
    simp only [ones, List.length_cons, List.replicate_succ, its] at h
    cases h with
    | cons _ h => exact wt_ones (k + 1) l s h
    | cons_cons _ h =>
      rename_i s'
      have := wt_ones (k + 1) l s' h
      have e : wt ((⟨k, x, 1⟩ : It) :: s') = 1 + wt s' := by simp [wt]
      rw [e, this, List.length_cons]; omega
theorem inc_v : ∀ (s : List It) (b : Option Int), Inc b s ↔ IncV b (s.map (·.v))
  | [], _ => Iff.rfl
  | c :: s, b => by
    show (_ ∧ Inc _ s) ↔ (_ ∧ IncV _ (s.map (·.v)))
    rw [inc_v s (some c.v)]
theorem lis_ge {l t : List Int} (h : t.Sublist l) (hi : IncV none t) : t.length ≤ lis l := by
  have h2 : t.Sublist ((its 0 l (ones l)).map (·.v)) := by rw [its_vals]; exact h
  obtain ⟨s, hs, rfl⟩ := List.sublist_map_iff.1 h2
  have := best_ge _ s none hs ((inc_v s none).2 hi)
  rw [wt_ones 0 l s hs] at this
  rw [List.length_map]
  exact this
theorem lis_has (l : List Int) : ∃ t : List Int, t.Sublist l ∧ IncV none t ∧ t.length = lis l := by
  obtain ⟨h1, h2, h3, _⟩ := pk_good (its 0 l (ones l)) none 0 (asc_its _ _ _) _ rfl
  refine ⟨_, ?_, (inc_v _ none).1 h2, ?_⟩
  · have := h1.map (·.v)
    rw [its_vals] at this
    exact this
  · rw [List.length_map, ← wt_ones 0 l _ h1, h3]; rfl
theorem lis_le (l : List Int) : lis l ≤ l.length := by
  obtain ⟨t, h1, _, h3⟩ := lis_has l
  rw [← h3]; exact h1.length_le
theorem inc_len (l : List Int) : (incR l).length = lis l := by
  obtain ⟨h1, h2, h3, _⟩ := pk_good (its 0 l (ones l)) none 0 (asc_its _ _ _) _ rfl
  have : (incR l).length = (firstZ (its 0 l (ones l))).length := by simp [incR, firstR, idx]
  rw [this]
  exact (wt_ones 0 l _ h1).symm.trans h3
theorem first_same {c : Nat} (hc : 0 < c) (l : List Int) : firstR l (List.replicate l.length c) = incR l ∧ mostR l (List.replicate l.length c) = c * (incR l).length := by
  have e : List.replicate l.length c = (ones l).map (c * ·) := by simp [ones]
  have hl : (incR l).length = mostR l (ones l) := inc_len l
  constructor
  · unfold firstR incR firstR firstZ
    rw [e, its_sc, best_sc, pk_sc hc, idx_sc]
  · rw [hl]
    unfold mostR
    rw [e, its_sc, best_sc]

theorem lis_full {l : List Int} : lis l = l.length ↔ IncV none l := by
  constructor
  · intro h
    obtain ⟨t, h1, h2, h3⟩ := lis_has l
    rwa [h1.eq_of_length (by omega)] at h2
  · intro h
    have := lis_ge (List.Sublist.refl l) h
    have := lis_le l
    omega
theorem incV_mono {b : Option Int} {x : Int} (h : gt b x = true) : ∀ {l : List Int}, IncV (some x) l → IncV b l
  | [], _ => trivial
  | y :: l, hl => ⟨gt_trans h (by simpa [gt] using hl.1), hl.2⟩
theorem incV_sub : ∀ {t l : List Int} {b : Option Int}, t.Sublist l → IncV b l → IncV b t
  | [], _, _, _, _ => trivial
  | x :: t, [], _, h, _ => by cases h
  | x :: t, y :: l, b, h, hl => by
    cases h with
    | cons _ h => exact incV_mono hl.1 (incV_sub h hl.2)
    | cons_cons _ h => exact ⟨hl.1, incV_sub h hl.2⟩
theorem lis_mono {d l : List Int} (h : d.Sublist l) : lis d ≤ lis l := by
  obtain ⟨t, h1, h2, h3⟩ := lis_has d
  rw [← h3]; exact lis_ge (h1.trans h) h2
theorem lis_one (a b : List Int) (x : Int) : lis (a ++ x :: b) ≤ lis (a ++ b) + 1 := by
  obtain ⟨t, h1, h2, h3⟩ := lis_has (a ++ x :: b)
  obtain ⟨t1, t2, rfl, s1, s2⟩ := List.sublist_append_iff.1 h1
  rw [← h3]
  cases s2 with
  | cons _ s2 =>
    have := lis_ge (s1.append s2) h2
    omega
  | cons_cons _ s2 =>
    rename_i t3
    have hs : (t1 ++ t3).Sublist (t1 ++ x :: t3) := (List.Sublist.refl t1).append ((List.Sublist.refl t3).cons x)
    have := lis_ge (s1.append s2) (incV_sub hs h2)
    simp at this ⊢; omega
theorem lis_move (a b c d : List Int) (x : Int) (h : a ++ b = c ++ d) : lis (a ++ x :: b) ≤ lis (c ++ x :: d) + 1 := by
  have h1 := lis_one a b x
  have h2 : lis (c ++ d) ≤ lis (c ++ x :: d) := lis_mono ((List.Sublist.refl c).append ((List.Sublist.refl d).cons x))
  rw [h] at h1; omega
theorem incV_iff : ∀ (l : List Int) (b : Option Int), IncV b l ↔ l.Pairwise (· < ·) ∧ ∀ x ∈ l, gt b x = true
  | [], b => by simp [IncV]
  | x :: l, b => by
    rw [IncV, incV_iff l (some x), List.pairwise_cons]
    constructor
    · rintro ⟨h1, h2, h3⟩
      refine ⟨⟨fun y hy => by simpa [gt] using h3 y hy, h2⟩, fun y hy => ?_⟩
      rcases List.mem_cons.1 hy with rfl | hy
      · exact h1
      · exact gt_trans h1 (by simpa [gt] using h3 y hy)
    · rintro ⟨⟨h1, h2⟩, h3⟩
      exact ⟨h3 x (by simp), h2, fun y hy => by simpa [gt] using h1 y hy⟩
end Go.Proofs.Yteceahbnafaeoaa
