/- The indices that a mask chooses: what an increasing choice is worth. -/
import Derived.Test.YteceahbnafaeoaaSqInv
namespace Go.Proofs.Yteceahbnafaeoaa

/-- the indices below n that a mask chooses -/
def chosen (m : Nat) : Nat → List Int
  | 0 => []
  | n + 1 => if m.testBit n then chosen m n ++ [(n : Int)] else chosen m n
theorem chosen_len (m : Nat) : ∀ n, (chosen m n).length ≤ n
  | 0 => Nat.le_refl _
  | n + 1 => by
    have := chosen_len m n
    unfold chosen
    split
    · rw [List.length_append, List.length_singleton]; omega
    · omega
theorem chosen_lt (m : Nat) : ∀ n, ∀ i ∈ chosen m n, 0 ≤ i ∧ i < (n : Int)
  | 0, i, h => by simp [chosen] at h
  | n + 1, i, h => by
    unfold chosen at h
    split at h
    · rcases List.mem_append.1 h with h | h
      · have := chosen_lt m n i h; omega
      · simp at h; omega
    · have := chosen_lt m n i h; omega
theorem ix_left (a b : List Int) (i : Nat) (h : i < a.length) : ix (a ++ b) i = ix a i := by
  rw [ix_get _ _ (by simp; omega), ix_get _ _ h, List.getElem_append_left h]
theorem incB_left {l a b : List Int} (h : incB l (a ++ b) = true) : incB l a = true := by
  unfold incB at h ⊢
  rw [List.all_eq_true] at h ⊢
  intro i hi
  have hi : i < a.length := by simpa using hi
  have := h i (by simp; omega)
  unfold okU at this ⊢
  rw [ix_left a b i hi, ix_left a b (i - 1) (by omega)] at this
  exact this
/-- what one index more asks -/
def nextB (l a : List Int) (i : Int) : Bool := decide (a.length = 0) || decide (ix a (a.length - 1) < i) && decide (at0 l (ix a (a.length - 1)) < at0 l i)
theorem incB_snoc (l a : List Int) (i : Int) (hi : inB l i = true) : incB l (a ++ [i]) = (incB l a && nextB l a i) := by
  have e : okU l (a ++ [i]) a.length = nextB l a i := by
    unfold okU nextB
    have h1 : ix (a ++ [i]) a.length = i := by rw [ix_get _ _ (by simp)]; simp
    rw [h1, hi, Bool.true_and]
    by_cases h0 : a.length = 0
    · simp [h0]
    · rw [ix_left a [i] (a.length - 1) (by omega)]
  have e2 : (List.range a.length).all (okU l (a ++ [i])) = (List.range a.length).all (okU l a) := by
    rw [Bool.eq_iff_iff, List.all_eq_true, List.all_eq_true]
    constructor
    · intro h k hk
      have := h k hk
      have hk : k < a.length := by simpa using hk
      unfold okU at this ⊢
      rw [ix_left a [i] k hk, ix_left a [i] (k - 1) (by omega)] at this
      exact this
    · intro h k hk
      have := h k hk
      have hk : k < a.length := by simpa using hk
      unfold okU at this ⊢
      rw [ix_left a [i] k hk, ix_left a [i] (k - 1) (by omega)]
      exact this
  unfold incB
  rw [List.length_append, List.length_singleton, List.range_succ, List.all_append, e2]
  simp [e]
/-- the chosen items -/
def selZ (m : Nat) (z : List It) : List It := z.filter fun c => m.testBit c.i
theorem its_len : ∀ (k : Nat) (l : List Int) (ws : List Nat), l.length = ws.length → (its k l ws).length = l.length
  | _, [], _, _ => by simp [its]
  | _, _ :: _, [], h => by simp at h
  | k, x :: l, w :: ws, h => by
    rw [its, List.length_cons, List.length_cons, its_len (k + 1) l ws (by simpa using h)]
theorem its_snoc : ∀ (k : Nat) (l : List Int) (ws : List Nat) (x : Int) (w : Nat), l.length = ws.length → its k (l ++ [x]) (ws ++ [w]) = its k l ws ++ [⟨k + l.length, x, w⟩]
  | k, [], [], x, w, _ => by simp [its]
  | _, [], _ :: _, _, _, h => by simp at h
  | _, _ :: _, [], _, _, h => by simp at h
  | k, y :: l, v :: ws, x, w, h => by
    rw [List.cons_append, List.cons_append, its, its, its_snoc (k + 1) l ws x w (by simpa using h), List.cons_append, List.length_cons]
    congr 4
    omega
theorem sel_idx (m : Nat) (l : List Int) (ws : List Nat) (h : l.length = ws.length) : ∀ n, n ≤ l.length → idx (selZ m (its 0 (l.take n) (ws.take n))) = chosen m n
  | 0, _ => by simp [its, selZ, idx, chosen]
  | n + 1, hn => by
    have ih := sel_idx m l ws h n (by omega)
    have e : (0 + (l.take n).length) = n := by rw [List.length_take]; omega
    rw [List.take_succ_eq_append_getElem (by omega : n < l.length), List.take_succ_eq_append_getElem (by omega : n < ws.length), its_snoc 0 _ _ _ _ (by rw [List.length_take, List.length_take]; omega), e]
    unfold selZ at ih ⊢
    rw [List.filter_append, idx, List.map_append]
    show idx _ ++ _ = _
    rw [ih, chosen]
    by_cases hb : m.testBit n = true
    · rw [if_pos hb, List.filter_cons_of_pos (by simpa using hb)]; rfl
    · rw [if_neg hb, List.filter_cons_of_neg (by simpa using hb)]; simp
theorem inc_of_ix (l : List Int) : ∀ (s : List It) (b : Option Int), (∀ c ∈ s, at0 l c.i = c.v) → (∀ i, i + 1 < s.length → at0 l (ix (idx s) i) < at0 l (ix (idx s) (i + 1))) → (∀ c t, s = c :: t → gt b c.v = true) → Inc b s
  | [], _, _, _, _ => trivial
  | c :: s, b, h1, h2, h3 => by
    refine ⟨h3 c s rfl, inc_of_ix l s (some c.v) (fun d hd => h1 d (by simp [hd])) (fun i hi => ?_) (fun d t e => ?_)⟩
    · have := h2 (i + 1) (by simpa using hi)
      simpa [idx, ix] using this
    · subst e
      have := h2 0 (by simp)
      have h4 := h1 c (by simp)
      have h5 := h1 d (by simp)
      simp only [idx, ix, List.map_cons, List.getD_cons_zero, List.getD_cons_succ, Nat.zero_add] at this
      rw [h4, h5] at this
      simpa [gt] using this
theorem sel_good (m : Nat) (l : List Int) (ws : List Nat) (h : l.length = ws.length) (hi : incB l (chosen m l.length) = true) :
    idx (selZ m (its 0 l ws)) = chosen m l.length ∧ (selZ m (its 0 l ws)).Sublist (its 0 l ws) ∧ Inc none (selZ m (its 0 l ws)) := by
  have e := sel_idx m l ws h l.length (Nat.le_refl _)
  rw [List.take_length, List.take_of_length_le (by omega)] at e
  refine ⟨e, List.filter_sublist, inc_of_ix l _ none (fun c hc => (its_in (List.mem_filter.1 hc).1).2) (fun i hi2 => ?_) (fun _ _ _ => rfl)⟩
  rw [e]
  have hl : (selZ m (its 0 l ws)).length = (chosen m l.length).length := by rw [← e]; simp [idx]
  have := (List.all_eq_true.1 hi) (i + 1) (by simp; omega)
  unfold okU at this
  rw [Bool.and_eq_true, Bool.or_eq_true, decide_eq_true_eq, Bool.and_eq_true, decide_eq_true_eq, decide_eq_true_eq, Nat.add_sub_cancel] at this
  rcases this.2 with h0 | h0
  · omega
  · exact h0.2
/-- the sum of the weights at indices -/
def sumW (ws : List Nat) (c : List Int) : Nat := (c.map fun i => ws.getD i.toNat 0).sum
theorem its_w : ∀ (k : Nat) (l : List Int) (ws : List Nat), ∀ c ∈ its k l ws, k ≤ c.i ∧ ws.getD (c.i - k) 0 = c.w
  | _, [], _, c, h => by simp [its] at h
  | _, _ :: _, [], c, h => by simp [its] at h
  | k, x :: l, w :: ws, c, h => by
    rw [its] at h
    rcases List.mem_cons.1 h with rfl | h
    · simp
    · obtain ⟨h1, h3⟩ := its_w (k + 1) l ws c h
      refine ⟨by omega, ?_⟩
      rw [show c.i - k = (c.i - (k + 1)) + 1 by omega]
      simpa using h3
theorem sum_idx {l : List Int} {ws : List Nat} {s : List It} (hs : ∀ c ∈ s, c ∈ its 0 l ws) : sumW ws (idx s) = wt s := by
  induction s with
  | nil => rfl
  | cons c s ih =>
    have h1 := (its_w 0 l ws c (hs c (by simp))).2
    have h2 := ih fun d hd => hs d (by simp [hd])
    unfold sumW at h2 ⊢
    unfold wt at h2 ⊢
    simp only [idx, List.map_cons, List.sum_cons, Int.toNat_natCast] at h2 ⊢
    rw [h2]
    simp only [Nat.sub_zero] at h1
    rw [h1]
theorem first_sum (l : List Int) (ws : List Nat) : sumW ws (firstR l ws) = mostR l ws := by
  obtain ⟨h1, _, h3, _⟩ := pk_good (its 0 l ws) none 0 (asc_its _ _ _) _ rfl
  have := sum_idx (l := l) (ws := ws) (s := firstZ (its 0 l ws)) fun c hc => h1.subset hc
  exact this.trans h3
/-- an increasing choice is no heavier than the first heaviest one, and doesn't stand before it if as heavy -/
theorem choice_heavy (m : Nat) (l : List Int) (ws : List Nat) (h : l.length = ws.length) (hi : incB l (chosen m l.length) = true) :
    sumW ws (chosen m l.length) ≤ mostR l ws ∧ (sumW ws (chosen m l.length) = mostR l ws → lexL (firstR l ws) (chosen m l.length) = true) := by
  obtain ⟨e, h1, h2⟩ := sel_good m l ws h hi
  have hs := sum_idx (l := l) (ws := ws) fun c hc => h1.subset hc
  rw [e] at hs
  rw [hs]
  refine ⟨best_ge _ _ _ h1 h2, fun hw => ?_⟩
  have := (pk_good (its 0 l ws) none 0 (asc_its _ _ _) _ rfl).2.2.2 _ h1 h2 hw
  rw [e] at this
  exact this
theorem choice_long (m : Nat) (l : List Int) (hi : incB l (chosen m l.length) = true) :
    (chosen m l.length).length ≤ (incR l).length ∧ ((chosen m l.length).length = (incR l).length → lexL (incR l) (chosen m l.length) = true) := by
  have hl : l.length = (ones l).length := by simp [ones]
  obtain ⟨h1, h2⟩ := choice_heavy m l (ones l) hl hi
  obtain ⟨e, h3, h4⟩ := sel_good m l (ones l) hl hi
  have hs := sum_idx (l := l) (ws := ones l) fun c hc => h3.subset hc
  rw [e, wt_ones 0 l _ h3] at hs
  have hlen : (selZ m (its 0 l (ones l))).length = (chosen m l.length).length := by rw [← e]; simp [idx]
  have hm : (incR l).length = mostR l (ones l) := inc_len l
  rw [hs, hlen, ← hm] at h1 h2
  exact ⟨h1, h2⟩
end Go.Proofs.Yteceahbnafaeoaa
