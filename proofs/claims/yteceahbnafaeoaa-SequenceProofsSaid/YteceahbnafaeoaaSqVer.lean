/- What Verify asks, and that the first longest subsequence and the greedy cover are accepted. -/
import Derived.Test.YteceahbnafaeoaaSqCov
namespace Go.Proofs.Yteceahbnafaeoaa

def ix (c : List Int) (i : Nat) : Int := c.getD i 0
def inB (l : List Int) (i : Int) : Bool := decide (0 ≤ i) && decide (i < l.length)
def okU (l c : List Int) (i : Nat) : Bool := inB l (ix c i) && (decide (i = 0) || decide (ix c (i - 1) < ix c i) && decide (at0 l (ix c (i - 1)) < at0 l (ix c i)))
def okD (l c : List Int) (i : Nat) : Bool := inB l (ix c i) && (decide (i = 0) || decide (ix c (i - 1) < ix c i) && decide (at0 l (ix c i) ≤ at0 l (ix c (i - 1))))
def incB (l c : List Int) : Bool := (List.range c.length).all (okU l c)
def desB (l c : List Int) : Bool := (List.range c.length).all (okD l c)
def pileB (l c : List Int) : Bool := decide (0 < c.length) && desB l c
def cntB (l : List Int) (cov : List (List Int)) : Bool := (List.range l.length).all fun i => decide (cov.flatten.count (i : Int) = 1)
def verB (l is : List Int) (cov : List (List Int)) : Bool := (incB l is && decide (is.length = cov.length)) && (cov.all (pileB l) && cntB l cov)
def verR (l is : List Int) (cov : List (List Int)) : Int := if 1024 < l.length then 4 else if verB l is cov then 0 else 18

theorem ix_get (c : List Int) (i : Nat) (h : i < c.length) : ix c i = c[i] := by
  unfold ix; rw [List.getD_eq_getElem?_getD, List.getElem?_eq_getElem h]; rfl
theorem its_at : ∀ (k : Nat) (l : List Int) (ws : List Nat), ∀ c ∈ its k l ws, k ≤ c.i ∧ c.i < k + l.length ∧ l.getD (c.i - k) 0 = c.v
  | _, [], _, c, h => by simp [its] at h
  | _, _ :: _, [], c, h => by simp [its] at h
  | k, x :: l, w :: ws, c, h => by
    rw [its] at h
    rcases List.mem_cons.1 h with rfl | h
    · simp
    · obtain ⟨h1, h2, h3⟩ := its_at (k + 1) l ws c h
      refine ⟨by omega, by simp; omega, ?_⟩
      rw [show c.i - k = (c.i - (k + 1)) + 1 by omega]
      simpa using h3
theorem its_in {l : List Int} {ws : List Nat} {c : It} (h : c ∈ its 0 l ws) : inB l c.i = true ∧ at0 l c.i = c.v := by
  obtain ⟨_, h2, h3⟩ := its_at 0 l ws c h
  refine ⟨?_, by unfold at0; simpa using h3⟩
  unfold inB
  rw [decide_eq_true (by omega), decide_eq_true (by omega)]; rfl
theorem asc_sub : ∀ {z s : List It} {k : Nat}, s.Sublist z → AscI k z → AscI k s
  | _, [], _, _, _ => trivial
  | [], _ :: _, _, h, _ => by cases h
  | d :: z, c :: s, k, h, ha => by
    cases h with
    | cons _ h => exact (asc_sub h ha.2).mono (by have := ha.1; omega)
    | cons_cons _ h => exact ⟨ha.1, asc_sub h ha.2⟩
theorem asc_pw : ∀ {s : List It} {k : Nat}, AscI k s → s.Pairwise (fun a b => a.i < b.i)
  | [], _, _ => List.Pairwise.nil
  | c :: s, _, h => List.pairwise_cons.2 ⟨fun d hd => by have := AscI.ge h.2 d hd; omega, asc_pw h.2⟩
theorem inc_pw : ∀ {s : List It} {b : Option Int}, Inc b s → s.Pairwise (fun a b => a.v < b.v) ∧ ∀ c ∈ s, gt b c.v = true
  | [], _, _ => ⟨List.Pairwise.nil, by simp⟩
  | c :: s, b, h => by
    obtain ⟨h1, h2⟩ := inc_pw h.2
    have h3 : ∀ d ∈ s, c.v < d.v := fun d hd => by simpa [gt] using h2 d hd
    refine ⟨List.pairwise_cons.2 ⟨h3, h1⟩, fun d hd => ?_⟩
    rcases List.mem_cons.1 hd with rfl | hd
    · exact h.1
    · exact gt_trans h.1 (h3 d hd)
theorem idx_ix (s : List It) (i : Nat) (h : i < s.length) : ix (idx s) i = s[i].i := by
  rw [ix_get _ _ (by simpa [idx] using h)]; simp [idx]
theorem idx_inc {l : List Int} {ws : List Nat} {s : List It} (hs : s.Sublist (its 0 l ws)) (hi : Inc none s) : incB l (idx s) = true := by
  unfold incB
  rw [List.all_eq_true]
  intro i hi2
  have h : i < s.length := by simpa [idx] using hi2
  obtain ⟨h1, h2⟩ := its_in (hs.subset (List.getElem_mem h))
  unfold okU
  rw [idx_ix s i h, h1, h2, Bool.true_and]
  by_cases h0 : i = 0
  · simp [h0]
  · have hp : i - 1 < s.length := by omega
    obtain ⟨_, h4⟩ := its_in (hs.subset (List.getElem_mem hp))
    have a1 := List.pairwise_iff_getElem.1 (asc_pw (asc_sub hs (asc_its 0 l ws))) (i - 1) i hp h (by omega)
    have a2 := List.pairwise_iff_getElem.1 (inc_pw hi).1 (i - 1) i hp h (by omega)
    rw [idx_ix s _ hp, h4, decide_eq_true (show (s[i - 1].i : Int) < s[i].i by omega), decide_eq_true a2]; simp
theorem inc_ok (l : List Int) (ws : List Nat) : incB l (firstR l ws) = true := by
  obtain ⟨h1, h2, _, _⟩ := pk_good (its 0 l ws) none 0 (asc_its _ _ _) _ rfl
  exact idx_inc h1 h2
theorem desB_snoc (l p : List Int) (i : Int) (hp : 0 < p.length) (h : desB l p = true) (h1 : inB l i = true) (h2 : p.getLastD 0 < i) (h3 : at0 l i ≤ at0 l (p.getLastD 0)) : desB l (p ++ [i]) = true := by
  have hl : ix (p ++ [i]) (p.length - 1) = p.getLastD 0 := by
    rw [ix_get _ _ (by simp; omega), List.getElem_append_left (by omega), List.getLastD_eq_getLast?, List.getLast?_eq_getElem?, List.getElem?_eq_getElem (by omega)]; rfl
  have hi : ix (p ++ [i]) p.length = i := by rw [ix_get _ _ (by simp)]; simp
  unfold desB at h ⊢
  rw [List.all_eq_true] at h ⊢
  intro k hk
  have hk : k < p.length + 1 := by simpa using hk
  by_cases hq : k < p.length
  · have := h k (by simpa using hq)
    unfold okD at this ⊢
    have e1 : ix (p ++ [i]) k = ix p k := by rw [ix_get _ _ (by simp; omega), ix_get _ _ hq, List.getElem_append_left hq]
    have e2 : ix (p ++ [i]) (k - 1) = ix p (k - 1) := by rw [ix_get _ _ (by simp; omega), ix_get _ _ (by omega), List.getElem_append_left (by omega)]
    rw [e1, e2]; exact this
  · obtain rfl : k = p.length := by omega
    unfold okD
    rw [hi, hl, h1, decide_eq_true h2, decide_eq_true h3]; simp
theorem desB_one (l : List Int) (i : Int) (h1 : inB l i = true) : desB l [i] = true := by
  simp [desB, okD, ix, h1]
structure CovOk (l : List Int) (n : Nat) (ps : List (List Int)) : Prop where
  pile : ∀ p ∈ ps, pileB l p = true ∧ ∀ i ∈ p, i < (n : Int)
  cnt : ∀ i : Nat, ps.flatten.count (i : Int) = if i < n then 1 else 0
theorem place_ok (l : List Int) (n : Nat) (hn : n < l.length) : ∀ ps : List (List Int), (∀ p ∈ ps, pileB l p = true ∧ ∀ i ∈ p, i < (n : Int)) →
    (∀ p ∈ place l n (at0 l n) ps, pileB l p = true ∧ ∀ i ∈ p, i < ((n + 1 : Nat) : Int)) ∧ ∀ i : Nat, (place l n (at0 l n) ps).flatten.count (i : Int) = ps.flatten.count (i : Int) + if i = n then 1 else 0
  | [], _ => by
    have hin : inB l n = true := by unfold inB; rw [decide_eq_true (by omega), decide_eq_true (by omega)]; rfl
    refine ⟨fun p hp => ?_, fun i => ?_⟩
    · simp [place] at hp; subst hp
      exact ⟨by unfold pileB; rw [desB_one l n hin]; simp, fun i hi => by simp at hi; omega⟩
    · simp only [place, List.flatten_cons, List.flatten_nil, List.append_nil, List.count_nil, Nat.zero_add, List.count_singleton]
      by_cases h : i = n
      · subst h; simp
      · rw [if_neg h, if_neg (by simp; omega)]
  | p :: ps, h => by
    have hin : inB l n = true := by unfold inB; rw [decide_eq_true (by omega), decide_eq_true (by omega)]; rfl
    obtain ⟨hp, hlt⟩ := h p (by simp)
    unfold place
    by_cases hc : at0 l n ≤ at0 l (p.getLastD 0)
    · rw [if_pos hc]
      have hp2 := hp
      unfold pileB at hp
      rw [Bool.and_eq_true, decide_eq_true_eq] at hp
      have hlast : p.getLastD 0 ∈ p := by
        cases p with
        | nil => simp at hp
        | cons a p => rw [List.getLastD_eq_getLast?, List.getLast?_cons]; simp; cases p <;> simp [List.getLast?]
      refine ⟨fun q hq => ?_, fun i => ?_⟩
      · rcases List.mem_cons.1 hq with rfl | hq
        · refine ⟨?_, fun i hi => ?_⟩
          · unfold pileB
            rw [desB_snoc l p n hp.1 hp.2 hin (hlt _ hlast) hc]; simp
          · rcases List.mem_append.1 hi with hi | hi
            · have := hlt i hi; omega
            · simp at hi; omega
        · obtain ⟨h1, h2⟩ := h q (by simp [hq])
          exact ⟨h1, fun i hi => by have := h2 i hi; omega⟩
      · simp only [List.flatten_cons, List.count_append, List.count_singleton]
        by_cases h : i = n
        · subst h; simp; omega
        · rw [if_neg h, if_neg (by simp; omega)]; omega
    · rw [if_neg hc]
      obtain ⟨h1, h2⟩ := place_ok l n hn ps fun q hq => h q (by simp [hq])
      refine ⟨fun q hq => ?_, fun i => ?_⟩
      · rcases List.mem_cons.1 hq with rfl | hq
        · exact ⟨hp, fun i hi => by have := hlt i hi; omega⟩
        · exact h1 q hq
      · simp only [List.flatten_cons, List.count_append, h2 i]; omega
theorem cov_ok (l : List Int) : ∀ n, n ≤ l.length → CovOk l n (covN l n)
  | 0, _ => ⟨by simp [covN], by simp [covN]⟩
  | n + 1, h => by
    have ih := cov_ok l n (by omega)
    obtain ⟨h1, h2⟩ := place_ok l n (by omega) (covN l n) ih.pile
    refine ⟨h1, fun i => ?_⟩
    rw [covN, h2, ih.cnt]
    split <;> split <;> split <;> omega
theorem ver_ok (l is : List Int) (hi : incB l is = true) : verB l is (covR l) = decide (is.length = lis l) := by
  have h := cov_ok l l.length (Nat.le_refl _)
  have h1 : (covR l).all (pileB l) = true := by rw [List.all_eq_true]; exact fun p hp => (h.pile p hp).1
  have h2 : cntB l (covR l) = true := by
    unfold cntB
    rw [List.all_eq_true]
    intro i hi
    have : i < l.length := by simpa using hi
    have := h.cnt i
    rw [if_pos (by assumption)] at this
    exact decide_eq_true this
  unfold verB
  rw [hi, h1, h2, cov_len]; simp
end Go.Proofs.Yteceahbnafaeoaa
