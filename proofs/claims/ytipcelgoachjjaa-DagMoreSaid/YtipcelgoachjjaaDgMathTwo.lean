/- More about paths: the first of the least, reaching, a further link. -/
import Derived.Test.YtipcelgoachjjaaDgRes
namespace Go.Proofs.Ytipcelgoachjjaa
set_option linter.unusedSimpArgs false
set_option linter.unusedVariables false

theorem mem_P {ls : List LkV} (hu : Up ls) {t s : Int} (h : s ≠ t) {q : List Nat} : q ∈ P ls t s ↔ ∃ i q', q = i :: q' ∧ i ∈ out ls s ∧ q' ∈ P ls t (lk ls i).t := by
  rw [P_rec hu h, List.mem_flatMap]
  constructor
  · rintro ⟨i, hi, hq⟩
    obtain ⟨q', h1, rfl⟩ := List.mem_map.1 hq
    exact ⟨i, q', rfl, hi, h1⟩
  · rintro ⟨i, q', rfl, hi, hq⟩
    exact ⟨i, hi, List.mem_map.2 ⟨q', hq, rfl⟩⟩
theorem low_P {n : Int} {ls : List LkV} (hg : Gr n ls) {t s : Int} : least ls t s = -1 ↔ P ls t s = [] := by
  rcases low_high hg (t := t) (s := s) with ⟨h1, _, h3⟩ | ⟨h1, _, _, _, h3⟩
  · exact ⟨fun _ => h3, fun _ => h1⟩
  · exact ⟨fun h => by omega, fun h => absurd h h3⟩
theorem most_P {n : Int} {ls : List LkV} (hg : Gr n ls) {t s : Int} : most ls t s = -1 ↔ P ls t s = [] := by
  rcases low_high hg (t := t) (s := s) with ⟨_, h1, h3⟩ | ⟨h1, h2, _, _, h3⟩
  · exact ⟨fun _ => h3, fun _ => h1⟩
  · exact ⟨fun h => by omega, fun h => absurd h h3⟩
theorem least_le_cst {n : Int} {ls : List LkV} (hg : Gr n ls) {t s : Int} {q : List Nat} (h : q ∈ P ls t s) : least ls t s ≤ cst ls q := minL_le (C_nonneg hg) _ (List.mem_map.2 ⟨q, h, rfl⟩)
theorem P_le {n : Int} {ls : List LkV} (hg : Gr n ls) {t s : Int} (h : P ls t s ≠ []) : s ≤ t := by
  rcases low_high hg (t := t) (s := s) with ⟨_, _, h3⟩ | ⟨_, _, _, h4, _⟩
  · exact absurd h3 h
  · exact h4
/-- the first of the least paths -/
theorem first_mem {n : Int} {ls : List LkV} (hg : Gr n ls) (t : Int) : ∀ s, least ls t s ≠ -1 → first ls t s ∈ P ls t s ∧ cst ls (first ls t s) = least ls t s := by
  refine up_ind hg.up (n := n) (fun j hj => (hg.lk hj).t1) fun s ih hl => ?_
  by_cases e : s = t
  · subst e
    rw [first_end, P_end, least_end]
    exact ⟨List.mem_singleton.2 rfl, rfl⟩
  · have hst : s ≤ t := P_le hg fun h => hl ((low_P hg).2 h)
    obtain ⟨i, hf⟩ := hit_some hg e hl
    have hi := List.mem_of_find?_eq_some hf
    have hh := List.find?_some hf
    rw [hit, decide_eq_true_eq] at hh
    rw [first_rec hg.up (by omega) hf]
    obtain ⟨h1, h2⟩ := ih i hi hh.1
    exact ⟨(mem_P hg.up e).2 ⟨i, _, rfl, hi, h1⟩, by rw [cst, h2]; exact hh.2⟩
/-- lists by their first difference -/
def lexZ : List Nat → List Nat → Int
  | [], [] => 0
  | [], _ :: _ => -1
  | _ :: _, [] => 1
  | a :: p, b :: q => if a < b then -1 else if b < a then 1 else lexZ p q
theorem find_least {p : Nat → Bool} : ∀ {l : List Nat} {j : Nat}, l.Pairwise (· < ·) → l.find? p = some j → ∀ i ∈ l, p i = true → j ≤ i
  | [], _, _, h, _, _, _ => by simp at h
  | a :: r, j, hl, h, i, hi, hp => by
    rw [List.find?_cons] at h
    rcases List.mem_cons.1 hi with rfl | hi
    · rw [hp] at h; cases h; exact Nat.le_refl _
    · obtain ⟨h1, h2⟩ := List.pairwise_cons.1 hl
      cases ha : p a with
      | true => rw [ha] at h; cases h; exact Nat.le_of_lt (h1 _ hi)
      | false => rw [ha] at h; exact find_least h2 h i hi hp
theorem selN_sorted (n : Nat) (p : Nat → Bool) : (selN n p).Pairwise (· < ·) := List.Pairwise.filter _ List.pairwise_lt_range
theorem first_lex {n : Int} {ls : List LkV} (hg : Gr n ls) (t : Int) : ∀ s, ∀ q ∈ P ls t s, cst ls q = least ls t s → 0 ≤ lexZ q (first ls t s) := by
  refine up_ind hg.up (n := n) (fun j hj => (hg.lk hj).t1) fun s ih q hq hc => ?_
  have hne : P ls t s ≠ [] := fun h => by rw [h] at hq; cases hq
  by_cases e : s = t
  · subst e
    rw [P_end] at hq
    rw [List.mem_singleton.1 hq, first_end]
    decide
  · have hst : s ≤ t := P_le hg hne
    obtain ⟨j, hf⟩ := hit_some hg e fun h => hne ((low_P hg).1 h)
    rw [first_rec hg.up (by omega) hf]
    obtain ⟨i, q', rfl, hi, hq'⟩ := (mem_P hg.up e).1 hq
    have hne' : P ls t (lk ls i).t ≠ [] := fun h => by rw [h] at hq'; cases hq'
    have hl' : least ls t (lk ls i).t ≠ -1 := fun h => hne' ((low_P hg).1 h)
    obtain ⟨f1, f2⟩ := first_mem hg t _ hl'
    have h1 := least_le_cst hg hq'
    have h2 := least_le_cst hg ((mem_P hg.up e).2 ⟨i, _, rfl, hi, f1⟩)
    rw [cst] at hc h2
    have hhit : hit ls t s i = true := by rw [hit, decide_eq_true_eq]; exact ⟨hl', by omega⟩
    have hji := find_least (selN_sorted _ _) hf i hi hhit
    rw [lexZ, if_neg (by omega)]
    split
    · decide
    · obtain rfl : i = j := by omega
      exact ih i hi q' hq' (by omega)

/-! ### reaching -/
theorem P_trans {n : Int} {ls : List LkV} (hg : Gr n ls) {m j : Int} : ∀ s, P ls m s ≠ [] → P ls j m ≠ [] → P ls j s ≠ [] := by
  refine up_ind hg.up (n := n) (fun j hj => (hg.lk hj).t1) fun s ih h1 h2 => ?_
  by_cases e : s = m
  · subst e; exact h2
  · have := P_le hg h1
    have := P_le hg h2
    obtain ⟨q, hq⟩ := List.exists_mem_of_ne_nil _ h1
    obtain ⟨i, q', rfl, hi, hq'⟩ := (mem_P hg.up e).1 hq
    obtain ⟨q2, hq2⟩ := List.exists_mem_of_ne_nil _ (ih i hi (fun h => by rw [h] at hq'; cases hq') h2)
    exact fun h => by
      have := (mem_P hg.up (show s ≠ j by omega)).2 ⟨i, q2, rfl, hi, hq2⟩
      rw [h] at this; cases this
theorem P_last {n : Int} {ls : List LkV} (hg : Gr n ls) {j : Int} : ∀ s, P ls j s ≠ [] → j = s ∨ ∃ i, i < ls.length ∧ (lk ls i).t = j ∧ P ls (lk ls i).f s ≠ [] := by
  refine up_ind hg.up (n := n) (fun j hj => (hg.lk hj).t1) fun s ih h1 => ?_
  by_cases e : s = j
  · exact .inl e.symm
  · right
    obtain ⟨q, hq⟩ := List.exists_mem_of_ne_nil _ h1
    obtain ⟨i, q', rfl, hi, hq'⟩ := (mem_P hg.up e).1 hq
    obtain ⟨hil, hif⟩ := mem_out.1 hi
    rcases ih i hi (fun h => by rw [h] at hq'; cases hq') with h | ⟨i', h1, h2, h3⟩
    · exact ⟨i, hil, h.symm, by rw [hif, P_end]; simp⟩
    · have := P_le hg h3
      have := hg.up i hil
      obtain ⟨q3, hq3⟩ := List.exists_mem_of_ne_nil _ h3
      exact ⟨i', h1, h2, fun h => by
        have := (mem_P hg.up (show s ≠ (lk ls i').f by omega)).2 ⟨i, q3, rfl, hi, hq3⟩
        rw [h] at this; cases this⟩
/-- whether j is reached from s -/
def Rc (ls : List LkV) (s j : Int) : Bool := decide (P ls j s ≠ [])
theorem rc_iff {n : Int} {ls : List LkV} (hg : Gr n ls) {s j : Int} : Rc ls s j = true ↔ j = s ∨ ∃ i, i < ls.length ∧ (lk ls i).t = j ∧ Rc ls s (lk ls i).f = true := by
  unfold Rc
  simp only [decide_eq_true_eq]
  refine ⟨P_last hg s, ?_⟩
  rintro (rfl | ⟨i, hi, rfl, h⟩)
  · rw [P_end]; simp
  · refine P_trans hg s h ?_
    have hu := hg.up i hi
    intro h'
    have := (mem_P hg.up (show (lk ls i).f ≠ (lk ls i).t by omega)).2 ⟨i, [], rfl, mem_out.2 ⟨hi, rfl⟩, by rw [P_end]; simp⟩
    rw [h'] at this; cases this
/-- what is known to be reached when the nodes below k are through, and the links pre of k -/
def rq (ls : List LkV) (s k : Int) (pre : List Nat) (j : Int) : Bool :=
  decide (j = s) || (List.range ls.length).any fun i => decide ((lk ls i).t = j) && Rc ls s (lk ls i).f && (decide ((lk ls i).f < k) || (decide ((lk ls i).f = k) && decide (i ∈ pre)))
theorem rq_iff {ls : List LkV} {s k j : Int} {pre : List Nat} : rq ls s k pre j = true ↔ j = s ∨ ∃ i, i < ls.length ∧ (lk ls i).t = j ∧ Rc ls s (lk ls i).f = true ∧ ((lk ls i).f < k ∨ ((lk ls i).f = k ∧ i ∈ pre)) := by
  unfold rq
  simp only [Bool.or_eq_true, decide_eq_true_eq, List.any_eq_true, Bool.and_eq_true, List.mem_range, and_assoc]
theorem rq_low {n : Int} {ls : List LkV} (hg : Gr n ls) {s k j : Int} {pre : List Nat} (h : j ≤ k) : rq ls s k pre j = Rc ls s j := by
  rw [Bool.eq_iff_iff, rq_iff, rc_iff hg]
  constructor
  · rintro (h | ⟨i, h1, h2, h3, h4⟩)
    · exact .inl h
    · exact .inr ⟨i, h1, h2, h3⟩
  · rintro (h | ⟨i, h1, h2, h3⟩)
    · exact .inl h
    · have := hg.up i h1
      exact .inr ⟨i, h1, h2, h3, .inl (by omega)⟩
theorem rq_high {n : Int} {ls : List LkV} (hg : Gr n ls) {s k j : Int} (hj : j < n) (h : n ≤ k) : rq ls s k [] j = Rc ls s j := rq_low hg (by omega)
theorem rq_start {n : Int} {ls : List LkV} (hg : Gr n ls) {s j : Int} : rq ls s s [] j = decide (j = s) := by
  rw [Bool.eq_iff_iff, rq_iff, decide_eq_true_eq]
  refine ⟨?_, .inl⟩
  rintro (h | ⟨i, h1, h2, h3, h4⟩)
  · exact h
  · exfalso
    rw [Rc, decide_eq_true_eq] at h3
    have := P_le hg h3
    rcases h4 with h4 | ⟨_, h4⟩
    · omega
    · cases h4
theorem rq_next {ls : List LkV} {s k : Int} (hk : Rc ls s k = true) {j : Int} : rq ls s (k + 1) [] j = rq ls s k (out ls k) j := by
  rw [Bool.eq_iff_iff, rq_iff, rq_iff]
  refine or_congr_right (exists_congr fun i => and_congr_right fun h1 => and_congr_right fun _ => and_congr_right fun _ => ?_)
  simp only [List.not_mem_nil, and_false, or_false, mem_out]
  omega
theorem rq_skip {ls : List LkV} {s k : Int} (hk : Rc ls s k = false) {j : Int} {pre : List Nat} : rq ls s (k + 1) [] j = rq ls s k pre j := by
  rw [Bool.eq_iff_iff, rq_iff, rq_iff]
  refine or_congr_right (exists_congr fun i => and_congr_right fun h1 => and_congr_right fun _ => and_congr_right fun h3 => ?_)
  have : (lk ls i).f ≠ k := fun e => by rw [e, hk] at h3; cases h3
  simp only [List.not_mem_nil, and_false, or_false]
  omega
theorem rq_snoc {ls : List LkV} {s k : Int} {pre : List Nat} {i : Nat} (hi : i < ls.length) (hf : (lk ls i).f = k) (hk : Rc ls s k = true) {j : Int} : rq ls s k (pre ++ [i]) j = (decide (j = (lk ls i).t) || rq ls s k pre j) := by
  rw [Bool.eq_iff_iff, Bool.or_eq_true, rq_iff, rq_iff, decide_eq_true_eq]
  constructor
  · rintro (h | ⟨a, h1, h2, h3, h4⟩)
    · exact .inr (.inl h)
    · rcases h4 with h4 | ⟨h4, h5⟩
      · exact .inr (.inr ⟨a, h1, h2, h3, .inl h4⟩)
      · rcases List.mem_append.1 h5 with h5 | h5
        · exact .inr (.inr ⟨a, h1, h2, h3, .inr ⟨h4, h5⟩⟩)
        · obtain rfl := List.mem_singleton.1 h5
          exact .inl h2.symm
  · rintro (h | h | ⟨a, h1, h2, h3, h4⟩)
    · exact .inr ⟨i, hi, h.symm, by rw [hf]; exact hk, .inr ⟨hf, by simp⟩⟩
    · exact .inl h
    · refine .inr ⟨a, h1, h2, h3, ?_⟩
      rcases h4 with h4 | ⟨h4, h5⟩
      · exact .inl h4
      · exact .inr ⟨h4, List.mem_append_left _ h5⟩

/-! ### a further link -/
theorem lk_old {ls : List LkV} {x : LkV} {i : Nat} (h : i < ls.length) : lk (ls ++ [x]) i = lk ls i := by
  rw [lk_get (by simp; omega), lk_get h, List.getElem_append_left h]
theorem filter_range_congr {n : Nat} {p q : Nat → Bool} (h : ∀ i, i < n → p i = q i) : (List.range n).filter p = (List.range n).filter q :=
  List.filter_congr fun i hi => h i (List.mem_range.1 hi)
theorem out_more (ls : List LkV) (x : LkV) (s : Int) : (out ls s).Sublist (out (ls ++ [x]) s) := by
  unfold out
  rw [List.length_append, List.length_singleton, selN_succ]
  have e : selN ls.length (lv (ls ++ [x]) s) = selN ls.length (lv ls s) := filter_range_congr fun i hi => by rw [lv, lv, lk_old hi]
  split
  · rw [e]; exact List.sublist_append_left _ _
  · rw [e]; exact List.Sublist.refl _
theorem flatMap_sub {α β : Type} {f g : α → List β} {l l' : List α} (h : l.Sublist l') (hf : ∀ x ∈ l, (f x).Sublist (g x)) : (l.flatMap f).Sublist (l'.flatMap g) := by
  induction h with
  | slnil => exact List.Sublist.refl _
  | cons a h ih => rw [List.flatMap_cons]; exact (ih hf).trans (List.sublist_append_right _ _)
  | cons_cons a h ih => rw [List.flatMap_cons, List.flatMap_cons]; exact (hf a (List.mem_cons_self ..)).append (ih fun x hx => hf x (List.mem_cons_of_mem _ hx))
theorem P_more {n : Int} {ls : List LkV} {x : LkV} (hg : Gr n ls) (hg' : Gr n (ls ++ [x])) (t : Int) : ∀ s, (P ls t s).Sublist (P (ls ++ [x]) t s) := by
  refine up_ind hg.up (n := n) (fun j hj => (hg.lk hj).t1) fun s ih => ?_
  by_cases e : s = t
  · subst e; rw [P_end, P_end]; exact List.Sublist.refl _
  · rw [P_rec hg.up e, P_rec hg'.up e]
    refine flatMap_sub (out_more ls x s) fun i hi => ?_
    rw [lk_old (mem_out.1 hi).1]
    exact (ih i hi).map _
theorem P_low {n : Int} {ls : List LkV} (hg : Gr n ls) (t : Int) : ∀ s, ∀ q ∈ P ls t s, ∀ i ∈ q, i < ls.length := by
  refine up_ind hg.up (n := n) (fun j hj => (hg.lk hj).t1) fun s ih q hq i hi => ?_
  by_cases e : s = t
  · subst e
    rw [P_end] at hq
    rw [List.mem_singleton.1 hq] at hi; cases hi
  · obtain ⟨a, q', rfl, ha, hq'⟩ := (mem_P hg.up e).1 hq
    rcases List.mem_cons.1 hi with rfl | hi
    · exact (mem_out.1 ha).1
    · exact ih a ha q' hq' i hi
theorem cst_old {ls : List LkV} {x : LkV} : ∀ {q : List Nat}, (∀ i ∈ q, i < ls.length) → cst (ls ++ [x]) q = cst ls q
  | [], _ => rfl
  | i :: q, h => by rw [cst, cst, lk_old (h i (List.mem_cons_self ..)), cst_old fun j hj => h j (List.mem_cons_of_mem _ hj)]
theorem C_more {n : Int} {ls : List LkV} {x : LkV} (hg : Gr n ls) (hg' : Gr n (ls ++ [x])) (t s : Int) : ∀ c ∈ C ls t s, c ∈ C (ls ++ [x]) t s := fun c hc => by
  obtain ⟨q, hq, rfl⟩ := List.mem_map.1 hc
  exact List.mem_map.2 ⟨q, (P_more hg hg' t s).subset hq, cst_old (P_low hg t s q hq)⟩
theorem more_least {n : Int} {ls : List LkV} {x : LkV} (hg : Gr n ls) (hg' : Gr n (ls ++ [x])) (t s : Int) (h : least ls t s ≠ -1) : least (ls ++ [x]) t s ≠ -1 ∧ least (ls ++ [x]) t s ≤ least ls t s := by
  have hne : C ls t s ≠ [] := fun e => h (by rw [least, e]; rfl)
  have h1 := C_more hg hg' t s _ (minL_mem (C_nonneg hg) hne)
  refine ⟨fun e => ?_, minL_le (C_nonneg hg') _ h1⟩
  have := (minL_none (C_nonneg hg')).1 e
  rw [this] at h1; cases h1
theorem more_most {n : Int} {ls : List LkV} {x : LkV} (hg : Gr n ls) (hg' : Gr n (ls ++ [x])) (t s : Int) (h : least ls t s ≠ -1) : most ls t s ≤ most (ls ++ [x]) t s := by
  have hne : C ls t s ≠ [] := fun e => h (by rw [least, e]; rfl)
  exact maxL_ge _ (C_more hg hg' t s _ (maxL_mem (C_nonneg hg) hne))
theorem more_n {n : Int} {ls : List LkV} {x : LkV} (hg : Gr n ls) (hg' : Gr n (ls ++ [x])) (t s : Int) : npaths ls t s ≤ npaths (ls ++ [x]) t s := (P_more hg hg' t s).length_le

/-! ### along paths -/
theorem walkA_le {n : Int} {ls : List LkV} (hg : Gr n ls) : ∀ (p : List Int) (s c : Int) {r : Int × Int}, walkA ls s c p = some r → s ≤ r.1 ∧ (p ≠ [] → s < r.1)
  | [], s, c, r, h => by cases h; exact ⟨Int.le_refl _, fun h => absurd rfl h⟩
  | i :: p, s, c, r, h => by
    rw [walkA] at h
    split at h
    · rename_i hi
      have h1 := (walkA_le hg p _ _ h).1
      have := hg.up i.toNat (by omega)
      exact ⟨by omega, fun _ => by omega⟩
    · cases h
theorem walkA_P {n : Int} {ls : List LkV} (hg : Gr n ls) (t : Int) : ∀ (p : List Int) (s c c' : Int), walkA ls s c p = some (t, c') → ∃ q ∈ P ls t s, p = toI q ∧ c' = c + cst ls q
  | [], s, c, c', h => by
    rw [walkA] at h
    cases h
    exact ⟨[], by rw [P_end]; simp, rfl, by rw [cst]; omega⟩
  | i :: p, s, c, c', h => by
    have hlt := (walkA_le hg _ _ _ h).2 (by simp)
    rw [walkA] at h
    split at h
    · rename_i hi
      obtain ⟨q, hq, h1, h2⟩ := walkA_P hg t p _ _ _ h
      refine ⟨i.toNat :: q, (mem_P hg.up (by simp only at hlt; omega)).2 ⟨_, _, rfl, mem_out.2 ⟨by omega, hi.2.2⟩, hq⟩, ?_, ?_⟩
      · rw [toI, List.map_cons, h1]
        congr 1; omega
      · rw [h2, cst]; omega
    · cases h
theorem P_walkA {n : Int} {ls : List LkV} (hg : Gr n ls) (t : Int) : ∀ (q : List Nat) (s c : Int), q ∈ P ls t s → walkA ls s c (toI q) = some (t, c + cst ls q)
  | [], s, c, h => by
    by_cases e : s = t
    · subst e; rw [toI, List.map_nil, walkA, cst, Int.add_zero]
    · obtain ⟨i, q', h', _⟩ := (mem_P hg.up e).1 h
      cases h'
  | i :: q, s, c, h => by
    by_cases e : s = t
    · subst e; rw [P_end] at h; cases List.mem_singleton.1 h
    · obtain ⟨i', q', h', hi, hq⟩ := (mem_P hg.up e).1 h
      cases h'
      obtain ⟨h1, h2⟩ := mem_out.1 hi
      rw [toI, List.map_cons, walkA, if_pos ⟨by omega, by omega, by simpa using h2⟩]
      have := P_walkA hg t q (lk ls i).t (c + (lk ls i).c) hq
      rw [Int.toNat_natCast, cst, ← Int.add_assoc]
      exact this
/-- what potentials prove -/
theorem feas_le {n : Int} {ls : List LkV} (hg : Gr n ls) {t : Int} {pots : List Int} (hf : feas n ls t pots = true) : ∀ (q : List Nat) (s : Int), 0 ≤ s → s < n → q ∈ P ls t s → pt pots s ≠ -1 ∧ pt pots s ≤ cst ls q := by
  unfold feas at hf
  rw [decide_eq_true_eq] at hf
  obtain ⟨hlen, hlow, ht0, hok⟩ := hf
  intro q
  induction q with
  | nil =>
    intro s h0 h1 hq
    by_cases e : s = t
    · subst e; rw [ht0]; exact ⟨by decide, Int.le_refl _⟩
    · obtain ⟨i, q', h', _⟩ := (mem_P hg.up e).1 hq
      cases h'
  | cons i q ih =>
    intro s h0 h1 hq
    by_cases e : s = t
    · subst e; rw [P_end] at hq; cases List.mem_singleton.1 hq
    · obtain ⟨i', q', h', hi, hq'⟩ := (mem_P hg.up e).1 hq
      cases h'
      obtain ⟨hil, hif⟩ := mem_out.1 hi
      have hk := hg.lk hil
      obtain ⟨h2, h3⟩ := ih _ hk.t0 hk.t1 hq'
      have := hok (lk ls i) (by rw [lk_get hil]; exact List.getElem_mem hil) h2
      rw [hif] at this
      rw [cst]
      exact ⟨this.1, by omega⟩
end Go.Proofs.Ytipcelgoachjjaa
