/- Nesting: what Nested returns, lists one after the other and within a tag, one tag less; what each tag's forms are. -/
import Derived.Test.YtdgihkgomfpmoaaGreatDoorMkList
namespace Go.Proofs.YtdgihkgomfpmoaaGreatDoor

/-- the open tags behind a list, or the first error -/
def runS : List Bs → List Lx → Int × List Bs
  | st, [] => (0, st)
  | st, x :: L =>
    if x.k = 2 then (if 16 < st.length + 1 then (4, []) else runS (x.n :: st) L)
    else if x.k = 3 then (match st with
      | [] => (12, [])
      | t :: st' => if t = x.n then runS st' L else (12, []))
    else runS st L
def nestF (st : List Bs) (L : List Lx) : Int := if (runS st L).1 = 0 then (if (runS st L).2 = [] then 0 else 12) else (runS st L).1
def nestR (L : List Lx) : Int := if chkR L = 0 then nestF [] L else 1
theorem runS_cons (st : List Bs) (x : Lx) (L : List Lx) : runS st (x :: L) =
    if x.k = 2 then (if 16 < st.length + 1 then (4, []) else runS (x.n :: st) L)
    else if x.k = 3 then (match st with
      | [] => (12, [])
      | t :: st' => if t = x.n then runS st' L else (12, []))
    else runS st L := by rw [runS.eq_def]
theorem runS_append : ∀ (A B : List Lx) (st : List Bs), runS st (A ++ B) = if (runS st A).1 = 0 then runS (runS st A).2 B else runS st A
  | [], B, st => by simp [runS]
  | x :: A, B, st => by
    rw [List.cons_append, runS_cons, runS_cons]
    split
    · split
      · simp
      · exact runS_append A B _
    · split
      · split
        · simp
        · split
          · exact runS_append A B _
          · simp
      · exact runS_append A B _
theorem runS_same {f : Lx → Lx} (h : ∀ x, (f x).k = x.k ∧ (f x).n = x.n) : ∀ (L : List Lx) (st : List Bs), runS st (L.map f) = runS st L
  | [], st => rfl
  | x :: L, st => by
    rw [List.map_cons, runS_cons, runS_cons, (h x).1, (h x).2]
    simp only [runS_same h L]
theorem nest_zero {L : List Lx} : nestF [] L = 0 ↔ runS [] L = (0, []) := by
  unfold nestF
  constructor
  · intro h
    by_cases h1 : (runS [] L).1 = 0
    · rw [if_pos h1] at h
      by_cases h2 : (runS [] L).2 = []
      · exact Prod.ext h1 h2
      · rw [if_neg h2] at h
        cases h
    · rw [if_neg h1] at h
      exact absurd h h1
  · intro h
    rw [h]; rfl
/-- P9.6: one after the other -/
theorem nest_both {l m : List Lx} {x : Lx} (hx : x.k = 4) (hl : nestF [] l = 0) (hm : nestF [] m = 0) : nestF [] (l ++ [x] ++ m) = 0 := by
  rw [nest_zero] at hl hm ⊢
  rw [List.append_assoc, runS_append, hl]
  show runS [] (x :: m) = _
  rw [runS_cons, if_neg (by omega), if_neg (by omega)]
  exact hm
def stepD (d : Int) (x : Lx) : Int := if x.k = 2 then d + 1 else if x.k = 3 then d - 1 else d
/-- how many are open at most -/
def hi (d : Int) : List Lx → Int
  | [] => d
  | x :: L => max d (hi (stepD d x) L)
theorem hi_ge (d : Int) (L : List Lx) : d ≤ hi d L := by
  cases L with
  | nil => exact Int.le_refl _
  | cons x L => unfold hi; omega
/-- the same, as it is reckoned -/
def mostI (d m : Int) : List Lx → Int
  | [] => m
  | x :: L => mostI (stepD d x) (max m (stepD d x)) L
theorem mostI_hi : ∀ (L : List Lx) (d m : Int), d ≤ m → mostI d m L = max m (hi d L)
  | [], d, m, h => by unfold mostI hi; omega
  | x :: L, d, m, h => by
    have := hi_ge (stepD d x) L
    rw [mostI, mostI_hi L _ _ (by omega), hi]
    omega
theorem base_ok (b : Bs) : ∀ (L : List Lx) (st st' : List Bs), runS st L = (0, st') → hi st.length L ≤ 15 → runS (st ++ [b]) L = (0, st' ++ [b])
  | [], st, st', h, _ => by cases h; rfl
  | x :: L, st, st', h, hh => by
    rw [runS_cons] at h ⊢
    rw [hi] at hh
    by_cases h2 : x.k = 2
    · rw [if_pos h2] at h ⊢
      have hs : stepD (st.length : Int) x = ((x.n :: st).length : Int) := by
        unfold stepD
        rw [if_pos h2, List.length_cons]; omega
      rw [hs] at hh
      have hg := hi_ge ((x.n :: st).length : Int) L
      have hl : st.length + 1 ≤ 15 := by rw [List.length_cons] at hg hh; omega
      rw [if_neg (by omega)] at h
      rw [if_neg (by rw [List.length_append, List.length_singleton]; omega)]
      exact base_ok b L (x.n :: st) st' h (by omega)
    · rw [if_neg h2] at h ⊢
      by_cases h3 : x.k = 3
      · rw [if_pos h3] at h ⊢
        cases st with
        | nil => cases h
        | cons t st =>
          simp only [List.cons_append] at h ⊢
          by_cases ht : t = x.n
          · rw [if_pos ht] at h ⊢
            have hs : stepD ((t :: st).length : Int) x = (st.length : Int) := by
              unfold stepD
              rw [if_neg h2, if_pos h3, List.length_cons]; omega
            rw [hs] at hh
            exact base_ok b L st st' h (by omega)
          · rw [if_neg ht] at h
            cases h
      · rw [if_neg h3] at h ⊢
        have hs : stepD (st.length : Int) x = (st.length : Int) := by unfold stepD; rw [if_neg h2, if_neg h3]
        rw [hs] at hh
        exact base_ok b L st st' h (by omega)
theorem base_lim (b : Bs) : ∀ (L : List Lx) (st st' : List Bs), runS st L = (0, st') → st.length ≤ 15 → 16 ≤ hi st.length L → runS (st ++ [b]) L = (4, [])
  | [], st, st', h, h15, hh => by unfold hi at hh; omega
  | x :: L, st, st', h, h15, hh => by
    rw [runS_cons] at h ⊢
    rw [hi] at hh
    by_cases h2 : x.k = 2
    · rw [if_pos h2] at h ⊢
      have hs : stepD (st.length : Int) x = ((x.n :: st).length : Int) := by
        unfold stepD
        rw [if_pos h2, List.length_cons]; omega
      rw [hs] at hh
      by_cases hl : 16 < (st ++ [b]).length + 1
      · rw [if_pos hl]
      · rw [if_neg hl]
        rw [List.length_append, List.length_singleton] at hl
        rw [if_neg (by omega)] at h
        exact base_lim b L (x.n :: st) st' h (by rw [List.length_cons]; omega) (by rw [List.length_cons] at hh ⊢; omega)
    · rw [if_neg h2] at h ⊢
      by_cases h3 : x.k = 3
      · rw [if_pos h3] at h ⊢
        cases st with
        | nil => cases h
        | cons t st =>
          simp only [List.cons_append] at h ⊢
          by_cases ht : t = x.n
          · rw [if_pos ht] at h ⊢
            have hs : stepD ((t :: st).length : Int) x = (st.length : Int) := by
              unfold stepD
              rw [if_neg h2, if_pos h3, List.length_cons]; omega
            rw [hs] at hh
            rw [List.length_cons] at hh h15
            exact base_lim b L st st' h (by omega) (by omega)
          · rw [if_neg ht] at h
            cases h
      · rw [if_neg h3] at h ⊢
        have hs : stepD (st.length : Int) x = (st.length : Int) := by unfold stepD; rw [if_neg h2, if_neg h3]
        rw [hs] at hh
        exact base_lim b L st st' h h15 (by omega)
/-- P9.6: within a tag -/
theorem nest_in {l : List Lx} {x y : Lx} (hx : x.k = 2) (hy : y.k = 3) (hn : x.n = y.n) (hl : nestF [] l = 0) : (nestF [] ([x] ++ l ++ [y]) = 0) ↔ mostI 0 0 l < 16 := by
  rw [nest_zero] at hl
  have e : nestF [] ([x] ++ l ++ [y]) = nestF [x.n] (l ++ [y]) := by
    unfold nestF
    have : runS [] ([x] ++ l ++ [y]) = runS [x.n] (l ++ [y]) := by
      show runS [] (x :: (l ++ [y])) = _
      rw [runS_cons, if_pos hx]; rfl
    rw [this]
  rw [e, mostI_hi l 0 0 (Int.le_refl _)]
  have hg := hi_ge 0 l
  by_cases h : hi 0 l ≤ 15
  · have := base_ok x.n l [] [] hl h
    have h2 : runS [x.n] (l ++ [y]) = (0, []) := by
      rw [runS_append]
      rw [show ([x.n] : List Bs) = [] ++ [x.n] from rfl, this]
      show runS ([] ++ [x.n]) [y] = _
      simp [runS, hy, hn]
    unfold nestF
    rw [h2]
    constructor
    · intro _; omega
    · intro _; rfl
  · have := base_lim x.n l [] [] hl (Nat.zero_le _) (by show (16 : Int) ≤ hi 0 l; omega)
    have h2 : runS [x.n] (l ++ [y]) = (4, []) := by
      rw [runS_append]
      rw [show ([x.n] : List Bs) = [] ++ [x.n] from rfl, this]
      rfl
    unfold nestF
    rw [h2]
    constructor
    · intro h; exact absurd h (by decide)
    · intro h; omega
def opens (L : List Lx) : Nat := (L.filter fun x => decide (x.k = 2)).length
def closes (L : List Lx) : Nat := (L.filter fun x => decide (x.k = 3)).length
theorem opens_cons (x : Lx) (L : List Lx) : opens (x :: L) = (if x.k = 2 then 1 else 0) + opens L := by
  unfold opens
  rw [List.filter_cons]
  by_cases h : x.k = 2
  · rw [if_pos (by simpa using h), if_pos h, List.length_cons]; omega
  · rw [if_neg (by simpa using h), if_neg h]; omega
theorem closes_cons (x : Lx) (L : List Lx) : closes (x :: L) = (if x.k = 3 then 1 else 0) + closes L := by
  unfold closes
  rw [List.filter_cons]
  by_cases h : x.k = 3
  · rw [if_pos (by simpa using h), if_pos h, List.length_cons]; omega
  · rw [if_neg (by simpa using h), if_neg h]; omega
theorem runS_cnt : ∀ (L : List Lx) (st st' : List Bs), runS st L = (0, st') → st.length + opens L = st'.length + closes L
  | [], st, st', h => by cases h; rfl
  | x :: L, st, st', h => by
    rw [runS_cons] at h
    rw [opens_cons, closes_cons]
    by_cases h2 : x.k = 2
    · rw [if_pos h2] at h
      split at h
      · cases h
      · have := runS_cnt L _ _ h
        rw [List.length_cons] at this
        rw [if_pos h2, if_neg (by omega)]; omega
    · rw [if_neg h2] at h
      by_cases h3 : x.k = 3
      · rw [if_pos h3] at h
        cases st with
        | nil => cases h
        | cons t st =>
          simp only at h
          split at h
          · have := runS_cnt L _ _ h
            rw [if_neg h2, if_pos h3, List.length_cons]; omega
          · cases h
      · rw [if_neg h3] at h
        have := runS_cnt L _ _ h
        rw [if_neg h2, if_neg h3]; omega
theorem runS_lim : ∀ (L : List Lx) (st : List Bs), st.length + opens L ≤ 16 → (runS st L).1 = 0 ∨ (runS st L).1 = 12
  | [], st, h => .inl rfl
  | x :: L, st, h => by
    rw [opens_cons] at h
    rw [runS_cons]
    by_cases h2 : x.k = 2
    · rw [if_pos h2] at h ⊢
      rw [if_neg (by omega)]
      exact runS_lim L _ (by rw [List.length_cons]; omega)
    · rw [if_neg h2] at h ⊢
      by_cases h3 : x.k = 3
      · rw [if_pos h3]
        cases st with
        | nil => exact .inr rfl
        | cons t st =>
          simp only
          split
          · exact runS_lim L _ (by rw [List.length_cons] at h; omega)
          · exact .inr rfl
      · rw [if_neg h3]
        exact runS_lim L _ (by omega)
theorem both_len : ∀ L : List Lx, opens L + closes L ≤ L.length
  | [] => Nat.le_refl _
  | x :: L => by
    have := both_len L
    rw [opens_cons, closes_cons, List.length_cons]
    by_cases h2 : x.k = 2
    · rw [if_pos h2, if_neg (by omega)]; omega
    · rw [if_neg h2]
      split <;> omega
theorem set_cnt : ∀ (L : List Lx) (k : Nat) (hk : k < L.length) (y : Lx), y.k = 4 → (L[k].k = 2 ∨ L[k].k = 3) → (opens (L.set k y) + closes (L.set k y) + 1 = opens L + closes L) ∧ opens (L.set k y) ≤ opens L ∧ closes (L.set k y) ≤ closes L
  | [], k, hk, _, _, _ => by simp at hk
  | x :: L, 0, _, y, hy, hx => by
    rw [List.set_cons_zero, opens_cons, closes_cons, opens_cons, closes_cons]
    have hx : x.k = 2 ∨ x.k = 3 := hx
    rw [if_neg (show ¬ y.k = 2 by omega), if_neg (show ¬ y.k = 3 by omega)]
    rcases hx with h | h
    · rw [if_pos h, if_neg (by omega)]; omega
    · rw [if_neg (by omega), if_pos h]; omega
  | x :: L, k + 1, hk, y, hy, hx => by
    obtain ⟨h1, h2, h3⟩ := set_cnt L k (by simpa using hk) y hy hx
    rw [List.set_cons_succ, opens_cons, closes_cons, opens_cons, closes_cons]
    omega
/-- P9.6: one tag less -/
theorem nest_less {l : List Lx} (hl : l.length ≤ 24) (h : nestF [] l = 0) (k : Nat) (hk : k < l.length) (hx : l[k].k = 2 ∨ l[k].k = 3) (y : Lx) (hy : y.k = 4) : nestF [] (l.set k y) = 12 := by
  have h1 := runS_cnt l [] [] (nest_zero.1 h)
  have h2 := both_len l
  obtain ⟨h3, h4, h5⟩ := set_cnt l k hk y hy hx
  have h6 := runS_lim (l.set k y) [] (by show 0 + _ ≤ _; simp only [List.length_nil] at h1; omega)
  unfold nestF
  rcases h6 with h6 | h6
  · rw [if_pos h6]
    have h7 := runS_cnt (l.set k y) [] (runS [] (l.set k y)).2 (Prod.ext h6 rfl)
    simp only [List.length_nil] at h1 h7
    rw [if_neg (fun e => by rw [e] at h7; simp only [List.length_nil] at h7; omega)]
  · rw [if_neg (by rw [h6]; decide), h6]
/- right offsets -/
def lenX (x : Lx) : Nat := x.n.length + x.v.length + (if x.k = 1 then 0 else 2 + (if x.v = [] then 0 else 1) + (if x.k = 2 then 0 else 1))
def reAt : Nat → List Lx → List Lx
  | _, [] => []
  | o, x :: L => { x with o := o } :: reAt (o + lenX x) L
def okL : Bool → List Lx → Bool
  | _, [] => true
  | p, x :: L => okX p x && okL (decide (x.k = 1)) L
theorem len_form {p : Bool} {x : Lx} (h : okX p x = true) : lenX x = (form x).length := by
  unfold lenX
  by_cases hk : x.k = 1
  · rw [form_one hk, if_pos hk, (ok_text h hk).1]; simp
  · have hg := ok_tag h hk
    obtain ⟨h1, _, _, h3, _⟩ := good_tag hg
    rw [if_neg hk]
    unfold form formF bodyL
    rcases h1 with h1 | h1 | h1
    · rw [h1]
      by_cases hv : x.v = []
      · simp [hv] <;> omega
      · simp [hv] <;> omega
    · have hv := h3 h1
      rw [h1, hv]
      simp <;> omega
    · rw [h1]
      by_cases hv : x.v = []
      · simp [hv] <;> omega
      · simp [hv] <;> omega
theorem okX_o (p : Bool) (x : Lx) (d : Int) : okX p { x with o := d } = okX p x := rfl
theorem val_okL : ∀ (L : List Lx) (p : Bool) (o : Nat), valB p o L = true → okL p L = true
  | [], _, _, _ => rfl
  | x :: L, p, o, h => by
    rw [valB, Bool.and_eq_true, Bool.and_eq_true] at h
    rw [okL, Bool.and_eq_true]
    exact ⟨h.1.1, val_okL L _ _ h.2⟩
theorem okL_val : ∀ (L : List Lx) (p : Bool) (o : Nat), okL p L = true → valB p o (reAt o L) = true ∧ prn (reAt o L) = prn L
  | [], _, _, _ => ⟨rfl, rfl⟩
  | x :: L, p, o, h => by
    rw [okL, Bool.and_eq_true] at h
    obtain ⟨h1, h2⟩ := okL_val L _ (o + lenX x) h.2
    rw [reAt, valB, prn_cons, prn_cons, form_shift, h2]
    refine ⟨?_, rfl⟩
    rw [okX_o, h.1, ← len_form h.1, h1]
    simp
theorem okL_set : ∀ (L : List Lx) (k : Nat) (hk : k < L.length) (p : Bool) (y : Lx), okL p L = true → L[k].k ≠ 1 → y.k ≠ 1 → goodT y.k y.n y.v = true → okL p (L.set k y) = true
  | [], k, hk, _, _, _, _, _, _ => by simp at hk
  | x :: L, 0, _, p, y, h, h1, h2, h3 => by
    have h1 : x.k ≠ 1 := h1
    rw [okL, Bool.and_eq_true] at h
    rw [List.set_cons_zero, okL, Bool.and_eq_true]
    refine ⟨by unfold okX; rw [if_neg h2]; exact h3, ?_⟩
    rw [decide_eq_false h2]
    rw [decide_eq_false h1] at h
    exact h.2
  | x :: L, k + 1, hk, p, y, h, h1, h2, h3 => by
    rw [okL, Bool.and_eq_true] at h
    rw [List.set_cons_succ, okL, Bool.and_eq_true]
    exact ⟨h.1, okL_set L k (by simpa using hk) _ y h.2 h1 h2 h3⟩
theorem prn_set : ∀ (L : List Lx) (k : Nat) (hk : k < L.length) (y : Lx), (prn (L.set k y)).length + (form L[k]).length = (prn L).length + (form y).length
  | [], k, hk, _ => by simp at hk
  | x :: L, 0, _, y => by
    rw [List.set_cons_zero, prn_cons, prn_cons, List.length_append, List.length_append, List.getElem_cons_zero]; omega
  | x :: L, k + 1, hk, y => by
    have := prn_set L k (by simpa using hk) y
    rw [List.set_cons_succ, prn_cons, prn_cons, List.length_append, List.length_append, List.getElem_cons_succ]; omega
theorem reAt_kn : ∀ (L : List Lx) (o : Nat) (st : List Bs), runS st (reAt o L) = runS st L
  | [], _, _ => rfl
  | x :: L, o, st => by
    rw [reAt, runS_cons, runS_cons]
    simp only [reAt_kn L]
theorem nest_reAt (L : List Lx) (o : Nat) : nestF [] (reAt o L) = nestF [] L := by unfold nestF; rw [reAt_kn]
def lbX : Lx := ⟨4, tLb, [], 0⟩
theorem tag_five {k : Int} {n v : Bs} (h : goodT k n v = true) (hk : k = 2 ∨ k = 3) : 5 ≤ (formF k n v).length := by
  unfold goodT at h
  have hn : ∀ n : Bs, isTag n = true → emptyT n = false → 2 ≤ n.length ∧ (n.length = 2 → n = tAb) := by
    intro n h h2
    unfold isTag tagsL at h
    simp only [List.contains_cons, List.contains_nil, Bool.or_false, Bool.or_eq_true, beq_iff_eq] at h
    rcases h with rfl | rfl | rfl | rfl | rfl | rfl | rfl | rfl | rfl | rfl <;> first | (exact absurd h2 (by decide)) | decide
  rcases hk with rfl | rfl
  · simp only [decide_true, Bool.true_and, Bool.or_eq_true, Bool.and_eq_true, Bool.not_eq_true', decide_eq_true_eq, show ¬ (2 : Int) = 3 by decide, show ¬ (2 : Int) = 4 by decide, false_and, or_false] at h
    obtain ⟨⟨h1, h2⟩, h3⟩ := h
    obtain ⟨h4, h5⟩ := hn n h1 h2
    unfold formF bodyL
    rw [if_pos rfl]
    by_cases hv : v = []
    · by_cases h6 : n.length = 2
      · have := h5 h6
        subst this hv
        exact absurd h3 (by decide)
      · rw [if_pos hv]; simp; omega
    · have := List.length_pos_iff.2 hv
      rw [if_neg hv]; simp; omega
  · simp only [decide_true, Bool.true_and, Bool.or_eq_true, Bool.and_eq_true, Bool.not_eq_true', decide_eq_true_eq, show ¬ (3 : Int) = 2 by decide, show ¬ (3 : Int) = 4 by decide, false_and, or_false, false_or] at h
    obtain ⟨h4, _⟩ := hn n h.1.1 h.1.2
    unfold formF
    rw [if_neg (by decide), if_pos rfl]
    simp; omega
/-- P9.6: with an empty tag in its place, it is still valid -/
theorem less_chk {l : List Lx} (h : chkR l = 0) (k : Nat) (hk : k < l.length) (hx : l[k].k = 2 ∨ l[k].k = 3) : chkR (reAt 0 (l.set k lbX)) = 0 := by
  obtain ⟨h1, h2⟩ := chk_iff.1 h
  have ho := val_okL l false 0 h1
  have hs := okL_set l k hk false lbX ho (by omega) (by decide) (by decide)
  obtain ⟨h3, h4⟩ := okL_val _ false 0 hs
  refine chk_iff.2 ⟨h3, ?_⟩
  rw [h4]
  have h5 := prn_set l k hk lbX
  have h6 : (form lbX).length = 5 := by decide
  have hg : goodT l[k].k l[k].n l[k].v = true := by
    have : ∀ (L : List Lx) (p : Bool) (k : Nat) (hk : k < L.length), okL p L = true → L[k].k ≠ 1 → goodT L[k].k L[k].n L[k].v = true := by
      intro L
      induction L with
      | nil => intro p k hk; simp at hk
      | cons x L ih =>
        intro p k hk h1 h2
        rw [okL, Bool.and_eq_true] at h1
        cases k with
        | zero => exact ok_tag h1.1 h2
        | succ k => exact ih _ k (by simpa using hk) h1.2 h2
    exact this l false k hk ho (by omega)
  have h7 := tag_five hg hx
  have h8 : (form l[k]).length = (formF l[k].k l[k].n l[k].v).length := rfl
  omega
end Go.Proofs.YtdgihkgomfpmoaaGreatDoor
