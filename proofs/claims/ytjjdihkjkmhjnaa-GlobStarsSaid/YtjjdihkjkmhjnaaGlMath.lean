/- Plain mathematics of layer 7: elements of patterns, what they are read from, what matches them. Nothing here speaks of the program. -/
namespace Go.Proofs.Ytjjdihkjkmhjnaa
set_option linter.unusedSimpArgs false
set_option linter.unusedVariables false

/-- the kind of a byte (layer 1) -/
def kindI (c : Int) : Int :=
  if (97 ≤ c ∧ c ≤ 122) ∨ (65 ≤ c ∧ c ≤ 90) then 1
  else if 48 ≤ c ∧ c ≤ 57 then 3
  else if c = 94 ∨ c = 126 ∨ c = 37 then 2
  else if c = 39 then 4
  else if c = 46 ∨ c = 44 ∨ c = 59 ∨ c = 58 ∨ c = 33 ∨ c = 63 ∨ c = 40 ∨ c = 41 ∨ c = 45 then 5
  else if c = 32 then 6
  else 0
/-- a character of words -/
def chI (c : Int) : Bool := c == 42 || (kindI c != 0 && kindI c != 6)
def chW (c : UInt8) : Bool := chI c.toNat
theorem chW_ne {c : UInt8} (h : chW c = true) : c ≠ 91 ∧ c ≠ 93 ∧ c ≠ 32 := by
  refine ⟨?_, ?_, ?_⟩
  all_goals
    rintro rfl
    revert h
    decide

inductive El where
  | one (c : UInt8) : El
  | any : El
  | star : El
  | cls (cs : List UInt8) : El
def El.txt : El → List UInt8
  | .one c => [c]
  | .any => [63]
  | .star => [42]
  | .cls cs => 91 :: (cs ++ [93])
def El.fits : El → UInt8 → Bool
  | .one a, c => a == c
  | .any, _ => true
  | .star, _ => true
  | .cls cs, c => cs.any (· == c)
def El.isS : El → Bool
  | .star => true
  | _ => false
theorem El.isS_iff {x : El} : x.isS = true ↔ x = .star := by cases x <;> simp [El.isS]
def txts (l : List El) : List UInt8 := (l.map El.txt).flatten
theorem txts_nil : txts [] = [] := rfl
theorem txts_cons (x : El) (l : List El) : txts (x :: l) = x.txt ++ txts l := rfl
theorem txts_append (l m : List El) : txts (l ++ m) = txts l ++ txts m := by simp [txts]
theorem txt_pos (x : El) : 1 ≤ x.txt.length := by cases x <;> simp [El.txt]
/-- elements as they can be read -/
def El.ok : El → Bool
  | .one c => chW c && c != 63 && c != 42
  | .any => true
  | .star => true
  | .cls cs => !cs.isEmpty && cs.all chW

/-- what stands before the first e, and what stands behind it -/
def cutAt (e : UInt8) : List UInt8 → Option (List UInt8 × List UInt8)
  | [] => none
  | c :: l => if c = e then some ([], l) else match cutAt e l with | some (d, r) => some (c :: d, r) | none => none
theorem cutAt_some {e : UInt8} : ∀ {l d r : List UInt8}, cutAt e l = some (d, r) → l = d ++ e :: r ∧ e ∉ d
  | [], d, r, h => by cases h
  | c :: l, d, r, h => by
    rw [cutAt] at h
    by_cases hc : c = e
    · rw [if_pos hc] at h; cases h; exact ⟨by rw [hc]; rfl, by simp⟩
    · rw [if_neg hc] at h
      cases hl : cutAt e l with
      | none => rw [hl] at h; cases h
      | some p =>
        obtain ⟨d', r'⟩ := p
        rw [hl] at h; cases h
        obtain ⟨h1, h2⟩ := cutAt_some hl
        exact ⟨by rw [h1]; rfl, by simp [h2]; exact fun h => hc h.symm⟩
theorem cutAt_none {e : UInt8} : ∀ {l : List UInt8}, cutAt e l = none ↔ e ∉ l
  | [] => by simp [cutAt]
  | c :: l => by
    rw [cutAt]
    by_cases hc : c = e
    · rw [if_pos hc]; simp [hc]
    · rw [if_neg hc]
      have := cutAt_none (e := e) (l := l)
      cases hl : cutAt e l with
      | none => simp [this.1 hl]; exact fun h => hc h.symm
      | some p =>
        rw [hl] at this
        simp at this
        simp [this]
theorem cutAt_app {e : UInt8} : ∀ {d : List UInt8} (r : List UInt8), e ∉ d → cutAt e (d ++ e :: r) = some (d, r)
  | [], r, _ => by rw [List.nil_append, cutAt, if_pos rfl]
  | c :: d, r, h => by
    rw [List.cons_append, cutAt, if_neg (fun hc => h (by rw [hc]; exact List.mem_cons_self ..)), cutAt_app r (fun hm => h (List.mem_cons_of_mem _ hm))]
theorem cut_find (e : UInt8) (l : List UInt8) : (cutAt e l = none ∧ ∀ (j : Nat) (h : j < l.length), l[j] ≠ e) ∨
    ∃ (k : Nat) (h : k < l.length), cutAt e l = some (l.take k, l.drop (k + 1)) ∧ l[k] = e ∧ ∀ (j : Nat) (h' : j < k), l[j]'(by omega) ≠ e := by
  induction l with
  | nil => exact .inl ⟨rfl, fun j h => by simp at h⟩
  | cons c l ih =>
    by_cases hc : c = e
    · exact .inr ⟨0, by simp, by simp [cutAt, hc], by simpa using hc, fun j h => by omega⟩
    · rcases ih with ⟨h1, h2⟩ | ⟨k, hk, h1, h2, h3⟩
      · refine .inl ⟨by rw [cutAt, if_neg hc, h1], fun j h => ?_⟩
        cases j with
        | zero => exact hc
        | succ j => exact h2 j (by simpa using h)
      · refine .inr ⟨k + 1, by simpa using hk, by rw [cutAt, if_neg hc, h1]; rfl, by simpa using h2, fun j h => ?_⟩
        cases j with
        | zero => exact hc
        | succ j => exact h3 j (by omega)
/-- a single character -/
def chEl (c : UInt8) : El := if c = 63 then .any else if c = 42 then .star else .one c
/-- the first element: its error, itself, its length -/
def pel (p : List UInt8) : Int × El × Nat :=
  match p with
  | [] => (3, .any, 0)
  | c :: r =>
    if c = 93 then (3, .any, 0)
    else if c = 91 then
      match cutAt 93 r with
      | none => (3, .any, 0)
      | some (d, _) => if d = [] then (3, .any, 0) else if d.all chW then (0, .cls d, d.length + 2) else (11, .any, 0)
    else if chW c then (0, chEl c, 1) else (11, .any, 0)
theorem chEl_txt (c : UInt8) : (chEl c).txt = [c] := by
  unfold chEl
  split
  · rename_i h; rw [h]; rfl
  · split
    · rename_i h; rw [h]; rfl
    · rfl
theorem chEl_ok {c : UInt8} (h : chW c = true) : (chEl c).ok = true := by
  unfold chEl
  split
  · rfl
  · split
    · rfl
    · simp [El.ok, *]
theorem pel_ok {p : List UInt8} {x : El} {n : Nat} (h : pel p = (0, x, n)) : x.ok = true ∧ n = x.txt.length ∧ p = x.txt ++ p.drop n := by
  unfold pel at h
  cases p with
  | nil => simp at h
  | cons c r =>
    simp only at h
    split at h
    · simp at h
    · split at h
      · rename_i h1 h2
        cases hc : cutAt 93 r with
        | none => rw [hc] at h; simp at h
        | some q =>
          obtain ⟨d, t⟩ := q
          rw [hc] at h
          simp only at h
          split at h
          · simp at h
          · split at h
            · rename_i h3 h4
              simp only [Prod.mk.injEq, true_and] at h
              obtain ⟨rfl, rfl⟩ := h
              obtain ⟨h5, _⟩ := cutAt_some hc
              refine ⟨?_, by simp [El.txt], ?_⟩
              · rw [El.ok, h4, Bool.and_true]
                cases d with
                | nil => exact absurd rfl h3
                | cons => rfl
              · rw [h2, h5]; simp [El.txt]
            · simp at h
      · split at h
        · rename_i h1 h2 h3
          simp only [Prod.mk.injEq, true_and] at h
          obtain ⟨rfl, rfl⟩ := h
          exact ⟨chEl_ok h3, by rw [chEl_txt]; rfl, by rw [chEl_txt]; rfl⟩
        · simp at h
theorem pel_txt {x : El} (h : x.ok = true) (r : List UInt8) : pel (x.txt ++ r) = (0, x, x.txt.length) := by
  cases x with
  | one c =>
    simp only [El.ok, Bool.and_eq_true, bne_iff_ne, ne_eq] at h
    obtain ⟨⟨h1, h2⟩, h3⟩ := h
    have := chW_ne h1
    simp [El.txt, pel, this.1, this.2.1, h1, chEl, h2, h3]
  | any => rfl
  | star => rfl
  | cls cs =>
    simp only [El.ok, Bool.and_eq_true] at h
    obtain ⟨h1, h2⟩ := h
    have hn : (93 : UInt8) ∉ cs := fun hm => (chW_ne (List.all_eq_true.1 h2 _ hm)).2.1 rfl
    have hne : cs ≠ [] := by rintro rfl; simp at h1
    show pel (91 :: (cs ++ [93]) ++ r) = _
    rw [List.cons_append, List.append_assoc, show [(93 : UInt8)] ++ r = 93 :: r from rfl]
    unfold pel
    simp only
    rw [if_neg (by decide), if_pos trivial, cutAt_app r hn]
    simp only
    rw [if_neg hne, if_pos h2]
    simp [El.txt]

def parN : Nat → List UInt8 → Int × List El
  | 0, _ => (0, [])
  | _ + 1, [] => (0, [])
  | k + 1, c :: r => if (pel (c :: r)).1 = 0 then ((parN k ((c :: r).drop (pel (c :: r)).2.2)).1, (pel (c :: r)).2.1 :: (parN k ((c :: r).drop (pel (c :: r)).2.2)).2) else ((pel (c :: r)).1, [])
/-- the error of a pattern, and its elements -/
def par (p : List UInt8) : Int × List El := parN p.length p
theorem pel_len {p : List UInt8} (h : (pel p).1 = 0) : 1 ≤ (pel p).2.2 ∧ (pel p).2.2 ≤ p.length := by
  obtain ⟨_, h1, h2⟩ := pel_ok (x := (pel p).2.1) (n := (pel p).2.2) (by rw [← h])
  have := txt_pos (pel p).2.1
  have h3 := congrArg List.length h2
  rw [List.length_append, List.length_drop] at h3
  omega
theorem parN_enough : ∀ (n m : Nat) (l : List UInt8), l.length ≤ n → l.length ≤ m → parN n l = parN m l
  | 0, m, l, hn, _ => by
    have : l = [] := List.length_eq_zero_iff.1 (by omega)
    subst this; cases m <;> rfl
  | n + 1, 0, l, _, hm => by
    have : l = [] := List.length_eq_zero_iff.1 (by omega)
    subst this; rfl
  | n + 1, m + 1, [], _, _ => rfl
  | n + 1, m + 1, c :: t, hn, hm => by
    rw [parN, parN]
    by_cases h : (pel (c :: t)).1 = 0
    · rw [if_pos h, if_pos h]
      have := pel_len h
      have hl : ((c :: t).drop (pel (c :: t)).2.2).length = (c :: t).length - (pel (c :: t)).2.2 := List.length_drop
      rw [parN_enough n m _ (by rw [hl]; omega) (by rw [hl]; omega)]
    · rw [if_neg h, if_neg h]
theorem par_nil : par [] = (0, []) := rfl
theorem par_bad {p : List UInt8} (hp : p ≠ []) (h : (pel p).1 ≠ 0) : par p = ((pel p).1, []) := by
  cases p with
  | nil => exact absurd rfl hp
  | cons c t => show parN (t.length + 1) _ = _; rw [parN, if_neg h]
theorem par_good {p : List UInt8} (hp : p ≠ []) (h : (pel p).1 = 0) : par p = ((par (p.drop (pel p).2.2)).1, (pel p).2.1 :: (par (p.drop (pel p).2.2)).2) := by
  cases p with
  | nil => exact absurd rfl hp
  | cons c t =>
    have := pel_len h
    have hl : ((c :: t).drop (pel (c :: t)).2.2).length = (c :: t).length - (pel (c :: t)).2.2 := List.length_drop
    show parN (t.length + 1) _ = _
    rw [parN, if_pos h, par, parN_enough t.length _ _ (by rw [hl, List.length_cons]; omega) (Nat.le_refl _)]
def oks (l : List El) : Prop := ∀ x ∈ l, x.ok = true
theorem par_txt {x : El} (h : x.ok = true) (r : List UInt8) : par (x.txt ++ r) = ((par r).1, x :: (par r).2) := by
  have hp := pel_txt h r
  have hne : x.txt ++ r ≠ [] := by
    intro e
    have := txt_pos x
    have h2 := congrArg List.length e
    rw [List.length_append, List.length_nil] at h2
    omega
  rw [par_good hne (by rw [hp]), hp]
  simp
theorem par_app : ∀ {l : List El}, oks l → ∀ r, par (txts l ++ r) = ((par r).1, l ++ (par r).2)
  | [], _, r => rfl
  | x :: l, h, r => by
    rw [txts_cons, List.append_assoc, par_txt (h x (by simp)), par_app (fun y hy => h y (by simp [hy])) r]
    rfl
theorem par_txts {l : List El} (h : oks l) : par (txts l) = (0, l) := by
  have := par_app h []
  rw [List.append_nil, par_nil, List.append_nil] at this
  exact this
theorem par_ok : ∀ (n : Nat) {p : List UInt8} {l : List El}, p.length ≤ n → par p = (0, l) → oks l ∧ txts l = p
  | n, [], l, _, h => by
    rw [par_nil] at h; cases h
    exact ⟨fun x hx => by simp at hx, rfl⟩
  | 0, c :: r, l, hn, _ => by simp at hn
  | n + 1, c :: r, l, hn, h => by
    by_cases h0 : (pel (c :: r)).1 = 0
    · rw [par_good (by simp) h0] at h
      have hb := pel_len h0
      obtain ⟨k1, k2, k3⟩ := pel_ok (p := c :: r) (x := (pel (c :: r)).2.1) (n := (pel (c :: r)).2.2) (by rw [← h0])
      simp only [Prod.mk.injEq] at h
      obtain ⟨h1, h2⟩ := h
      obtain ⟨h3, h4⟩ := par_ok n (p := (c :: r).drop (pel (c :: r)).2.2) (l := (par ((c :: r).drop (pel (c :: r)).2.2)).2) (by rw [List.length_drop]; simp at hn ⊢; omega) (by rw [← h1])
      subst h2
      refine ⟨fun x hx => ?_, ?_⟩
      · rcases List.mem_cons.1 hx with rfl | hx
        · exact k1
        · exact h3 x hx
      · rw [txts_cons, h4]; exact k3.symm
    · rw [par_bad (by simp) h0] at h
      simp only [Prod.mk.injEq] at h
      exact absurd h.1 h0
theorem par_two {p : List UInt8} {l : List El} (h : par p = (0, l)) (q : List UInt8) : par (p ++ q) = ((par q).1, l ++ (par q).2) := by
  obtain ⟨h1, h2⟩ := par_ok _ (Nat.le_refl _) h
  rw [← h2, par_app h1]

/-- what matches elements -/
inductive Mat : List El → List UInt8 → Prop
  | nil : Mat [] []
  | skip {x : El} {l : List El} {w : List UInt8} : x.isS = true → Mat l w → Mat (x :: l) w
  | more {x : El} {l : List El} {w : List UInt8} {c : UInt8} : x.isS = true → Mat (x :: l) w → Mat (x :: l) (c :: w)
  | one {x : El} {l : List El} {w : List UInt8} {c : UInt8} : x.isS = false → x.fits c = true → Mat l w → Mat (x :: l) (c :: w)
theorem mat_nil {w : List UInt8} : Mat [] w ↔ w = [] := ⟨fun h => by cases h; rfl, fun h => by rw [h]; exact .nil⟩
theorem mat_star {l : List El} {w : List UInt8} : Mat (.star :: l) w ↔ ∃ a b, w = a ++ b ∧ Mat l b := by
  constructor
  · intro h
    generalize hx : El.star :: l = m at h
    induction h with
    | nil => cases hx
    | skip _ h _ => cases hx; exact ⟨[], _, rfl, h⟩
    | more _ _ ih =>
      cases hx
      obtain ⟨a, b, rfl, h⟩ := ih rfl
      exact ⟨_ :: a, b, rfl, h⟩
    | one h _ _ _ => cases hx; cases h
  · rintro ⟨a, b, rfl, h⟩
    induction a with
    | nil => exact .skip rfl h
    | cons c a ih => exact .more rfl ih
theorem mat_one {x : El} {l : List El} {w : List UInt8} (hx : x.isS = false) : Mat (x :: l) w ↔ ∃ c b, w = c :: b ∧ x.fits c = true ∧ Mat l b := by
  constructor
  · intro h
    cases h with
    | skip h _ => rw [hx] at h; cases h
    | more h _ => rw [hx] at h; cases h
    | one _ h1 h2 => exact ⟨_, _, rfl, h1, h2⟩
  · rintro ⟨c, b, rfl, h1, h2⟩
    exact .one hx h1 h2
/-- two patterns, one behind the other -/
theorem mat_append : ∀ {l m : List El} {w : List UInt8}, Mat (l ++ m) w ↔ ∃ a b, w = a ++ b ∧ Mat l a ∧ Mat m b
  | [], m, w => ⟨fun h => ⟨[], w, rfl, .nil, h⟩, fun ⟨a, b, h1, h2, h3⟩ => by rw [mat_nil] at h2; subst h2; rw [h1]; exact h3⟩
  | x :: l, m, w => by
    rw [List.cons_append]
    by_cases hx : x.isS = true
    · rw [El.isS_iff.1 hx, mat_star]
      constructor
      · rintro ⟨a, b, rfl, h⟩
        obtain ⟨a', b', rfl, h1, h2⟩ := mat_append.1 h
        exact ⟨a ++ a', b', by simp, mat_star.2 ⟨a, a', rfl, h1⟩, h2⟩
      · rintro ⟨a, b, rfl, h1, h2⟩
        obtain ⟨a', b', rfl, h3⟩ := mat_star.1 h1
        exact ⟨a', b' ++ b, by simp, mat_append.2 ⟨b', b, rfl, h3, h2⟩⟩
    · have hx' : x.isS = false := by simpa using hx
      rw [mat_one hx']
      constructor
      · rintro ⟨c, b, rfl, h1, h⟩
        obtain ⟨a', b', rfl, h2, h3⟩ := mat_append.1 h
        exact ⟨c :: a', b', rfl, (mat_one hx').2 ⟨c, a', rfl, h1, h2⟩, h3⟩
      · rintro ⟨a, b, rfl, h1, h2⟩
        obtain ⟨c, b', rfl, h3, h4⟩ := (mat_one hx').1 h1
        exact ⟨c, b' ++ b, rfl, h3, mat_append.2 ⟨b', b, rfl, h4, h2⟩⟩
theorem mat_single {x : El} {w : List UInt8} (hx : x.isS = false) : Mat [x] w ↔ ∃ c, w = [c] ∧ x.fits c = true := by
  rw [mat_one hx]
  constructor
  · rintro ⟨c, b, rfl, h1, h2⟩
    rw [mat_nil] at h2
    subst h2
    exact ⟨c, rfl, h1⟩
  · rintro ⟨c, rfl, h⟩
    exact ⟨c, [], rfl, h, .nil⟩
theorem mat_all (w : List UInt8) : Mat [.star] w := mat_star.2 ⟨w, [], by simp, .nil⟩
/-- the last element: a star -/
theorem mat_snoc_star {l : List El} {w : List UInt8} : Mat (l ++ [.star]) w ↔ ∃ a b, w = a ++ b ∧ Mat l a := by
  rw [mat_append]
  exact ⟨fun ⟨a, b, h1, h2, _⟩ => ⟨a, b, h1, h2⟩, fun ⟨a, b, h1, h2⟩ => ⟨a, b, h1, h2, mat_all b⟩⟩
/-- .. another one -/
theorem mat_snoc_one {x : El} {l : List El} {w : List UInt8} (hx : x.isS = false) : Mat (l ++ [x]) w ↔ ∃ a c, w = a ++ [c] ∧ Mat l a ∧ x.fits c = true := by
  rw [mat_append]
  constructor
  · rintro ⟨a, b, rfl, h1, h2⟩
    obtain ⟨c, rfl, h3⟩ := (mat_single hx).1 h2
    exact ⟨a, c, rfl, h1, h3⟩
  · rintro ⟨a, c, rfl, h1, h2⟩
    exact ⟨a, [c], rfl, h1, (mat_single hx).2 ⟨c, rfl, h2⟩⟩
/-- turned round -/
theorem mat_reverse : ∀ {l : List El} {w : List UInt8}, Mat l w → Mat l.reverse w.reverse
  | [], w, h => by rw [mat_nil] at h; subst h; exact .nil
  | x :: l, w, h => by
    rw [List.reverse_cons]
    by_cases hx : x.isS = true
    · obtain rfl := El.isS_iff.1 hx
      obtain ⟨a, b, rfl, h1⟩ := mat_star.1 h
      rw [List.reverse_append]
      exact mat_snoc_star.2 ⟨_, _, rfl, mat_reverse h1⟩
    · have hx' : x.isS = false := by simpa using hx
      obtain ⟨c, b, rfl, h1, h2⟩ := (mat_one hx').1 h
      rw [List.reverse_cons]
      exact (mat_snoc_one hx').2 ⟨_, c, rfl, mat_reverse h2, h1⟩
theorem mat_reverse_iff {l : List El} {w : List UInt8} : Mat l.reverse w.reverse ↔ Mat l w :=
  ⟨fun h => by simpa using mat_reverse h, mat_reverse⟩

/-- a test holds of some rest -/
def anyS (f : List UInt8 → Bool) : List UInt8 → Bool
  | [] => f []
  | c :: w => f (c :: w) || anyS f w
theorem anyS_iff {f : List UInt8 → Bool} : ∀ {w : List UInt8}, anyS f w = true ↔ ∃ a b, w = a ++ b ∧ f b = true
  | [] => by
    rw [anyS]
    constructor
    · exact fun h => ⟨[], [], rfl, h⟩
    · rintro ⟨a, b, h, h2⟩
      have := (List.append_eq_nil_iff.1 h.symm).2
      rw [this] at h2; exact h2
  | c :: w => by
    rw [anyS, Bool.or_eq_true, anyS_iff (w := w)]
    constructor
    · rintro (h | ⟨a, b, rfl, h⟩)
      · exact ⟨[], _, rfl, h⟩
      · exact ⟨c :: a, b, rfl, h⟩
    · rintro ⟨a, b, h, h2⟩
      cases a with
      | nil => left; rw [List.nil_append] at h; rw [h]; exact h2
      | cons d a =>
        rw [List.cons_append, List.cons.injEq] at h
        exact .inr ⟨a, b, h.2, h2⟩
/-- the same, as it can be reckoned -/
def matB : List El → List UInt8 → Bool
  | [], w => w.isEmpty
  | x :: l, w => if x.isS then anyS (matB l) w else match w with | [] => false | c :: b => x.fits c && matB l b
theorem matB_cons (x : El) (l : List El) (w : List UInt8) : matB (x :: l) w = if x.isS then anyS (matB l) w else match w with | [] => false | c :: b => x.fits c && matB l b := by cases w <;> rfl
theorem matB_iff : ∀ {l : List El} {w : List UInt8}, matB l w = true ↔ Mat l w
  | [], w => by rw [matB, mat_nil, List.isEmpty_iff]
  | x :: l, w => by
    rw [matB_cons]
    by_cases hx : x.isS = true
    · rw [if_pos hx, El.isS_iff.1 hx, mat_star, anyS_iff]
      exact ⟨fun ⟨a, b, h1, h2⟩ => ⟨a, b, h1, matB_iff.1 h2⟩, fun ⟨a, b, h1, h2⟩ => ⟨a, b, h1, matB_iff.2 h2⟩⟩
    · have hx' : x.isS = false := by simpa using hx
      rw [if_neg hx, mat_one hx']
      cases w with
      | nil => simp
      | cons c b =>
        simp only [Bool.and_eq_true]
        rw [matB_iff]
        constructor
        · exact fun h => ⟨c, b, rfl, h.1, h.2⟩
        · rintro ⟨c', b', h, h1, h2⟩
          cases h
          exact ⟨h1, h2⟩
theorem matB_ext {l m : List El} {w v : List UInt8} (h : Mat l w ↔ Mat m v) : matB l w = matB m v := by
  rw [Bool.eq_iff_iff, matB_iff, matB_iff, h]
theorem matB_none (w : List UInt8) : matB [] w = w.isEmpty := by
  rw [Bool.eq_iff_iff, matB_iff, mat_nil, List.isEmpty_iff]
theorem matB_star (l : List El) (w : List UInt8) (i : Nat) (hi : i ≤ w.length) : matB (l ++ [.star]) (w.take i) = (matB l (w.take i) || (decide (0 < i) && matB (l ++ [.star]) (w.take (i - 1)))) := by
  rw [Bool.eq_iff_iff, Bool.or_eq_true, Bool.and_eq_true, matB_iff, matB_iff, matB_iff, decide_eq_true_iff, mat_snoc_star, mat_snoc_star]
  constructor
  · rintro ⟨a, b, h1, h2⟩
    rcases List.eq_nil_or_concat b with rfl | ⟨b', c, rfl⟩
    · left; rw [h1, List.append_nil]; exact h2
    · right
      rw [List.concat_eq_append, ← List.append_assoc] at h1
      have hl := congrArg List.length h1
      rw [List.length_take, List.length_append, List.length_singleton] at hl
      refine ⟨by omega, a, b', ?_, h2⟩
      have := congrArg (List.take (i - 1)) h1
      rw [List.take_take, show min (i - 1) i = i - 1 by omega] at this
      rw [this]
      exact List.take_left' (by omega)
  · rintro (h | ⟨h0, a, b, h1, h2⟩)
    · exact ⟨_, [], by simp, h⟩
    · refine ⟨a, b ++ (w.take i).drop (i - 1), ?_, h2⟩
      rw [← List.append_assoc, ← h1]
      have : w.take (i - 1) = (w.take i).take (i - 1) := by rw [List.take_take, show min (i - 1) i = i - 1 by omega]
      rw [this, List.take_append_drop]
theorem matB_one {x : El} (hx : x.isS = false) (l : List El) (w : List UInt8) (i : Nat) (hi : i < w.length) : matB (l ++ [x]) (w.take (i + 1)) = (matB l (w.take i) && x.fits w[i]) := by
  rw [Bool.eq_iff_iff, Bool.and_eq_true, matB_iff, matB_iff, mat_snoc_one hx, List.take_succ_eq_append_getElem hi]
  constructor
  · rintro ⟨a, c, h1, h2, h3⟩
    obtain ⟨rfl, h4⟩ := List.append_inj' h1 rfl
    simp at h4
    subst h4
    exact ⟨h2, h3⟩
  · rintro ⟨h1, h2⟩
    exact ⟨_, _, rfl, h1, h2⟩
theorem matB_zero {x : El} (hx : x.isS = false) (l : List El) : matB (l ++ [x]) [] = false := by
  rw [Bool.eq_false_iff, ne_eq, matB_iff, mat_snoc_one hx]
  rintro ⟨a, c, h, _⟩
  have := congrArg List.length h
  simp at this
end Go.Proofs.Ytjjdihkjkmhjnaa
