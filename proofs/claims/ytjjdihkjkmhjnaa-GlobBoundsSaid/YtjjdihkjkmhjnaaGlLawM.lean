/- The mathematics of the laws of layer 7. -/
import Derived.Test.YtjjdihkjkmhjnaaGlDefs
namespace Go.Proofs.Ytjjdihkjkmhjnaa
set_option linter.unusedSimpArgs false
set_option linter.unusedVariables false

/-! ### P7.2 -/
theorem matB_parts (l m : List El) (w : List UInt8) : matB (l ++ m) w = (List.range (w.length + 1)).any fun i => matB l (w.take i) && matB m (w.drop i) := by
  rw [Bool.eq_iff_iff, matB_iff, mat_append, List.any_eq_true]
  constructor
  · rintro ⟨a, b, rfl, h1, h2⟩
    refine ⟨a.length, List.mem_range.2 (by rw [List.length_append]; omega), ?_⟩
    rw [List.take_left, List.drop_left, Bool.and_eq_true, matB_iff, matB_iff]
    exact ⟨h1, h2⟩
  · rintro ⟨i, _, h⟩
    rw [Bool.and_eq_true, matB_iff, matB_iff] at h
    exact ⟨_, _, (List.take_append_drop i w).symm, h.1, h.2⟩
/-! ### P7.3 -/
theorem lit_fits {x : El} {c : UInt8} (h : x.lit = some c) : x.isS = false ∧ ∀ d, x.fits d = true ↔ d = c := by
  cases x with
  | one a => cases h; exact ⟨rfl, fun d => by show (c == d) = true ↔ _; rw [beq_iff_eq]; exact eq_comm⟩
  | any => cases h
  | star => cases h
  | cls cs =>
    cases cs with
    | nil => cases h
    | cons a r =>
      refine ⟨rfl, fun d => ?_⟩
      change (if r.all (· == a) then some a else none) = some c at h
      by_cases ha : r.all (· == a) = true
      · rw [if_pos ha] at h
        cases h
        show ((c :: r).any (· == d)) = true ↔ _
        rw [List.any_eq_true]
        constructor
        · rintro ⟨y, hy, e⟩
          have e := eq_of_beq e
          subst e
          rcases List.mem_cons.1 hy with h | h
          · exact h
          · simpa using List.all_eq_true.1 ha _ h
        · rintro rfl
          exact ⟨d, by simp, beq_self_eq_true _⟩
      · rw [if_neg ha] at h; cases h
theorem lits_mat : ∀ {l : List El} {v : List UInt8}, lits l = some v → ∀ w, Mat l w ↔ w = v
  | [], v, h, w => by rw [lits] at h; cases h; exact mat_nil
  | x :: l, v, h, w => by
    rw [lits] at h
    cases hx : x.lit with
    | none => rw [hx] at h; cases h
    | some c =>
      rw [hx] at h
      cases hl : lits l with
      | none => rw [hl] at h; cases h
      | some u =>
        rw [hl] at h
        cases h
        obtain ⟨h1, h2⟩ := lit_fits hx
        rw [mat_one h1]
        constructor
        · rintro ⟨d, b, rfl, h3, h4⟩
          rw [(h2 d).1 h3, (lits_mat hl b).1 h4]
        · rintro rfl
          exact ⟨c, u, rfl, (h2 c).2 rfl, (lits_mat hl u).2 rfl⟩
theorem lits_some_of : ∀ {l : List El}, lits l = none → ∃ x ∈ l, x.lit = none
  | [], h => by cases h
  | x :: l, h => by
    rw [lits] at h
    cases hx : x.lit with
    | none => exact ⟨x, by simp, hx⟩
    | some c =>
      rw [hx] at h
      cases hl : lits l with
      | none =>
        obtain ⟨y, hy, h2⟩ := lits_some_of hl
        exact ⟨y, by simp [hy], h2⟩
      | some u => rw [hl] at h; cases h
theorem mem_txts {x : El} {c : UInt8} : ∀ {l : List El}, x ∈ l → c ∈ x.txt → c ∈ txts l
  | y :: l, hx, h => by
    rw [txts_cons, List.mem_append]
    rcases List.mem_cons.1 hx with rfl | hx
    · exact .inl h
    · exact .inr (mem_txts hx h)
/-- a pattern without a literal has one of the characters that make it so -/
theorem no_lit {l : List El} (h : lits l = none) : ∃ c ∈ txts l, c = 63 ∨ c = 42 ∨ c = 91 := by
  obtain ⟨x, hx, hl⟩ := lits_some_of h
  cases x with
  | one a => cases hl
  | any => exact ⟨63, mem_txts hx (by simp [El.txt]), .inl rfl⟩
  | star => exact ⟨42, mem_txts hx (by simp [El.txt]), .inr (.inl rfl)⟩
  | cls cs => exact ⟨91, mem_txts hx (by simp [El.txt]), .inr (.inr rfl)⟩
/-! ### P7.4 -/
theorem mat_len : ∀ {l : List El} {w : List UInt8}, Mat l w → leastN l ≤ w.length ∧ (starsB l = false → w.length = leastN l)
  | [], w, h => by rw [mat_nil] at h; subst h; exact ⟨Nat.le_refl _, fun _ => rfl⟩
  | x :: l, w, h => by
    by_cases hx : x.isS = true
    · obtain rfl := El.isS_iff.1 hx
      obtain ⟨a, b, rfl, h2⟩ := mat_star.1 h
      have := mat_len h2
      refine ⟨?_, fun hs => ?_⟩
      · show leastN l ≤ _
        rw [List.length_append]; omega
      · have : starsB (El.star :: l) = true := rfl
        rw [this] at hs; cases hs
    · have hx' : x.isS = false := by simpa using hx
      obtain ⟨c, b, rfl, _, h2⟩ := (mat_one hx').1 h
      obtain ⟨k1, k2⟩ := mat_len h2
      have e : leastN (x :: l) = leastN l + 1 := by simp [leastN, List.filter_cons, hx']
      rw [e, List.length_cons]
      refine ⟨by omega, fun hs => ?_⟩
      have hs2 : starsB l = false := by
        have : starsB (x :: l) = (x.isS || starsB l) := rfl
        rw [this, hx', Bool.false_or] at hs
        exact hs
      rw [k2 hs2]
theorem stars_mem {l : List El} (h : starsB l = true) : (42 : UInt8) ∈ txts l := by
  obtain ⟨x, hx, hs⟩ := List.any_eq_true.1 h
  obtain rfl := El.isS_iff.1 hs
  exact mem_txts hx (by simp [El.txt])
/-! ### P7.6 -/
theorem firstE_filter {f : ByteArray → Bool} : ∀ {l : List ByteArray}, firstE l = 0 → firstE (l.filter f) = 0
  | [], _ => rfl
  | x :: l, h => by
    rw [firstE] at h
    by_cases hx : chkW x.data.toList ≠ 0
    · rw [if_pos hx] at h; exact absurd h hx
    · rw [if_neg hx] at h
      have := firstE_filter (f := f) h
      rw [List.filter_cons]
      split
      · rw [firstE, if_neg hx]; exact this
      · exact this
/-! ### P7.7 -/
theorem oks_reverse {l : List El} (h : oks l) : oks l.reverse := fun x hx => h x (List.mem_reverse.1 hx)
theorem txts_reverse_len (l : List El) : (txts l.reverse).length = (txts l).length := by
  induction l with
  | nil => rfl
  | cons y l ih => rw [List.reverse_cons, txts_append, List.length_append, ih, txts_cons, List.length_append, txts_cons, txts_nil, List.length_append, List.length_nil]; omega
theorem matB_reverse (l : List El) (w : List UInt8) : matB l.reverse w.reverse = matB l w := matB_ext mat_reverse_iff
/-- a pattern turned round -/
theorem chk_reverse {p : List UInt8} {l : List El} (hl : par p = (0, l)) (hp : p.length ≤ 64) : chk (txts l.reverse) = 0 ∧ par (txts l.reverse) = (0, l.reverse) ∧ (txts l.reverse).length = p.length := by
  obtain ⟨h1, h2⟩ := par_ok _ (Nat.le_refl _) hl
  have h3 := par_txts (oks_reverse h1)
  have h4 : (txts l.reverse).length = p.length := by rw [txts_reverse_len, h2]
  refine ⟨?_, h3, h4⟩
  unfold chk
  rw [if_neg (by omega), h3]
/-! ### P7.8 -/
theorem mat_mid {l m k k' : List El} (h : ∀ w, Mat k w ↔ Mat k' w) (w : List UInt8) : Mat (l ++ k ++ m) w ↔ Mat (l ++ k' ++ m) w := by
  rw [mat_append, mat_append]
  constructor
  · rintro ⟨a, b, e, h1, h2⟩
    obtain ⟨c, d, e2, h3, h4⟩ := mat_append.1 h1
    exact ⟨a, b, e, mat_append.2 ⟨c, d, e2, h3, (h d).1 h4⟩, h2⟩
  · rintro ⟨a, b, e, h1, h2⟩
    obtain ⟨c, d, e2, h3, h4⟩ := mat_append.1 h1
    exact ⟨a, b, e, mat_append.2 ⟨c, d, e2, h3, (h d).2 h4⟩, h2⟩
theorem mat_mid_of {l m k k' : List El} (h : ∀ w, Mat k w → Mat k' w) {w : List UInt8} (hm : Mat (l ++ k ++ m) w) : Mat (l ++ k' ++ m) w := by
  obtain ⟨a, b, e, h1, h2⟩ := mat_append.1 hm
  obtain ⟨c, d, e2, h3, h4⟩ := mat_append.1 h1
  exact mat_append.2 ⟨a, b, e, mat_append.2 ⟨c, d, e2, h3, h d h4⟩, h2⟩
theorem mat_two_stars (w : List UInt8) : Mat [.star] w ↔ Mat [.star, .star] w := ⟨fun _ => mat_star.2 ⟨[], w, rfl, mat_all w⟩, fun _ => mat_all w⟩
theorem mat_any_star (w : List UInt8) : Mat [.any, .star] w ↔ w ≠ [] := by
  rw [mat_one (by rfl)]
  constructor
  · rintro ⟨c, b, rfl, _, _⟩; simp
  · intro h
    cases w with
    | nil => exact absurd rfl h
    | cons c b => exact ⟨c, b, rfl, rfl, mat_all b⟩
theorem mat_star_any (w : List UInt8) : Mat [.star, .any] w ↔ w ≠ [] := by
  rw [mat_star]
  constructor
  · rintro ⟨a, b, rfl, h⟩
    obtain ⟨c, rfl, _⟩ := (mat_single (by rfl)).1 h
    simp
  · intro h
    rcases List.eq_nil_or_concat w with rfl | ⟨a, c, rfl⟩
    · exact absurd rfl h
    · rw [List.concat_eq_append]
      exact ⟨a, [c], rfl, (mat_single (by rfl)).2 ⟨c, rfl, rfl⟩⟩
theorem mat_swap (w : List UInt8) : Mat [.any, .star] w ↔ Mat [.star, .any] w := by rw [mat_any_star, mat_star_any]
/-! ### patterns one behind the other -/
theorem chk_of_par {p : List UInt8} {l : List El} (h : par p = (0, l)) (hp : p.length ≤ 64) : chk p = 0 := by
  unfold chk
  rw [if_neg (by omega), h]
theorem par_app2 {p q : List UInt8} {l m : List El} (h : par p = (0, l)) (h' : par q = (0, m)) : par (p ++ q) = (0, l ++ m) := by
  rw [par_two h, h']
theorem chkW_small {w : List UInt8} (h : w.length ≤ 64) (h2 : w.any (· == 32) = false) : chkW w = 0 := by
  unfold chkW
  rw [if_neg (by omega), h2]
  rfl
theorem matchR_of {p w : List UInt8} {l : List El} (h : par p = (0, l)) (hp : p.length ≤ 64) (hw : chkW w = 0) : matchR p w = (matB l w, 0) := by
  unfold matchR
  rw [chk_of_par h hp, hw, h]
  rfl
end Go.Proofs.Ytjjdihkjkmhjnaa
