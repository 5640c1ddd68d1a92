/- The closures that foldTo is called with; potentials. -/
import Derived.Test.YtipcelgoachjjaaDgFold
namespace Go.Proofs.Ytipcelgoachjjaa
set_option linter.unusedSimpArgs false
set_option linter.unusedVariables false
set_option maxRecDepth 100000
open Go.RowKit Go.Deep

/-! ### how many paths there are at most -/
def higher (ls : List LkV) (s : Int) : Nat := (selN ls.length fun j => decide (s ≤ (lk ls j).f)).length
theorem higher_le (ls : List LkV) (s : Int) : higher ls s ≤ ls.length := selN_len _ _
theorem filt_split {l : List Nat} {p q r : Nat → Bool} (h : ∀ i, p i = (q i || r i)) (hd : ∀ i, q i = true → r i = false) : (l.filter p).length = (l.filter q).length + (l.filter r).length := by
  induction l with
  | nil => rfl
  | cons a l ih =>
    have h1 := h a
    cases hq : q a
    · cases hr : r a
      · rw [hq, hr] at h1
        rw [List.filter_cons_of_neg (by rw [h1]; simp), List.filter_cons_of_neg (by rw [hq]; simp), List.filter_cons_of_neg (by rw [hr]; simp), ih]
      · rw [hq, hr] at h1
        rw [List.filter_cons_of_pos (by rw [h1]; rfl), List.filter_cons_of_neg (by rw [hq]; simp), List.filter_cons_of_pos hr, List.length_cons, List.length_cons, ih]; omega
    · have hr := hd a hq
      rw [hq, hr] at h1
      rw [List.filter_cons_of_pos (by rw [h1]; rfl), List.filter_cons_of_pos hq, List.filter_cons_of_neg (by rw [hr]; simp), List.length_cons, List.length_cons, ih]; omega
theorem higher_split (ls : List LkV) (s : Int) : higher ls s = (out ls s).length + higher ls (s + 1) := by
  unfold higher out selN
  refine filt_split (fun i => ?_) (fun i h => ?_)
  · rw [lv, Bool.eq_iff_iff]; simp; omega
  · rw [lv, decide_eq_true_eq] at h; simp; omega
theorem filt_mono {l : List Nat} {p q : Nat → Bool} (h : ∀ i, p i = true → q i = true) : (l.filter p).length ≤ (l.filter q).length := by
  induction l with
  | nil => exact Nat.le_refl _
  | cons a l ih =>
    by_cases hp : p a = true
    · rw [List.filter_cons_of_pos hp, List.filter_cons_of_pos (h a hp)]; simp; exact ih
    · rw [List.filter_cons_of_neg hp]
      by_cases hq : q a = true
      · rw [List.filter_cons_of_pos hq]; simp; omega
      · rw [List.filter_cons_of_neg hq]; exact ih
theorem higher_mono {ls : List LkV} {s s' : Int} (h : s ≤ s') : higher ls s' ≤ higher ls s := by
  unfold higher selN
  refine filt_mono fun i hi => ?_
  rw [decide_eq_true_eq] at *; omega
theorem nO_le {ls : List LkV} {t : Int} {B : Nat} : ∀ {l : List Nat}, (∀ i ∈ l, npaths ls t (lk ls i).t ≤ B) → nO ls t l ≤ l.length * B
  | [], _ => by simp [nO]
  | i :: l, h => by
    have h1 := h i (List.mem_cons_self ..)
    have h2 := nO_le (l := l) fun j hj => h j (List.mem_cons_of_mem _ hj)
    have h3 : nO ls t (i :: l) = npaths ls t (lk ls i).t + nO ls t l := by simp [nO, npaths]
    rw [h3, List.length_cons, Nat.succ_mul]; omega
theorem le_two_pow : ∀ k : Nat, k ≤ 2 ^ k
  | 0 => by decide
  | k + 1 => by have := le_two_pow k; have := Nat.one_le_two_pow (n := k); rw [Nat.pow_succ]; omega
theorem npaths_le {n : Int} {ls : List LkV} (hg : Gr n ls) (t : Int) : ∀ s, npaths ls t s ≤ 2 ^ higher ls s := by
  refine up_ind hg.up (n := n) (fun j hj => (hg.lk hj).t1) fun s ih => ?_
  by_cases e : s = t
  · subst e; rw [npaths_end]; exact Nat.one_le_two_pow
  · rw [npaths_rec hg.up e, higher_split, Nat.pow_add]
    refine Nat.le_trans (nO_le (B := 2 ^ higher ls (s + 1)) fun i hi => ?_) (Nat.mul_le_mul_right _ (le_two_pow _))
    refine Nat.le_trans (ih i hi) (Nat.pow_le_pow_right (by decide) (higher_mono ?_))
    obtain ⟨h1, h2⟩ := mem_out.1 hi
    have := hg.up i h1; omega
theorem npaths_small {n : Int} {ls : List LkV} (hg : Gr n ls) (h14 : ls.length ≤ 14) (t s : Int) : npaths ls t s ≤ 16384 := by
  refine Nat.le_trans (npaths_le hg t s) (Nat.le_trans (Nat.pow_le_pow_right (by decide) (Nat.le_trans (higher_le ls s) h14)) (by decide))
theorem nO_small {n : Int} {ls : List LkV} (hg : Gr n ls) (h14 : ls.length ≤ 14) (t : Int) (l : List Nat) (hl : l.length ≤ 14) : nO ls t l ≤ 14 * 16384 :=
  Nat.le_trans (nO_le fun i _ => npaths_small hg h14 t _) (Nat.mul_le_mul_right _ hl)

/-! ### the three folds -/
theorem fold_least {n : Int} {ls : List LkV} (hg : Gr n ls) (t : Int) : Fold ls t (-1) 0 (least ls t) (leastO ls t) :=
  ⟨least_end ls t, fun s h => least_none hg.up h, fun s h => least_rec hg.up (by omega), rfl, fun l i hi h => by rw [leastO_snoc hg t l hi, if_pos h]⟩
theorem fold_most {n : Int} {ls : List LkV} (hg : Gr n ls) (t : Int) : Fold ls t (-1) 0 (most ls t) (mostO ls t) :=
  ⟨most_end ls t, fun s h => most_none hg.up h, fun s h => most_rec hg.up (by omega), rfl, fun l i hi h => by rw [mostO_snoc hg t l hi, if_pos h]⟩
theorem fold_n {n : Int} {ls : List LkV} (hg : Gr n ls) (t : Int) : Fold ls t 0 1 (fun s => (npaths ls t s : Int)) (fun l => (nO ls t l : Int)) :=
  ⟨by show (npaths ls t t : Int) = 1; rw [npaths_end]; rfl, fun s h => by show (npaths ls t s : Int) = 0; rw [npaths_none hg.up h]; rfl, fun s h => by show (npaths ls t s : Int) = nO ls t (out ls s); rw [npaths_rec hg.up (by omega)], by simp [nO],
    fun l i hi h => by show (nO ls t (l ++ [i]) : Int) = nO ls t l; rw [nO_snoc]; have h : (npaths ls t (lk ls i).t : Int) = 0 := h; omega⟩
/-! ### the closures -/
set_option maxHeartbeats 400000 in
theorem clLeast_any (a c x r : Int) (hc : 0 ≤ c ∧ c ≤ 1073741824) (hx : 0 ≤ x ∧ x ≤ 8796093022208) (hr : mn a (c + x) = r) (w : World) :
    Calls Try.prog 56 #[intV a, intV c, intV x] w fun e w' => e = .returned (intV r) ∧ w = w' := by
  have HR := Lib.hid hr
  clear hr
  by_cases h : a = -1
  · subst h
    go_enter Try.func56, Try.ntmps56
    go_wp2
    go_ret
    exact ⟨ret_int (by rw [← HR.out, mn, if_pos rfl]), rfl⟩
  · have hb : (a == -1) = false := by simpa using h
    go_enter Try.func56, Try.ntmps56
    have HNE := Lib.hid h
    clear h
    go_wp2
    all_goals
      go_ret
      exact ⟨ret_int (by rw [← HR.out, mn, if_neg HNE.out, if_neg (by omega)]; omega), rfl⟩
set_option maxHeartbeats 400000 in
theorem clMost_any (a c x r : Int) (hc : 0 ≤ c ∧ c ≤ 1073741824) (hx : 0 ≤ x ∧ x ≤ 8796093022208) (hr : max a (c + x) = r) (w : World) :
    Calls Try.prog 50 #[intV a, intV c, intV x] w fun e w' => e = .returned (intV r) ∧ w = w' := by
  have HR := Lib.hid hr
  clear hr
  go_enter Try.func50, Try.ntmps50
  go_wp2
  all_goals
    go_ret
    exact ⟨ret_int (by have := HR.out; omega), rfl⟩
set_option maxHeartbeats 400000 in
theorem clCount_any (a c x r : Int) (ha : 0 ≤ a ∧ a ≤ 229376) (hx : 0 ≤ x ∧ x ≤ 16384) (hr : a + x = r) (w : World) :
    Calls Try.prog 49 #[intV a, intV c, intV x] w fun e w' => e = .returned (intV r) ∧ w = w' := by
  have HR := Lib.hid hr
  clear hr
  go_enter Try.func49, Try.ntmps49
  go_wp2
  all_goals
    go_ret
    exact ⟨ret_int (by have := HR.out; omega), rfl⟩

/-- small enough -/
structure Sm (n : Nat) (ls : List LkV) : Prop where
  g : Gr n ls
  n8 : n ≤ 8
  l14 : ls.length ≤ 14
theorem Sm.low {n : Nat} {ls : List LkV} (h : Sm n ls) {t s : Int} (hs : 0 ≤ s) (ht : t < n) (hl : least ls t s ≠ -1) : 0 ≤ least ls t s ∧ least ls t s ≤ 8796093022208 := by
  have := h.n8
  rcases low_high h.g (t := t) (s := s) with h1 | ⟨h1, h2, h3, h4, _⟩
  · exact absurd h1.1 hl
  · exact ⟨h1, by omega⟩
theorem Sm.high {n : Nat} {ls : List LkV} (h : Sm n ls) {t s : Int} (hs : 0 ≤ s) (ht : t < n) (hl : most ls t s ≠ -1) : 0 ≤ most ls t s ∧ most ls t s ≤ 8796093022208 := by
  have := h.n8
  rcases low_high h.g (t := t) (s := s) with h1 | ⟨h1, h2, h3, h4, _⟩
  · exact absurd h1.2.1 hl
  · exact ⟨by omega, by omega⟩
theorem foldLeast_any (n : Nat) (ls : List LkV) (hs : Sm n ls) (t : Nat) (ht : t < n) (v u : Value) (w : World) (hv : LinksAt w v ls) (hu : ListsAt w u (outs n ls)) :
    Calls Try.prog 48 #[.agg #[v, u], intV t, intV (-1), intV 0, .func (.func 56) #[] #[]] w fun e w' => ∃ r, e = .returned r ∧ IntsAt w' r (tab n (least ls t)) ∧ Below w.heap.size w w' :=
  foldTo_any n ls hs.g hs.n8 t ht (-1) 0 _ _ (fold_least hs.g t) _ Try.call56 (fun W s l i hst hl hi _ hT => by
    obtain ⟨hil, hif⟩ := mem_out.1 hi
    have hk := hs.g.lk hil
    exact clLeast_any _ _ _ _ ⟨hk.c0, hk.c1⟩ (hs.low hk.t0 (by omega) hT) (by rw [leastO_snoc hs.g t l hil, if_neg hT]) W) v u w hv hu
theorem foldMost_any (n : Nat) (ls : List LkV) (hs : Sm n ls) (t : Nat) (ht : t < n) (v u : Value) (w : World) (hv : LinksAt w v ls) (hu : ListsAt w u (outs n ls)) :
    Calls Try.prog 48 #[.agg #[v, u], intV t, intV (-1), intV 0, .func (.func 50) #[] #[]] w fun e w' => ∃ r, e = .returned r ∧ IntsAt w' r (tab n (most ls t)) ∧ Below w.heap.size w w' :=
  foldTo_any n ls hs.g hs.n8 t ht (-1) 0 _ _ (fold_most hs.g t) _ Try.call50 (fun W s l i hst hl hi _ hT => by
    obtain ⟨hil, hif⟩ := mem_out.1 hi
    have hk := hs.g.lk hil
    exact clMost_any _ _ _ _ ⟨hk.c0, hk.c1⟩ (hs.high hk.t0 (by omega) hT) (by rw [mostO_snoc hs.g t l hil, if_neg hT]) W) v u w hv hu
theorem foldCount_any (n : Nat) (ls : List LkV) (hs : Sm n ls) (t : Nat) (ht : t < n) (v u : Value) (w : World) (hv : LinksAt w v ls) (hu : ListsAt w u (outs n ls)) :
    Calls Try.prog 48 #[.agg #[v, u], intV t, intV 0, intV 1, .func (.func 49) #[] #[]] w fun e w' => ∃ r, e = .returned r ∧ IntsAt w' r (tab n fun s => (npaths ls t s : Int)) ∧ Below w.heap.size w w' :=
  foldTo_any n ls hs.g hs.n8 t ht 0 1 _ _ (fold_n hs.g t) _ Try.call49 (fun W s l i hst hl hi hlen hT => by
    have h1 := nO_small hs.g hs.l14 t l (by have := out_len (ls := ls) (s := s); have := hs.l14; omega)
    have h2 := npaths_small hs.g hs.l14 t (lk ls i).t
    exact clCount_any _ _ _ _ ⟨by omega, by omega⟩ ⟨by omega, by omega⟩ (by rw [nO_snoc]; omega) W) v u w hv hu
set_option maxHeartbeats 400000 in
theorem potentials_any (n : Nat) (ls : List LkV) (hs : Sm n ls) (t : Nat) (ht : t < n) (v u : Value) (w : World) (hv : LinksAt w v ls) (hu : ListsAt w u (outs n ls)) :
    Calls Try.prog 41 #[.agg #[v, u], intV t] w fun e w' => ∃ r, e = .returned r ∧ IntsAt w' r (tab n (least ls t)) ∧ Below w.heap.size w w' := by
  have HV := Lib.hid hv
  have HU := Lib.hid hu
  obtain ⟨av, cv, rfl⟩ := hv.slice
  obtain ⟨au, cu, rfl, _⟩ := id hu
  clear hv hu
  go_enter Try.func41, Try.ntmps41
  go_wp2_with fail
  have hB : Below w.heap.size w (w.alloc (.cells #[.slice av ls.length cv, .slice au (outs n ls).length cu] 57)) := (Below.refl _ _).alloc (Nat.le_refl _) _
  refine (foldLeast_any n ls hs t ht _ _ _ (HV.out.below hB) (HU.out.below hB)).mono ?_
  rintro e w1 ⟨r, rfl, h1, h2⟩
  have H1 := Lib.hid h1
  have HB := Lib.hid (below_then hB h2)
  obtain ⟨a, cap, rfl, _⟩ := id h1
  clear h1 h2 hB
  go_wp2
  go_ret
  exact ⟨_, rfl, H1.out, HB.out⟩
end Go.Proofs.Ytipcelgoachjjaa
