/- Graphs as lists of links: their paths, and what they cost. -/
import Derived.Test.YtipcelgoachjjaaProg
namespace Go.Proofs.Ytipcelgoachjjaa
set_option linter.unusedSimpArgs false
set_option linter.unusedVariables false

structure LkV where
  f : Int
  t : Int
  c : Int
deriving DecidableEq
instance : Inhabited LkV := ⟨⟨0, 0, 0⟩⟩
def lk (ls : List LkV) (j : Nat) : LkV := ls.getD j ⟨0, 0, 0⟩
theorem lk_get {ls : List LkV} {j : Nat} (h : j < ls.length) : lk ls j = ls[j] := by rw [lk, List.getD_eq_getElem?_getD, List.getElem?_eq_getElem h]; rfl

/-! ### why there is no graph -/
def errLk (n : Int) (x : LkV) : Int := if x.f < 0 ∨ n ≤ x.f ∨ x.t < 0 ∨ n ≤ x.t ∨ x.c < 0 ∨ 1073741824 < x.c then 2 else if x.t ≤ x.f then 10 else 0
def errLs (n : Int) : List LkV → Int
  | [] => 0
  | x :: r => if errLk n x ≠ 0 then errLk n x else errLs n r
def checkR (n : Int) (ls : List LkV) : Int := if n < 1 ∨ 4096 < n then 2 else if 65536 < ls.length then 4 else errLs n ls
def inN (n i : Int) : Prop := 0 ≤ i ∧ i < n
instance (n i : Int) : Decidable (inN n i) := inferInstanceAs (Decidable (_ ∧ _))
def nodesR (n : Int) (ls : List LkV) (ns : List Int) : Int := if checkR n ls ≠ 0 then 1 else if ∀ i ∈ ns, inN n i then 0 else 2
/-- a link of a graph of n nodes -/
structure OkLk (n : Int) (x : LkV) : Prop where
  f0 : 0 ≤ x.f
  t0 : 0 ≤ x.t
  t1 : x.t < n
  c0 : 0 ≤ x.c
  c1 : x.c ≤ 1073741824
  lt : x.f < x.t
theorem okLk_of {n : Int} {x : LkV} (h : errLk n x = 0) : OkLk n x := by
  unfold errLk at h
  split at h
  · cases h
  · split at h
    · cases h
    · constructor <;> omega
/-- a graph -/
structure Gr (n : Int) (ls : List LkV) : Prop where
  n1 : 1 ≤ n
  n2 : n ≤ 4096
  len : ls.length ≤ 65536
  ok : ∀ x ∈ ls, OkLk n x
theorem errLs_zero {n : Int} : ∀ {ls : List LkV}, errLs n ls = 0 → ∀ x ∈ ls, OkLk n x
  | [], _, x, h => by simp at h
  | y :: r, h, x, hx => by
    unfold errLs at h
    split at h
    · contradiction
    · rename_i h0
      rcases List.mem_cons.1 hx with rfl | hx
      · exact okLk_of (by simpa using h0)
      · exact errLs_zero h x hx
theorem gr_of {n : Int} {ls : List LkV} (h : checkR n ls = 0) : Gr n ls := by
  unfold checkR at h
  split at h
  · cases h
  · split at h
    · cases h
    · exact ⟨by omega, by omega, by omega, errLs_zero h⟩
theorem errLk_ok {n : Int} {x : LkV} (h : OkLk n x) : errLk n x = 0 := by
  have := h.f0; have := h.t0; have := h.t1; have := h.c0; have := h.c1; have := h.lt
  unfold errLk
  rw [if_neg (by omega), if_neg (by omega)]
theorem errLs_ok {n : Int} : ∀ {ls : List LkV}, (∀ x ∈ ls, OkLk n x) → errLs n ls = 0
  | [], _ => rfl
  | x :: r, h => by
    unfold errLs
    rw [if_neg (by simpa using errLk_ok (h x (List.mem_cons_self ..)))]
    exact errLs_ok fun y hy => h y (List.mem_cons_of_mem _ hy)
theorem check_gr {n : Int} {ls : List LkV} (h : Gr n ls) : checkR n ls = 0 := by
  have := h.n1; have := h.n2; have := h.len
  unfold checkR
  rw [if_neg (by omega), if_neg (by omega)]
  exact errLs_ok h.ok
theorem Gr.lk {n : Int} {ls : List LkV} (h : Gr n ls) {j : Nat} (hj : j < ls.length) : OkLk n (lk ls j) := by
  rw [lk_get hj]; exact h.ok _ (List.getElem_mem hj)

/-! ### the links that leave a node -/
def selN (n : Nat) (p : Nat → Bool) : List Nat := (List.range n).filter p
theorem selN_succ (n : Nat) (p : Nat → Bool) : selN (n + 1) p = if p n = true then selN n p ++ [n] else selN n p := by
  rw [selN, List.range_succ, List.filter_append]
  by_cases h : p n = true
  · rw [if_pos h, List.filter_cons_of_pos h]; rfl
  · rw [if_neg h, List.filter_cons_of_neg h]; simp [selN]
theorem selN_len (n : Nat) (p : Nat → Bool) : (selN n p).length ≤ n := Nat.le_trans (List.length_filter_le _ _) (by simp)
theorem mem_selN {n : Nat} {p : Nat → Bool} {i : Nat} : i ∈ selN n p ↔ i < n ∧ p i = true := by simp [selN]
def lv (ls : List LkV) (s : Int) : Nat → Bool := fun j => decide ((lk ls j).f = s)
/-- the indices of the links that leave s -/
def out (ls : List LkV) (s : Int) : List Nat := selN ls.length (lv ls s)
theorem mem_out {ls : List LkV} {s : Int} {i : Nat} : i ∈ out ls s ↔ i < ls.length ∧ (lk ls i).f = s := by rw [out, mem_selN, lv, decide_eq_true_eq]

/-! ### paths -/
def pathsF (ls : List LkV) (t : Int) : Nat → Int → List (List Nat)
  | 0, s => if s = t then [[]] else []
  | k + 1, s => if s = t then [[]] else (out ls s).flatMap fun i => (pathsF ls t k (lk ls i).t).map (i :: ·)
def P (ls : List LkV) (t s : Int) : List (List Nat) := pathsF ls t (t - s).toNat s
/-- all links lead upwards -/
def Up (ls : List LkV) : Prop := ∀ j, j < ls.length → (lk ls j).f < (lk ls j).t
theorem Gr.up {n : Int} {ls : List LkV} (h : Gr n ls) : Up ls := fun j hj => (h.lk hj).lt
theorem flatMap_nil' {α β : Type} {l : List α} {f : α → List β} (h : ∀ x ∈ l, f x = []) : l.flatMap f = [] := by
  induction l with
  | nil => rfl
  | cons a r ih => rw [List.flatMap_cons, h a (List.mem_cons_self ..), ih fun x hx => h x (List.mem_cons_of_mem _ hx)]; rfl
theorem flatMap_congr' {α β : Type} {l : List α} {f g : α → List β} (h : ∀ x ∈ l, f x = g x) : l.flatMap f = l.flatMap g := by
  induction l with
  | nil => rfl
  | cons a r ih => rw [List.flatMap_cons, List.flatMap_cons, h a (List.mem_cons_self ..), ih fun x hx => h x (List.mem_cons_of_mem _ hx)]
theorem pathsF_none {ls : List LkV} (hu : Up ls) (t : Int) : ∀ k s, t < s → pathsF ls t k s = []
  | 0, s, h => by rw [pathsF, if_neg (by omega)]
  | k + 1, s, h => by
    rw [pathsF, if_neg (by omega)]
    refine flatMap_nil' fun i hi => ?_
    obtain ⟨h1, h2⟩ := mem_out.1 hi
    have := hu i h1
    rw [pathsF_none hu t k _ (by omega)]; rfl
theorem pathsF_more {ls : List LkV} (hu : Up ls) (t : Int) : ∀ k m s, (t - s).toNat ≤ k → k ≤ m → pathsF ls t m s = pathsF ls t k s
  | 0, 0, s, _, _ => rfl
  | 0, m + 1, s, h, _ => by
    rcases (show s = t ∨ t < s by omega) with rfl | h
    · rw [pathsF, pathsF, if_pos rfl, if_pos rfl]
    · rw [pathsF_none hu t _ s h, pathsF_none hu t _ s h]
  | k + 1, 0, s, _, h => by omega
  | k + 1, m + 1, s, h, hm => by
    rw [pathsF, pathsF]
    split
    · rfl
    · refine flatMap_congr' fun i hi => ?_
      obtain ⟨h1, h2⟩ := mem_out.1 hi
      have := hu i h1
      rw [pathsF_more hu t k m _ (by omega) (by omega)]
theorem P_end (ls : List LkV) (t : Int) : P ls t t = [[]] := by
  rw [P, show (t - t).toNat = 0 by omega, pathsF, if_pos rfl]
theorem P_none {ls : List LkV} (hu : Up ls) {t s : Int} (h : t < s) : P ls t s = [] := pathsF_none hu t _ s h
theorem P_rec {ls : List LkV} (hu : Up ls) {t s : Int} (h : s ≠ t) : P ls t s = (out ls s).flatMap fun i => (P ls t (lk ls i).t).map (i :: ·) := by
  rcases (show t < s ∨ s < t by omega) with h | h
  · rw [P_none hu h]
    refine (flatMap_nil' fun i hi => ?_).symm
    obtain ⟨h1, h2⟩ := mem_out.1 hi
    have := hu i h1
    rw [P_none hu (by omega)]; rfl
  · rw [P, show (t - s).toNat = ((t - s).toNat - 1) + 1 by omega, pathsF, if_neg (by omega)]
    refine flatMap_congr' fun i hi => ?_
    obtain ⟨h1, h2⟩ := mem_out.1 hi
    have := hu i h1
    rw [pathsF_more hu t (t - (lk ls i).t).toNat _ _ (Nat.le_refl _) (by omega)]; rfl
/-- from higher nodes to lower ones -/
theorem up_ind {ls : List LkV} (hu : Up ls) {n : Int} {Q : Int → Prop} (hn : ∀ j, j < ls.length → (lk ls j).t < n) (h : ∀ s, (∀ i ∈ out ls s, Q (lk ls i).t) → Q s) (s : Int) : Q s := by
  have key : ∀ k : Nat, ∀ s : Int, (n - s).toNat ≤ k → Q s := by
    intro k
    induction k with
    | zero =>
      intro s hs
      refine h s fun i hi => ?_
      obtain ⟨h1, h2⟩ := mem_out.1 hi
      have := hu i h1
      have := hn i h1
      omega
    | succ k ih =>
      intro s hs
      refine h s fun i hi => ?_
      obtain ⟨h1, h2⟩ := mem_out.1 hi
      have := hu i h1
      have := hn i h1
      exact ih _ (by omega)
  exact key _ s (Nat.le_refl _)

/-! ### costs -/
def cst (ls : List LkV) : List Nat → Int
  | [] => 0
  | i :: r => (lk ls i).c + cst ls r
def C (ls : List LkV) (t s : Int) : List Int := (P ls t s).map (cst ls)
theorem map_flatMap' {α β γ : Type} (l : List α) (f : α → List β) (g : β → γ) : (l.flatMap f).map g = l.flatMap fun x => (f x).map g := by
  induction l with
  | nil => rfl
  | cons a r ih => rw [List.flatMap_cons, List.map_append, ih, List.flatMap_cons]
theorem C_end (ls : List LkV) (t : Int) : C ls t t = [0] := by rw [C, P_end]; rfl
theorem C_none {ls : List LkV} (hu : Up ls) {t s : Int} (h : t < s) : C ls t s = [] := by rw [C, P_none hu h]; rfl
/-- the costs over some of the links that leave a node -/
def CO (ls : List LkV) (t : Int) (l : List Nat) : List Int := l.flatMap fun i => (C ls t (lk ls i).t).map ((lk ls i).c + ·)
theorem C_rec {ls : List LkV} (hu : Up ls) {t s : Int} (h : s ≠ t) : C ls t s = CO ls t (out ls s) := by
  rw [C, P_rec hu h, map_flatMap', CO]
  refine flatMap_congr' fun i _ => ?_
  rw [C, List.map_map, List.map_map]; rfl
theorem CO_nil (ls : List LkV) (t : Int) : CO ls t [] = [] := rfl
theorem CO_snoc (ls : List LkV) (t : Int) (l : List Nat) (i : Nat) : CO ls t (l ++ [i]) = CO ls t l ++ (C ls t (lk ls i).t).map ((lk ls i).c + ·) := by
  rw [CO, List.flatMap_append]; simp [CO]
theorem cst_nonneg {n : Int} {ls : List LkV} (hg : Gr n ls) : ∀ p : List Nat, 0 ≤ cst ls p
  | [] => Int.le_refl _
  | i :: r => by
    have := cst_nonneg hg r
    rw [cst]
    by_cases h : i < ls.length
    · have := (hg.lk h).c0; omega
    · rw [lk, List.getD_eq_getElem?_getD, List.getElem?_eq_none (by omega)]; simpa using this
theorem C_nonneg {n : Int} {ls : List LkV} (hg : Gr n ls) {t s : Int} : ∀ x ∈ C ls t s, 0 ≤ x := fun x hx => by
  obtain ⟨p, _, rfl⟩ := List.mem_map.1 hx
  exact cst_nonneg hg p
theorem C_le {n : Int} {ls : List LkV} (hg : Gr n ls) {t : Int} : ∀ s, ∀ x ∈ C ls t s, s ≤ t ∧ x ≤ (t - s) * 1073741824 := by
  refine up_ind hg.up (n := n) (fun j hj => (hg.lk hj).t1) fun s ih x hx => ?_
  by_cases e : s = t
  · subst e
    rw [C_end] at hx
    simp at hx; omega
  · rw [C_rec hg.up e, CO, List.mem_flatMap] at hx
    obtain ⟨i, hi, hx⟩ := hx
    obtain ⟨y, hy, rfl⟩ := List.mem_map.1 hx
    have := ih i hi y hy
    obtain ⟨h1, h2⟩ := mem_out.1 hi
    have hk := hg.lk h1
    have k1 := hk.c1
    have k2 := hk.lt
    rw [h2] at k2
    constructor
    · omega
    · omega

/-! ### the least one, and the greatest one; -1 if there is none -/
def mn (a b : Int) : Int := if a = -1 then b else if b = -1 then a else min a b
def minL : List Int → Int
  | [] => -1
  | x :: r => mn x (minL r)
def maxL : List Int → Int
  | [] => -1
  | x :: r => max x (maxL r)
theorem mn_assoc (a b c : Int) : mn (mn a b) c = mn a (mn b c) := by
  by_cases ha : a = -1
  · simp [mn, ha]
  · by_cases hb : b = -1
    · simp [mn, ha, hb]
    · by_cases hc : c = -1
      · have h1 : min a b ≠ -1 := by omega
        simp only [mn, ha, hb, hc, h1, if_false, if_true]
      · have h1 : min a b ≠ -1 := by omega
        have h2 : min b c ≠ -1 := by omega
        simp only [mn, ha, hb, hc, h1, h2, if_false]
        omega
theorem minL_append : ∀ a b : List Int, minL (a ++ b) = mn (minL a) (minL b)
  | [], b => by simp [minL, mn]
  | x :: r, b => by rw [List.cons_append, minL, minL_append r b, minL, mn_assoc]
theorem minL_low {l : List Int} (h : ∀ x ∈ l, 0 ≤ x) : minL l = -1 ∨ 0 ≤ minL l := by
  induction l with
  | nil => exact .inl rfl
  | cons a r ih =>
    have ha := h a (List.mem_cons_self ..)
    rw [minL, mn]
    rcases ih fun x hx => h x (List.mem_cons_of_mem _ hx) with e | e
    · rw [e, if_neg (by omega), if_pos rfl]; exact .inr ha
    · rw [if_neg (by omega), if_neg (by omega)]; omega
theorem minL_none {l : List Int} (h : ∀ x ∈ l, 0 ≤ x) : minL l = -1 ↔ l = [] := by
  cases l with
  | nil => exact ⟨fun _ => rfl, fun _ => rfl⟩
  | cons a r =>
    have ha := h a (List.mem_cons_self ..)
    have := minL_low (l := r) fun x hx => h x (List.mem_cons_of_mem _ hx)
    refine ⟨fun e => ?_, fun e => by cases e⟩
    rw [minL, mn, if_neg (by omega)] at e
    split at e <;> omega
theorem minL_le {l : List Int} (h : ∀ x ∈ l, 0 ≤ x) : ∀ x ∈ l, minL l ≤ x := by
  induction l with
  | nil => intro x hx; simp at hx
  | cons a r ih =>
    intro x hx
    have ha := h a (List.mem_cons_self ..)
    have hr := fun x hx => h x (List.mem_cons_of_mem _ hx)
    rw [minL, mn, if_neg (by omega)]
    rcases List.mem_cons.1 hx with rfl | hx
    · split <;> omega
    · have h1 := ih hr x hx
      have h2 : minL r ≠ -1 := fun e => by rw [(minL_none hr).1 e] at hx; simp at hx
      rw [if_neg h2]; omega
theorem minL_mem {l : List Int} (h : ∀ x ∈ l, 0 ≤ x) (hn : l ≠ []) : minL l ∈ l := by
  induction l with
  | nil => exact absurd rfl hn
  | cons a r ih =>
    have ha := h a (List.mem_cons_self ..)
    have hr := fun x hx => h x (List.mem_cons_of_mem _ hx)
    rw [minL, mn, if_neg (by omega)]
    split
    · exact List.mem_cons_self ..
    · rename_i h2
      have h3 : r ≠ [] := fun e => h2 (by rw [e]; rfl)
      have h4 := ih hr h3
      by_cases e : a ≤ minL r
      · rw [Int.min_eq_left e]; exact List.mem_cons_self ..
      · rw [Int.min_eq_right (by omega)]; exact List.mem_cons_of_mem _ h4
theorem minL_add {l : List Int} {c : Int} (hc : 0 ≤ c) (h : ∀ x ∈ l, 0 ≤ x) : minL (l.map (c + ·)) = if minL l = -1 then -1 else c + minL l := by
  induction l with
  | nil => rfl
  | cons a r ih =>
    have ha := h a (List.mem_cons_self ..)
    have hr := fun x hx => h x (List.mem_cons_of_mem _ hx)
    have hlow := minL_low hr
    rw [List.map_cons, minL, minL, ih hr, mn, mn, if_neg (show ¬ c + a = -1 by omega), if_neg (show ¬ a = -1 by omega)]
    by_cases e : minL r = -1
    · simp only [e, if_true]; rw [if_neg (by omega)]
    · simp only [e, if_false]
      rw [if_neg (by omega), if_neg (by omega)]; omega
theorem maxL_append : ∀ a b : List Int, (∀ x ∈ b, 0 ≤ x) → maxL (a ++ b) = max (maxL a) (maxL b)
  | [], [], _ => rfl
  | [], b :: r, h => by
    have hb := h b (List.mem_cons_self ..)
    rw [List.nil_append, maxL, maxL]; omega
  | x :: r, b, h => by rw [List.cons_append, maxL, maxL_append r b h, maxL]; omega
theorem maxL_low (l : List Int) : -1 ≤ maxL l := by
  induction l with
  | nil => decide
  | cons a r ih => rw [maxL]; omega
theorem maxL_none {l : List Int} (h : ∀ x ∈ l, 0 ≤ x) : maxL l = -1 ↔ l = [] := by
  cases l with
  | nil => exact ⟨fun _ => rfl, fun _ => rfl⟩
  | cons a r =>
    have ha := h a (List.mem_cons_self ..)
    refine ⟨fun e => ?_, fun e => by cases e⟩
    rw [maxL] at e; omega
theorem maxL_ge {l : List Int} : ∀ x ∈ l, x ≤ maxL l := by
  induction l with
  | nil => intro x hx; simp at hx
  | cons a r ih =>
    intro x hx
    rw [maxL]
    rcases List.mem_cons.1 hx with rfl | hx
    · omega
    · have := ih x hx; omega
theorem maxL_mem {l : List Int} (h : ∀ x ∈ l, 0 ≤ x) (hn : l ≠ []) : maxL l ∈ l := by
  induction l with
  | nil => exact absurd rfl hn
  | cons a r ih =>
    have ha := h a (List.mem_cons_self ..)
    have hr := fun x hx => h x (List.mem_cons_of_mem _ hx)
    rw [maxL]
    by_cases e : maxL r ≤ a
    · rw [Int.max_eq_left e]; exact List.mem_cons_self ..
    · rw [Int.max_eq_right (by omega)]
      have h3 : r ≠ [] := fun e' => by rw [e'] at e; simp [maxL] at e; omega
      exact List.mem_cons_of_mem _ (ih hr h3)
theorem maxL_add {l : List Int} {c : Int} (hc : 0 ≤ c) (h : ∀ x ∈ l, 0 ≤ x) : maxL (l.map (c + ·)) = if maxL l = -1 then -1 else c + maxL l := by
  induction l with
  | nil => rfl
  | cons a r ih =>
    have ha := h a (List.mem_cons_self ..)
    have hr := fun x hx => h x (List.mem_cons_of_mem _ hx)
    have hlow := maxL_low r
    rw [List.map_cons, maxL, maxL, ih hr]
    by_cases e : maxL r = -1
    · simp only [e, if_true]; rw [if_neg (by omega)]; omega
    · simp only [e, if_false]
      rw [if_neg (by omega)]; omega
def least (ls : List LkV) (t s : Int) : Int := minL (C ls t s)
def most (ls : List LkV) (t s : Int) : Int := maxL (C ls t s)
def npaths (ls : List LkV) (t s : Int) : Nat := (P ls t s).length
/-- over some of the links that leave a node -/
def leastO (ls : List LkV) (t : Int) (l : List Nat) : Int := minL (CO ls t l)
def mostO (ls : List LkV) (t : Int) (l : List Nat) : Int := maxL (CO ls t l)
def nO (ls : List LkV) (t : Int) (l : List Nat) : Nat := (l.flatMap fun i => (P ls t (lk ls i).t).map (i :: ·)).length
theorem least_end (ls : List LkV) (t : Int) : least ls t t = 0 := by rw [least, C_end]; rfl
theorem least_none {ls : List LkV} (hu : Up ls) {t s : Int} (h : t < s) : least ls t s = -1 := by rw [least, C_none hu h]; rfl
theorem least_rec {ls : List LkV} (hu : Up ls) {t s : Int} (h : s ≠ t) : least ls t s = leastO ls t (out ls s) := by rw [least, C_rec hu h]; rfl
theorem leastO_snoc {n : Int} {ls : List LkV} (hg : Gr n ls) (t : Int) (l : List Nat) {i : Nat} (hi : i < ls.length) :
    leastO ls t (l ++ [i]) = if least ls t (lk ls i).t = -1 then leastO ls t l else mn (leastO ls t l) ((lk ls i).c + least ls t (lk ls i).t) := by
  rw [leastO, CO_snoc, minL_append, minL_add (hg.lk hi).c0 (C_nonneg hg)]
  show mn (leastO ls t l) (if least ls t (lk ls i).t = -1 then -1 else (lk ls i).c + least ls t (lk ls i).t) = _
  split
  · rw [mn]; split
    · rename_i h; exact h.symm
    · rfl
  · rfl
theorem most_end (ls : List LkV) (t : Int) : most ls t t = 0 := by rw [most, C_end]; rfl
theorem most_none {ls : List LkV} (hu : Up ls) {t s : Int} (h : t < s) : most ls t s = -1 := by rw [most, C_none hu h]; rfl
theorem most_rec {ls : List LkV} (hu : Up ls) {t s : Int} (h : s ≠ t) : most ls t s = mostO ls t (out ls s) := by rw [most, C_rec hu h]; rfl
theorem mostO_snoc {n : Int} {ls : List LkV} (hg : Gr n ls) (t : Int) (l : List Nat) {i : Nat} (hi : i < ls.length) :
    mostO ls t (l ++ [i]) = if most ls t (lk ls i).t = -1 then mostO ls t l else max (mostO ls t l) ((lk ls i).c + most ls t (lk ls i).t) := by
  have h1 := maxL_low (CO ls t l)
  have hc := (hg.lk hi).c0
  rw [mostO, CO_snoc, maxL_append _ _ (fun x hx => by
    obtain ⟨y, hy, rfl⟩ := List.mem_map.1 hx
    have := C_nonneg hg y hy; omega), maxL_add hc (C_nonneg hg)]
  show max (mostO ls t l) (if most ls t (lk ls i).t = -1 then -1 else (lk ls i).c + most ls t (lk ls i).t) = _
  have h1 : -1 ≤ mostO ls t l := h1
  split <;> omega
theorem nO_snoc (ls : List LkV) (t : Int) (l : List Nat) (i : Nat) : nO ls t (l ++ [i]) = nO ls t l + npaths ls t (lk ls i).t := by
  rw [nO, List.flatMap_append, List.length_append, nO, npaths]; simp
theorem npaths_end (ls : List LkV) (t : Int) : npaths ls t t = 1 := by rw [npaths, P_end]; rfl
theorem npaths_none {ls : List LkV} (hu : Up ls) {t s : Int} (h : t < s) : npaths ls t s = 0 := by rw [npaths, P_none hu h]; rfl
theorem npaths_rec {ls : List LkV} (hu : Up ls) {t s : Int} (h : s ≠ t) : npaths ls t s = nO ls t (out ls s) := by rw [npaths, P_rec hu h]; rfl
theorem low_high {n : Int} {ls : List LkV} (hg : Gr n ls) {t s : Int} : (least ls t s = -1 ∧ most ls t s = -1 ∧ P ls t s = []) ∨ (0 ≤ least ls t s ∧ least ls t s ≤ most ls t s ∧ most ls t s ≤ (t - s) * 1073741824 ∧ s ≤ t ∧ P ls t s ≠ []) := by
  by_cases e : C ls t s = []
  · left
    rw [least, most, e]
    exact ⟨rfl, rfl, by rw [C] at e; exact List.map_eq_nil_iff.1 e⟩
  · right
    have h1 := minL_mem (C_nonneg hg) e
    have h2 := maxL_mem (C_nonneg hg) e
    have h3 := C_le hg s _ h2
    exact ⟨C_nonneg hg _ h1, maxL_ge _ h1, h3.2, h3.1, fun h => e (by rw [C, h]; rfl)⟩
theorem out_len {ls : List LkV} {s : Int} : (out ls s).length ≤ ls.length := selN_len _ _
end Go.Proofs.Ytipcelgoachjjaa
