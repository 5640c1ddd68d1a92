/- Plain mathematics of layer 2's texts: digits, the text of a length, and what a text says. Nothing here runs the program. -/
import Derived.Test.YtkiaiiepfphllaaDoorFpFrac
import Derived.Test.YtkiaiiepfphllaaDoorFpDigits
import Derived.Lib.ItoaNum
import Derived.Lib.TrimByte
namespace Go.Proofs.YtkiaiiepfphllaaDoor
set_option linter.unusedSimpArgs false
set_option linter.unusedVariables false

theorem any_prs (l : List UInt8) (p : Nat × UInt8 → Bool) : (prs l).any p = false ↔ ∀ i (h : i < l.length), p (i, l[i]) = false := by
  rw [prs, prsK, List.any_map, List.any_eq_false]
  constructor
  · intro h i hi
    have := h i (List.mem_range.2 hi)
    simpa [List.getElem?_eq_getElem hi] using this
  · intro h i hi
    have hi' := List.mem_range.1 hi
    have := h i hi'
    simp [List.getElem?_eq_getElem hi', this]
theorem allDig_iff (l : List UInt8) : allDig l = true ↔ ∀ i (h : i < l.length), digI l[i].toNat = true := by
  rw [allDig, List.all_eq_true]
  constructor
  · intro h i hi; exact h _ (List.getElem_mem hi)
  · intro h c hc
    obtain ⟨i, hi, rfl⟩ := List.mem_iff_getElem.1 hc
    exact h i hi
theorem u8_48 (c : UInt8) : ((c.toNat : Int) == 48) = decide (c = 48) := by
  rw [Bool.eq_iff_iff, beq_iff_eq, decide_eq_true_eq]
  constructor
  · intro h; exact UInt8.toNat_inj.1 (by simp; omega)
  · rintro rfl; rfl
theorem wholeB_iff (l : List UInt8) : wholeB l = true ↔ l ≠ [] ∧ allDig l = true ∧ (1 < l.length → l.head? ≠ some 48) := by
  rw [wholeB, Bool.and_eq_true, Bool.not_eq_true', any_prs, allDig_iff]
  constructor
  · rintro ⟨h, hne⟩
    have hne' : l ≠ [] := by simpa using hne
    refine ⟨hne', fun i hi => ?_, fun h1 => ?_⟩
    · have := h i hi
      simp [badW] at this
      exact this.1
    · have := h 0 (by omega)
      simp [badW, u8_48] at this
      rw [List.head?_eq_getElem?, List.getElem?_eq_getElem (by omega)]
      intro e
      have := this.2 (Option.some.inj e)
      omega
  · rintro ⟨hne, h, h0⟩
    refine ⟨fun i hi => ?_, by simpa using hne⟩
    have hd := h i hi
    simp only [badW, hd, Bool.not_true, Bool.false_or, u8_48]
    by_cases hi0 : i = 0
    · subst hi0
      by_cases h1 : 1 < l.length
      · have := h0 h1
        rw [List.head?_eq_getElem?, List.getElem?_eq_getElem (by omega)] at this
        simp; intro e; exact absurd (by rw [e]) this
      · simp; intro _; omega
    · simp; intro _ e; omega
theorem fracB_iff (l : List UInt8) : fracB l = true ↔ l ≠ [] ∧ l.length ≤ 3 ∧ allDig l = true ∧ l.getLast? ≠ some 48 := by
  rw [fracB, Bool.and_eq_true, Bool.not_eq_true', any_prs, allDig_iff, Bool.and_eq_true, decide_eq_true_eq]
  constructor
  · rintro ⟨h, hne, h3⟩
    have hne' : l ≠ [] := by simpa using hne
    have hl : 0 < l.length := List.length_pos_iff.2 hne'
    refine ⟨hne', h3, fun i hi => ?_, ?_⟩
    · have := h i hi
      simp [badF] at this
      exact this.1
    · have := h (l.length - 1) (by omega)
      simp [badF, u8_48] at this
      rw [List.getLast?_eq_getElem?, List.getElem?_eq_getElem (by omega)]
      intro e
      have := this.2 (Option.some.inj e)
      omega
  · rintro ⟨hne, h3, h, hl⟩
    refine ⟨fun i hi => ?_, by simpa using hne, h3⟩
    have hd := h i hi
    simp only [badF, hd, Bool.not_true, Bool.false_or, u8_48]
    by_cases hi0 : i = l.length - 1
    · subst hi0
      rw [List.getLast?_eq_getElem?, List.getElem?_eq_getElem (by omega)] at hl
      simp; intro e; exact absurd (by rw [e]) hl
    · simp; intro _ e; omega

/-! ### decimal numerals -/
abbrev dd (u : Nat) : List UInt8 := Lib.decDigits u
theorem dd_small {u : Nat} (h : u < 10) : dd u = [UInt8.ofNat (48 + u)] := by rw [dd, Lib.decDigits, dif_pos h]
theorem dd_big {u : Nat} (h : ¬ u < 10) : dd u = dd (u / 10) ++ [UInt8.ofNat (48 + u % 10)] := by rw [dd, Lib.decDigits, dif_neg h]
theorem dig_of {k : Nat} (h : k < 10) : digI ((UInt8.ofNat (48 + k)).toNat : Int) = true ∧ (((UInt8.ofNat (48 + k)).toNat : Int) - 48 = k) := by
  have e : (UInt8.ofNat (48 + k)).toNat = 48 + k := by simp; omega
  rw [e]; constructor
  · simp [digI]; omega
  · omega
theorem dd_facts (u : Nat) : dd u ≠ [] ∧ allDig (dd u) = true ∧ numV (dd u) = u ∧ (1 ≤ u → (dd u).head? ≠ some 48) ∧ (10 ≤ u → 1 < (dd u).length) := by
  induction u using Nat.strongRecOn with
  | ind u ih =>
    by_cases h : u < 10
    · obtain ⟨h1, h2⟩ := dig_of h
      rw [dd_small h]
      refine ⟨by simp, by simpa [allDig] using h1, by simp only [numV, List.foldl_cons, List.foldl_nil]; omega, fun h3 e => ?_, fun h3 => by omega⟩
      have e' : UInt8.ofNat (48 + u) = 48 := by simpa using e
      have := congrArg UInt8.toNat e'
      simp at this
      omega
    · obtain ⟨i1, i2, i3, i4, i5⟩ := ih (u / 10) (by omega)
      obtain ⟨h1, h2⟩ := dig_of (show u % 10 < 10 by omega)
      rw [dd_big h]
      refine ⟨by simp, ?_, ?_, fun _ => ?_, fun _ => ?_⟩
      · rw [allDig_append, i2]; simpa [allDig] using h1
      · rw [numV_snoc, i3]; omega
      · have i4' := i4 (by omega)
        obtain ⟨x, t, e⟩ := List.exists_cons_of_ne_nil i1
        rw [e] at i4' ⊢
        simpa using i4'
      · have := List.length_pos_iff.2 i1
        simp; omega
theorem dd_whole (u : Nat) : wholeB (dd u) = true := by
  obtain ⟨h1, h2, h3, h4, h5⟩ := dd_facts u
  refine (wholeB_iff _).2 ⟨h1, h2, fun h => h4 ?_⟩
  by_cases h0 : u < 10
  · rw [dd_small h0] at h; simp at h
  · omega
theorem numV_head {c : UInt8} {t : List UInt8} (h : allDig (c :: t) = true) (hc : c ≠ 48) : 1 ≤ numV (c :: t) := by
  rw [allDig, List.all_cons, Bool.and_eq_true] at h
  have hb := digI_bd h.1
  have hne : (c.toNat : Int) ≠ 48 := fun e => hc (UInt8.toNat_inj.1 (by simp; omega))
  have := fold_ge t (10 * 0 + ((c.toNat : Int) - 48)) h.2 (by omega)
  rw [numV, List.foldl_cons]; omega
theorem dd_of (l : List UInt8) (hw : wholeB l = true) : dd (numV l).toNat = l := by
  rw [wholeB_iff] at hw
  revert hw
  generalize hn : l.length = n
  induction n generalizing l with
  | zero => rintro ⟨h, _⟩; exact absurd (List.length_eq_zero_iff.1 hn) h
  | succ n ih =>
    rintro ⟨hne, hd, h0⟩
    obtain ⟨a, c, rfl⟩ : ∃ a c, l = a ++ [c] := ⟨l.dropLast, l.getLast hne, (List.dropLast_concat_getLast hne).symm⟩
    have hla : a.length = n := by simpa using hn
    rw [allDig_append, Bool.and_eq_true] at hd
    have hc : digI c.toNat = true := by simpa [allDig] using hd.2
    have hcb := digI_bd hc
    rw [numV_snoc]
    have h0a := numV_nonneg hd.1
    have ec : ∀ k : Nat, (k : Int) = (c.toNat : Int) - 48 → UInt8.ofNat (48 + k) = c := by
      intro k hk
      apply UInt8.toNat_inj.1
      have := c.toNat_lt
      simp; omega
    by_cases ha : a = []
    · subst ha
      have e : (10 * numV [] + ((c.toNat : Int) - 48)).toNat = ((c.toNat : Int) - 48).toNat := by simp [numV]
      rw [e, dd_small (by omega), ec _ (by omega)]; rfl
    · obtain ⟨x, t, rfl⟩ := List.exists_cons_of_ne_nil ha
      have hx : x ≠ 48 := by
        have := h0 (by simp at hla; omega)
        simpa using this
      have h1 := numV_head hd.1 hx
      rw [dd_big (by omega)]
      have e1 : (10 * numV (x :: t) + ((c.toNat : Int) - 48)).toNat / 10 = (numV (x :: t)).toNat := by omega
      rw [e1, ih (x :: t) hla ⟨by simp, hd.1, fun _ => by simpa using hx⟩, ec _ (by omega)]
/-! ### fractions -/
abbrev trimR (l : List UInt8) : List UInt8 := Lib.trimRightB l 48
def pad3 (f : List UInt8) : List UInt8 := f ++ List.replicate (3 - f.length) 48
theorem takeWhile_rep (l : List UInt8) : l.takeWhile (· == 48) = List.replicate (l.takeWhile (· == 48)).length 48 := by
  refine List.eq_replicate_iff.2 ⟨rfl, fun b hb => ?_⟩
  have := List.all_eq_true.1 (List.all_takeWhile (p := (· == (48 : UInt8))) (l := l)) b hb
  simpa using this
theorem trimR_pad (l : List UInt8) : trimR l ++ List.replicate (l.length - (trimR l).length) 48 = l := by
  have h := List.takeWhile_append_dropWhile (p := (· == (48 : UInt8))) (l := l.reverse)
  have h2 := congrArg List.reverse h
  rw [List.reverse_append, List.reverse_reverse] at h2
  have e : (trimR l) = (l.reverse.dropWhile (· == 48)).reverse := rfl
  have h3 := congrArg List.length h2
  rw [List.length_append, List.length_reverse, List.length_reverse] at h3
  rw [e]
  conv => rhs; rw [← h2]
  congr 1
  rw [takeWhile_rep l.reverse, List.reverse_replicate]
  congr 1
  rw [List.length_reverse]; omega
theorem trimR_last (l : List UInt8) : (trimR l).getLast? ≠ some 48 := by
  have e : (trimR l) = (l.reverse.dropWhile (· == 48)).reverse := rfl
  rw [e, List.getLast?_reverse]
  intro h
  have := List.head?_dropWhile_not (fun x : UInt8 => x == 48) l.reverse
  rw [h] at this
  simp at this
theorem trimR_of {f : List UInt8} (h : f.getLast? ≠ some 48) (n : Nat) : trimR (f ++ List.replicate n 48) = f := by
  have e : trimR (f ++ List.replicate n 48) = ((f ++ List.replicate n 48).reverse.dropWhile (· == 48)).reverse := rfl
  rw [e, List.reverse_append, List.reverse_replicate, List.dropWhile_append_of_pos (by intro a ha; simp [(List.mem_replicate.1 ha).2])]
  rcases hf : f.reverse with _ | ⟨c, t⟩
  · have : f = [] := by simpa using hf
    subst this; rfl
  · have hl : f.getLast? = some c := by rw [← List.head?_reverse, hf]; rfl
    have hc : (c == 48) = false := by simp; intro e; exact h (by rw [hl, e])
    rw [List.dropWhile_cons, if_neg (by simp [hc]), ← hf, List.reverse_reverse]
theorem pad3_len {f : List UInt8} (h : f.length ≤ 3) : (pad3 f).length = 3 := by simp [pad3]; omega
theorem allDig_pad {f : List UInt8} (h : allDig f = true) : allDig (pad3 f) = true := by
  rw [pad3, allDig_append, h, allDig, List.all_eq_true.2 (by intro c hc; rw [(List.mem_replicate.1 hc).2]; decide)]; rfl
theorem three {d : List UInt8} (h : d.length = 3) : ∃ x y z, d = [x, y, z] := by
  match d, h with
  | [x, y, z], _ => exact ⟨x, y, z, rfl⟩
theorem numV_three (w : List UInt8) {d : List UInt8} (h : d.length = 3) : numV (w ++ d) = numV w * 1000 + numV d := by
  obtain ⟨x, y, z, rfl⟩ := three h
  rw [show w ++ [x, y, z] = ((w ++ [x]) ++ [y]) ++ [z] by simp, numV_snoc, numV_snoc, numV_snoc, show ([x, y, z] : List UInt8) = (([] ++ [x]) ++ [y]) ++ [z] by simp, numV_snoc, numV_snoc, numV_snoc]
  rw [show numV [] = 0 from rfl]; omega
theorem numV_three_bd {d : List UInt8} (h : d.length = 3) (hd : allDig d = true) : 0 ≤ numV d ∧ numV d ≤ 999 := by
  obtain ⟨x, y, z, rfl⟩ := three h
  simp only [allDig, List.all_cons, List.all_nil, Bool.and_true, Bool.and_eq_true] at hd
  have h1 := digI_bd hd.1
  have h2 := digI_bd hd.2.1
  have h3 := digI_bd hd.2.2
  simp only [numV, List.foldl_cons, List.foldl_nil]; omega
/-- the three digits of a rest -/
theorem dd_rest {r : Nat} (h : r < 1000) : ∃ d, dd (1000 + r) = 49 :: d ∧ d.length = 3 ∧ allDig d = true ∧ numV d = r := by
  obtain ⟨x1, x2⟩ := dig_of (show (r / 100) % 10 < 10 by omega)
  obtain ⟨y1, y2⟩ := dig_of (show (r / 10) % 10 < 10 by omega)
  obtain ⟨z1, z2⟩ := dig_of (show r % 10 < 10 by omega)
  refine ⟨[UInt8.ofNat (48 + (r / 100) % 10), UInt8.ofNat (48 + (r / 10) % 10), UInt8.ofNat (48 + r % 10)], ?_, rfl, by simp only [allDig, List.all_cons, List.all_nil, x1, y1, z1]; rfl, by simp only [numV, List.foldl_cons, List.foldl_nil]; omega⟩
  rw [dd_big (show ¬ 1000 + r < 10 by omega), dd_big (show ¬ (1000 + r) / 10 < 10 by omega), dd_big (show ¬ (1000 + r) / 10 / 10 < 10 by omega), dd_small (show (1000 + r) / 10 / 10 / 10 < 10 by omega)]
  rw [show (1000 + r) / 10 / 10 / 10 = 1 by omega, show (1000 + r) / 10 / 10 % 10 = (r / 100) % 10 by omega, show (1000 + r) / 10 % 10 = (r / 10) % 10 by omega, show (1000 + r) % 10 = r % 10 by omega]
  rfl
theorem dd_rest_of {d : List UInt8} (h : d.length = 3) (hd : allDig d = true) : dd (1000 + numV d).toNat = 49 :: d := by
  have hw : wholeB (49 :: d) = true := (wholeB_iff _).2 ⟨by simp, by rw [show allDig (49 :: d) = (digI ((49 : UInt8).toNat : Int) && allDig d) from rfl, hd]; rfl, fun _ => by simp⟩
  have e : numV (49 :: d) = 1000 + numV d := by
    have := numV_three [49] h
    rw [show [49] ++ d = 49 :: d from rfl, show numV [49] = 1 from rfl] at this
    omega
  have := dd_of _ hw
  rwa [e] at this
/-! ### what a text says -/
def cutW (a : List UInt8) : List UInt8 := a.takeWhile (· != 46)
def cutP (a : List UInt8) : List UInt8 := a.dropWhile (· != 46)
def isNeg (b : List UInt8) : Bool := Lib.hasPrefix b [45]
def amtOf (b : List UInt8) : List UInt8 := Lib.trimPrefix b [45]
/-- has it the form of a text, without its letters -/
def formB (b : List UInt8) : Bool :=
  wholeB (cutW (amtOf b)) && ((cutP (amtOf b)).isEmpty || fracB (cutP (amtOf b)).tail) && !(isNeg b && amtOf b == [48])
def valZ' (a : List UInt8) : Int := numV (cutW a ++ pad3 (cutP a).tail)
def signed (neg : Bool) (v : Int) : Int × Int := if 1073741824 < v then (0, 2) else (if neg then -v else v, 0)
/-- Parse's result -/
def parseR (s : List UInt8) : Int × Int :=
  if 65536 < s.length then (0, 4)
  else if Lib.hasSuffix s [112, 116] && formB (Lib.trimSuffix s [112, 116]) then signed (isNeg (Lib.trimSuffix s [112, 116])) (valZ' (amtOf (Lib.trimSuffix s [112, 116])))
  else (0, 3)
/-- the text of a length -/
def fracT (r : Nat) : List UInt8 := if r = 0 then [] else 46 :: trimR (dd (1000 + r)).tail
def amtT (a : Nat) : List UInt8 := dd (a / 1000) ++ fracT (a % 1000)
def printT (n : Int) : List UInt8 := (if n < 0 then [45] else []) ++ amtT n.natAbs ++ [112, 116]

theorem suffix_pt (b : List UInt8) : Lib.hasSuffix (b ++ [112, 116]) [112, 116] = true ∧ Lib.trimSuffix (b ++ [112, 116]) [112, 116] = b := by
  have h : Lib.hasSuffix (b ++ [112, 116]) [112, 116] = true := by rw [Lib.hasSuffix, List.isSuffixOf_iff_suffix]; exact List.suffix_append _ _
  exact ⟨h, by rw [Lib.trimSuffix, if_pos h]; simp⟩
theorem suffix_of {s : List UInt8} (h : Lib.hasSuffix s [112, 116] = true) : s = Lib.trimSuffix s [112, 116] ++ [112, 116] := by
  have h' := h
  rw [Lib.hasSuffix, List.isSuffixOf_iff_suffix] at h'
  obtain ⟨b, rfl⟩ := h'
  rw [(suffix_pt b).2]
theorem neg_cons (a : List UInt8) : isNeg (45 :: a) = true ∧ amtOf (45 :: a) = a := by
  have h : isNeg (45 :: a) = true := by simp [isNeg, Lib.hasPrefix]
  exact ⟨h, by rw [amtOf, Lib.trimPrefix, if_pos (show Lib.hasPrefix (45 :: a) [45] = true from h)]; rfl⟩
theorem neg_not {a : List UInt8} (h : a.head? ≠ some 45) : isNeg a = false ∧ amtOf a = a := by
  have h : isNeg a = false := by
    cases a with
    | nil => rfl
    | cons c t =>
      have hc : c ≠ 45 := by simpa using h
      show ([45] : List UInt8).isPrefixOf (c :: t) = false
      rw [List.isPrefixOf]; simp [Ne.symm hc]
  exact ⟨h, by rw [amtOf, Lib.trimPrefix, if_neg (by rw [show Lib.hasPrefix a [45] = false from h]; simp)]⟩
theorem neg_of {b : List UInt8} : b = (if isNeg b then [45] else []) ++ amtOf b := by
  cases b with
  | nil => rfl
  | cons c t =>
    by_cases h : c = 45
    · subst h; rw [(neg_cons t).1, (neg_cons t).2]; rfl
    · have := neg_not (a := c :: t) (by simpa using h)
      rw [this.1, this.2]; rfl
theorem dig_ne {c : UInt8} (h : digI c.toNat = true) : c ≠ 46 ∧ c ≠ 45 := by
  have := digI_bd h
  constructor <;> (rintro rfl; revert this; decide)
theorem cut_dig {w p : List UInt8} (hw : allDig w = true) (hp : p = [] ∨ ∃ f, p = 46 :: f) : cutW (w ++ p) = w ∧ cutP (w ++ p) = p := by
  have h1 : ∀ c ∈ w, (c != 46) = true := fun c hc => by
    have := List.all_eq_true.1 hw c hc
    simpa using (dig_ne this).1
  rw [cutW, cutP, List.takeWhile_append_of_pos h1, List.dropWhile_append_of_pos h1]
  rcases hp with rfl | ⟨f, rfl⟩
  · simp
  · simp
theorem fracT_form {r : Nat} (hr : r < 1000) : (fracT r = [] ∧ r = 0) ∨ ∃ f, fracT r = 46 :: f ∧ fracB f = true ∧ numV (pad3 f) = r ∧ r ≠ 0 := by
  by_cases h : r = 0
  · exact .inl ⟨by rw [fracT, if_pos h], h⟩
  · obtain ⟨d, e, hl, hd, hn⟩ := dd_rest hr
    refine .inr ⟨trimR d, by rw [fracT, if_neg h, e]; rfl, ?_, ?_, h⟩
    · have hp := trimR_pad d
      have hl2 : (trimR d).length ≤ 3 := by have := congrArg List.length hp; simp at this; omega
      refine (fracB_iff _).2 ⟨fun e0 => ?_, hl2, ?_, trimR_last d⟩
      · rw [e0, hl] at hp
        rw [← hp] at hn
        revert hn
        simp [numV]; omega
      · have := hd
        rw [← hp, allDig_append, Bool.and_eq_true] at this
        exact this.1
    · have hp := trimR_pad d
      rw [hl] at hp
      rw [pad3, hp, hn]
theorem numV_zero3 : numV (pad3 []) = 0 := by decide
theorem amtT_facts (a : Nat) : cutW (amtT a) = dd (a / 1000) ∧ cutP (amtT a) = fracT (a % 1000) ∧ valZ' (amtT a) = a ∧ (amtT a).head? ≠ some 45 ∧ (amtT a = [48] → a = 0) := by
  obtain ⟨h1, h2, h3, h4, h5⟩ := dd_facts (a / 1000)
  have hf := fracT_form (Nat.mod_lt a (by decide : 0 < 1000))
  have hc := cut_dig (w := dd (a / 1000)) (p := fracT (a % 1000)) h2 (by rcases hf with ⟨h, _⟩ | ⟨f, h, _⟩; exact .inl h; exact .inr ⟨f, h⟩)
  refine ⟨hc.1, hc.2, ?_, ?_, ?_⟩
  · rw [valZ', show amtT a = dd (a / 1000) ++ fracT (a % 1000) from rfl, hc.1, hc.2]
    rcases hf with ⟨h, h0⟩ | ⟨f, h, hb, hn, h0⟩
    · rw [h, show ([] : List UInt8).tail = [] from rfl, numV_three _ (pad3_len (by simp)), numV_zero3, h3]; omega
    · rw [h, show (46 :: f).tail = f from rfl, numV_three _ (pad3_len ((fracB_iff f).1 hb).2.1), hn, h3]; omega
  · rw [amtT]
    obtain ⟨x, t, e⟩ := List.exists_cons_of_ne_nil h1
    rw [e] at h2 ⊢
    rw [allDig, List.all_cons, Bool.and_eq_true] at h2
    have := (dig_ne h2.1).2
    simpa using this
  · intro e
    rw [amtT] at e
    rcases hf with ⟨h, h0⟩ | ⟨f, h, hb, hn, h0⟩
    · rw [h, List.append_nil] at e
      rw [e] at h3
      have : numV [48] = 0 := by decide
      omega
    · rw [h] at e
      have := congrArg List.length e
      have := List.length_pos_iff.2 h1
      simp at *
      omega
/-- parsing the text of a length yields it -/
theorem parse_print (n : Int) (hn : isLen n = true) (hl : (printT n).length ≤ 65536) : parseR (printT n) = (n, 0) := by
  have hb := isLen_bd hn
  obtain ⟨h1, h2, h3, h4, h5⟩ := amtT_facts n.natAbs
  rw [parseR, if_neg (by omega), printT, (suffix_pt _).1, (suffix_pt _).2]
  have hna : isNeg ((if n < 0 then [45] else []) ++ amtT n.natAbs) = decide (n < 0) ∧ amtOf ((if n < 0 then [45] else []) ++ amtT n.natAbs) = amtT n.natAbs := by
    by_cases h : n < 0
    · rw [if_pos h, List.singleton_append, (neg_cons _).1, (neg_cons _).2]; simp [h]
    · rw [if_neg h, List.nil_append, (neg_not h4).1, (neg_not h4).2]; simp [h]
  have hform : formB ((if n < 0 then [45] else []) ++ amtT n.natAbs) = true := by
    rw [formB, hna.1, hna.2, h1, h2, dd_whole]
    have hf : ((fracT (n.natAbs % 1000)).isEmpty || fracB (fracT (n.natAbs % 1000)).tail) = true := by
      rcases fracT_form (Nat.mod_lt n.natAbs (by decide : 0 < 1000)) with ⟨h, _⟩ | ⟨f, h, hb, _⟩
      · rw [h]; rfl
      · rw [h]; simp [hb]
    rw [hf]
    simp only [Bool.true_and, Bool.not_eq_true', Bool.and_eq_false_iff, decide_eq_false_iff_not, beq_eq_false_iff_ne]
    by_cases h : n < 0
    · right; intro e; have := h5 e; omega
    · left; exact h
  rw [hform, hna.1, hna.2, h3]
  simp only [Bool.and_self, if_true, signed]
  rw [if_neg (by omega)]
  by_cases h : n < 0
  · simp [h]; omega
  · simp [h]; omega
theorem cut_split (a : List UInt8) : a = cutW a ++ cutP a := (List.takeWhile_append_dropWhile (p := (· != (46 : UInt8))) (l := a)).symm
theorem cutP_form (a : List UInt8) : cutP a = [] ∨ ∃ f, cutP a = 46 :: f := by
  rcases h : cutP a with _ | ⟨c, f⟩
  · exact .inl rfl
  · right
    have := List.head?_dropWhile_not (fun x : UInt8 => x != 46) a
    rw [show a.dropWhile (fun x : UInt8 => x != 46) = c :: f from h] at this
    simp at this
    subst this
    exact ⟨f, rfl⟩
theorem pad_zero {f : List UInt8} (hf : fracB f = true) (h : numV (pad3 f) = 0) : False := by
  obtain ⟨hne, h3, hd, hl⟩ := (fracB_iff f).1 hf
  have h1 := dd_rest_of (pad3_len h3) (allDig_pad hd)
  have h0 : dd 1000 = 49 :: [48, 48, 48] := by
    obtain ⟨d, e, hl, hd, hn⟩ := dd_rest (r := 0) (by decide)
    obtain ⟨x, y, z, rfl⟩ := three hl
    rw [dd_big (by decide), dd_big (by decide), dd_big (by decide), dd_small (by decide)]
    rfl
  rw [h, show ((1000 : Int) + 0).toNat = 1000 from rfl, h0] at h1
  have h2 : pad3 f = [48, 48, 48] := (List.cons.inj h1).2.symm
  have h4 := trimR_of hl (3 - f.length)
  rw [show f ++ List.replicate (3 - f.length) 48 = pad3 f from rfl, h2] at h4
  exact hne (h4.symm.trans (by decide))
theorem frac_len {p : List UInt8} (h : (p.isEmpty || fracB p.tail) = true) : p.tail.length ≤ 3 ∧ allDig p.tail = true := by
  rw [Bool.or_eq_true] at h
  rcases h with h | h
  · have : p = [] := by simpa using h
    subst this; exact ⟨by simp, rfl⟩
  · exact ⟨((fracB_iff _).1 h).2.1, ((fracB_iff _).1 h).2.2.1⟩
theorem form_back {b : List UInt8} (h : formB b = true) : 0 ≤ valZ' (amtOf b) ∧ amtT (valZ' (amtOf b)).toNat = amtOf b ∧ (isNeg b = true → 0 < valZ' (amtOf b)) := by
  rw [formB, Bool.and_eq_true, Bool.and_eq_true] at h
  obtain ⟨⟨hw, hf⟩, hn⟩ := h
  obtain ⟨a, ha⟩ : ∃ a, amtOf b = a := ⟨_, rfl⟩
  rw [ha] at hw hf hn ⊢
  obtain ⟨w, ew⟩ : ∃ w, cutW a = w := ⟨_, rfl⟩
  have hsp := cut_split a
  have hcp := cutP_form a
  obtain ⟨hfl, hfd⟩ := frac_len hf
  have hv : valZ' a = numV w * 1000 + numV (pad3 (cutP a).tail) := by rw [valZ', ew, numV_three _ (pad3_len hfl)]
  rw [ew] at hw hsp
  have hw3 := (wholeB_iff w).1 hw
  have hw0 := numV_nonneg hw3.2.1
  have hp := numV_three_bd (pad3_len hfl) (allDig_pad hfd)
  have hdw := dd_of w hw
  have hq : (valZ' a).toNat / 1000 = (numV w).toNat := by omega
  have hr : (valZ' a).toNat % 1000 = (numV (pad3 (cutP a).tail)).toNat := by omega
  have hfr : fracT ((valZ' a).toNat % 1000) = cutP a ∧ (numV (pad3 (cutP a).tail) = 0 → cutP a = []) := by
    rw [hr]
    rcases hcp with e | ⟨f, e⟩
    · rw [e]; exact ⟨by decide, fun _ => rfl⟩
    · rw [e] at hf hfl hfd hp ⊢
      have hfb : fracB f = true := by simpa using hf
      have hne : ¬ numV (pad3 f) = 0 := fun h => pad_zero hfb h
      refine ⟨?_, fun h => absurd h hne⟩
      rw [show (46 :: f).tail = f from rfl] at *
      rw [fracT, if_neg (by omega)]
      have h1 := dd_rest_of (pad3_len hfl) (allDig_pad hfd)
      rw [show (1000 + numV (pad3 f)).toNat = 1000 + (numV (pad3 f)).toNat by omega] at h1
      rw [h1, List.tail_cons, pad3, trimR_of ((fracB_iff f).1 hfb).2.2.2]
  refine ⟨by omega, ?_, fun hneg => ?_⟩
  · rw [amtT, hq, hdw, hfr.1]; exact hsp.symm
  · by_cases h0 : 0 < valZ' a
    · exact h0
    · exfalso
      have e1 : numV w = 0 := by omega
      have e2 := hfr.2 (by omega)
      rw [e1] at hdw
      rw [e2, List.append_nil, ← hdw] at hsp
      have : a = [48] := hsp.trans (by rw [show Int.toNat 0 = 0 from rfl, dd_small (by decide)]; rfl)
      rw [hneg, this] at hn
      exact absurd hn (by decide)
/-- what can be parsed is the text of the result -/
theorem print_parse {s : List UInt8} {x e : Int} (h : parseR s = (x, e)) : (e = 0 ∧ isLen x = true ∧ printT x = s) ∨ (x = 0 ∧ (e = 2 ∨ e = 3 ∨ (e = 4 ∧ 65536 < s.length))) := by
  rw [parseR] at h
  by_cases h1 : 65536 < s.length
  · rw [if_pos h1] at h; cases h; exact .inr ⟨rfl, .inr (.inr ⟨rfl, h1⟩)⟩
  · rw [if_neg h1] at h
    by_cases h2 : (Lib.hasSuffix s [112, 116] && formB (Lib.trimSuffix s [112, 116])) = true
    · rw [if_pos h2, signed] at h
      rw [Bool.and_eq_true] at h2
      obtain ⟨hs, hf⟩ := h2
      have hsp := suffix_of hs
      obtain ⟨b, hb⟩ : ∃ b, Lib.trimSuffix s [112, 116] = b := ⟨_, rfl⟩
      rw [hb] at hf hsp h
      obtain ⟨v0, hv, hneg⟩ := form_back hf
      have hbs := neg_of (b := b)
      by_cases h3 : 1073741824 < valZ' (amtOf b)
      · rw [if_pos h3] at h; cases h; exact .inr ⟨rfl, .inl rfl⟩
      · rw [if_neg h3] at h
        cases h
        refine .inl ⟨rfl, ?_, ?_⟩
        · by_cases hn : isNeg b = true
          · rw [if_pos hn]; exact isLen_of (by omega) (by omega)
          · rw [if_neg hn]; exact isLen_of (by omega) (by omega)
        · rw [printT]
          by_cases hn : isNeg b = true
          · have := hneg hn
            rw [if_pos hn, if_pos (by omega), show (-valZ' (amtOf b)).natAbs = (valZ' (amtOf b)).toNat by omega, hv]
            rw [if_pos hn] at hbs
            rw [← hbs]; exact hsp.symm
          · rw [if_neg hn, if_neg (by omega), show (valZ' (amtOf b)).natAbs = (valZ' (amtOf b)).toNat by omega, hv]
            rw [if_neg hn] at hbs
            rw [← hbs]; exact hsp.symm
    · rw [if_neg h2] at h; cases h; exact .inr ⟨rfl, .inr (.inl rfl)⟩
/-- Print's result -/
def printR (n : Int) : List UInt8 × Int := if isLen n then (printT n, 0) else ([], 2)
end Go.Proofs.YtkiaiiepfphllaaDoor
