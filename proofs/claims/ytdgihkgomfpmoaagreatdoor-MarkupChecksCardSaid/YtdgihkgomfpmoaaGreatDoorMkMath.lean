/- The mathematics of layer 9: tags and their values, lexemes, how they are written. -/
import Derived.Test.YtdgihkgomfpmoaaGreatDoorMkChar
namespace Go.Proofs.YtdgihkgomfpmoaaGreatDoor

def tAb : Bs := [97, 98]
def tAdd : Bs := [97, 100, 100]
def tDel : Bs := [100, 101, 108]
def tGap : Bs := [103, 97, 112]
def tLb : Bs := [108, 98]
def tName : Bs := [110, 97, 109, 101]
def tPb : Bs := [112, 98]
def tSec : Bs := [115, 101, 99]
def tUn : Bs := [117, 110, 99, 108, 101, 97, 114]
def tV : Bs := [118]
/-- the names of all tags -/
def tagsL : List Bs := [tAb, tAdd, tDel, tGap, tLb, tName, tPb, tSec, tUn, tV]
def isTag (n : Bs) : Bool := tagsL.contains n
def emptyT (n : Bs) : Bool := [tLb, tV, tPb, tSec, tGap].contains n
def digC (c : UInt8) : Bool := decide (48 ≤ c.toNat) && decide (c.toNat ≤ 57)
def valN (l : Bs) : Nat := l.foldl (fun n c => 10 * n + (c.toNat - 48)) 0
/-- a number from 1 to most, without leading zeros -/
def numB (most : Nat) (l : Bs) : Bool := l.all digC && decide (l.head? ≠ some 48) && decide (l.length ≤ 4) && decide (1 ≤ valN l) && decide (valN l ≤ most)
/-- is a value as the tag demands -/
def rightB (n v : Bs) : Bool :=
  if n = tLb ∨ n = tV ∨ n = tUn then decide (v = []) else if n = tGap then numB 64 v else if n = tAdd ∨ n = tDel then numB 8 v else if n = tAb then wordB v else nameB v
/-- a lexeme: kind, name, value, offset -/
structure Lx where
  k : Int
  n : Bs
  v : Bs
  o : Int
deriving DecidableEq
def bodyL (n v : Bs) : Bs := if v = [] then n else n ++ 32 :: v
/-- a lexeme as it is written -/
def formF (k : Int) (n v : Bs) : Bs := if k = 2 then 60 :: (bodyL n v ++ [62]) else if k = 3 then 60 :: 47 :: (n ++ [62]) else if k = 4 then 60 :: (bodyL n v ++ [47, 62]) else v
def form (x : Lx) : Bs := formF x.k x.n x.v
/-- a tag as it must be -/
def goodT (k : Int) (n v : Bs) : Bool :=
  (decide (k = 2) && (isTag n && !emptyT n && rightB n v)) || (decide (k = 3) && (isTag n && !emptyT n && decide (v = []))) || (decide (k = 4) && (isTag n && emptyT n && rightB n v))

theorem tag_plain {n : Bs} (h : isTag n = true) : n ≠ [] ∧ ∀ c ∈ n, plainC c = true := by
  unfold isTag tagsL at h
  simp only [List.contains_cons, List.contains_nil, Bool.or_false, Bool.or_eq_true, beq_iff_eq] at h
  rcases h with rfl | rfl | rfl | rfl | rfl | rfl | rfl | rfl | rfl | rfl <;> decide
theorem empty_tag {n : Bs} (h : emptyT n = true) : isTag n = true := by
  unfold emptyT at h
  simp only [List.contains_cons, List.contains_nil, Bool.or_false, Bool.or_eq_true, beq_iff_eq] at h
  rcases h with rfl | rfl | rfl | rfl | rfl <;> decide
theorem num_plain {m : Nat} {v : Bs} (h : numB m v = true) : v ≠ [] ∧ ∀ c ∈ v, plainC c = true := by
  unfold numB at h
  simp only [Bool.and_eq_true, decide_eq_true_eq] at h
  refine ⟨fun e => by rw [e] at h; have := h.1.2; simp [valN] at this, fun c hc => ?_⟩
  have hd := List.all_eq_true.1 h.1.1.1.1 c hc
  unfold digC at hd
  simp only [Bool.and_eq_true, decide_eq_true_eq] at hd
  unfold plainC
  have h1 : c ≠ 32 := by rintro rfl; simp at hd
  have h2 : c ≠ 47 := by rintro rfl; simp at hd
  have h3 : c ≠ 60 := by rintro rfl; simp at hd
  have h4 : c ≠ 62 := by rintro rfl; simp at hd
  simp [h1, h2, h3, h4]
theorem right_plain {n v : Bs} (h : rightB n v = true) : ∀ c ∈ v, plainC c = true := by
  unfold rightB at h
  split at h
  · have h : v = [] := by simpa using h
    subst h
    intro c hc; cases hc
  · split at h
    · exact (num_plain h).2
    · split at h
      · exact (num_plain h).2
      · split at h
        · exact (word_plain h).2
        · exact (name_plain h).2
theorem good_tag {k : Int} {n v : Bs} (h : goodT k n v = true) : (k = 2 ∨ k = 3 ∨ k = 4) ∧ isTag n = true ∧ (∀ c ∈ v, plainC c = true) ∧ (k = 3 → v = []) ∧ ((k = 4) = (emptyT n = true)) := by
  unfold goodT at h
  simp only [Bool.or_eq_true, Bool.and_eq_true, decide_eq_true_eq, Bool.not_eq_true'] at h
  rcases h with (⟨rfl, ⟨h1, h2⟩, h3⟩ | ⟨rfl, ⟨h1, h2⟩, h3⟩) | ⟨rfl, ⟨h1, h2⟩, h3⟩
  · exact ⟨.inl rfl, h1, right_plain h3, fun e => absurd e (by decide), by simp [h2]⟩
  · exact ⟨.inr (.inl rfl), h1, (fun c hc => by rw [h3] at hc; cases hc), fun _ => h3, by simp [h2]⟩
  · exact ⟨.inr (.inr rfl), h1, right_plain h3, fun e => absurd e (by decide), by simp [h2]⟩
theorem body_plain {n v : Bs} (hn : ∀ c ∈ n, plainC c = true) (hv : ∀ c ∈ v, plainC c = true) : ∀ c ∈ bodyL n v, c ≠ 60 ∧ c ≠ 62 ∧ c ≠ 47 := by
  have hp : ∀ c, plainC c = true → c ≠ 60 ∧ c ≠ 62 ∧ c ≠ 47 := fun c h => by
    unfold plainC at h
    simp only [Bool.and_eq_true, decide_eq_true_eq] at h
    exact ⟨h.1.2, h.2, h.1.1.2⟩
  intro c hc
  unfold bodyL at hc
  split at hc
  · exact hp c (hn c hc)
  · rcases List.mem_append.1 hc with hc | hc
    · exact hp c (hn c hc)
    · rcases List.mem_cons.1 hc with rfl | hc
      · decide
      · exact hp c (hv c hc)
/-- a tag: < at its beginning, > at its end, and neither between them -/
theorem good_form {k : Int} {n v : Bs} (h : goodT k n v = true) : ∃ m, formF k n v = 60 :: (m ++ [62]) ∧ (∀ c ∈ m, c ≠ 60 ∧ c ≠ 62) ∧ m ≠ [] := by
  obtain ⟨hk, ht, hv, h3, _⟩ := good_tag h
  obtain ⟨hn0, hn⟩ := tag_plain ht
  have hb := body_plain hn hv
  have hb0 : bodyL n v ≠ [] := by
    unfold bodyL
    split
    · exact hn0
    · simp
  rcases hk with rfl | rfl | rfl
  · exact ⟨bodyL n v, rfl, fun c hc => ⟨(hb c hc).1, (hb c hc).2.1⟩, hb0⟩
  · refine ⟨47 :: n, by simp [formF], fun c hc => ?_, by simp⟩
    rcases List.mem_cons.1 hc with rfl | hc
    · decide
    · have := hn c hc
      unfold plainC at this
      simp only [Bool.and_eq_true, decide_eq_true_eq] at this
      exact ⟨this.1.2, this.2⟩
  · refine ⟨bodyL n v ++ [47], by simp [formF], fun c hc => ?_, by simp⟩
    rcases List.mem_append.1 hc with hc | hc
    · exact ⟨(hb c hc).1, (hb c hc).2.1⟩
    · have hc : c = 47 := by simpa using hc
      subst hc
      decide
/- a tag that is read -/
def inn (p : Bs) : Bs := (p.drop 1).dropLast
def cloB (p : Bs) : Bool := decide ((inn p).head? = some 47)
def tin (p : Bs) : Bs := if cloB p then (inn p).drop 1 else inn p
def nmC (c : UInt8) : Bool := decide (c ≠ 32) && decide (c ≠ 47)
def nmOf (p : Bs) : Bs := (tin p).takeWhile nmC
def vlOf (p : Bs) : Bs := match (tin p).drop (nmOf p).length with
  | c :: r => if c = 32 then r.takeWhile (fun c => decide (c ≠ 47)) else []
  | [] => []
def kdOf (p : Bs) : Int := if cloB p then 3 else if emptyT (nmOf p) then 4 else 2
/-- the kind, the name and the value of a string from < to >, and why there are none -/
def tagR (p : Bs) : (Int × Bs × Bs) × Int :=
  if isTag (nmOf p) then (if formF (kdOf p) (nmOf p) (vlOf p) = p ∧ goodT (kdOf p) (nmOf p) (vlOf p) = true then ((kdOf p, nmOf p, vlOf p), 0) else ((0, [], []), 3)) else ((0, [], []), 12)
theorem tw_all {p : UInt8 → Bool} : ∀ (a b : Bs), (∀ c ∈ a, p c = true) → (∀ c r, b = c :: r → p c = false) → (a ++ b).takeWhile p = a
  | [], [], _, _ => rfl
  | [], c :: r, _, h => by rw [List.nil_append, List.takeWhile_cons, if_neg (by rw [h c r rfl]; decide)]
  | x :: a, b, h, h2 => by rw [List.cons_append, List.takeWhile_cons, if_pos (h x (by simp)), tw_all a b (fun c hc => h c (by simp [hc])) h2]
theorem plain_nm {c : UInt8} (h : plainC c = true) : nmC c = true := by
  unfold plainC at h
  unfold nmC
  simp only [Bool.and_eq_true, decide_eq_true_eq] at h ⊢
  exact ⟨h.1.1.1, h.1.1.2⟩
theorem plain_47 {c : UInt8} (h : plainC c = true) : c ≠ 47 := by
  unfold plainC at h
  simp only [Bool.and_eq_true, decide_eq_true_eq] at h
  exact h.1.1.2
/-- the parts of what is written are read -/
theorem tag_read {k : Int} {n v : Bs} (hk : k = 2 ∨ k = 3 ∨ k = 4) (hn0 : n ≠ []) (hn : ∀ c ∈ n, plainC c = true) (hv : ∀ c ∈ v, plainC c = true) (h3 : k = 3 → v = []) :
    cloB (formF k n v) = decide (k = 3) ∧ nmOf (formF k n v) = n ∧ vlOf (formF k n v) = v := by
  have hnm : ∀ c ∈ n, nmC c = true := fun c hc => plain_nm (hn c hc)
  obtain ⟨c0, n', rfl⟩ := List.exists_cons_of_ne_nil hn0
  have hc0 : c0 ≠ 47 := plain_47 (hn c0 (by simp))
  -- what stands between < and >, without the / of a closing tag
  have key : ∀ (t : Bs), (t = [] ∨ t = [47]) → (bodyL (c0 :: n') v ++ t).takeWhile nmC = c0 :: n' ∧ (match (bodyL (c0 :: n') v ++ t).drop (c0 :: n').length with | c :: r => if c = 32 then r.takeWhile (fun c => decide (c ≠ 47)) else [] | [] => []) = v := by
    intro t ht'
    by_cases hv0 : v = []
    · subst hv0
      rw [show bodyL (c0 :: n') [] = c0 :: n' from if_pos rfl]
      refine ⟨tw_all _ _ hnm (fun c r e => ?_), ?_⟩
      · rcases ht' with rfl | rfl
        · cases e
        · cases e; decide
      · rw [List.drop_left']
        · rcases ht' with rfl | rfl <;> simp
        · rfl
    · rw [show bodyL (c0 :: n') v = (c0 :: n') ++ 32 :: v from if_neg hv0, List.append_assoc]
      refine ⟨tw_all _ _ hnm (fun c r e => ?_), ?_⟩
      · rw [List.cons_append] at e
        cases e; decide
      · rw [List.drop_left' rfl, List.cons_append]
        show (if (32 : UInt8) = 32 then _ else _) = _
        rw [if_pos rfl]
        refine tw_all v t (fun c hc => by simpa using plain_47 (hv c hc)) (fun c r e => ?_)
        rcases ht' with rfl | rfl
        · cases e
        · cases e; decide
  have hhead : ∀ t : Bs, (bodyL (c0 :: n') v ++ t).head? = some c0 := fun t => by
    unfold bodyL
    split <;> simp
  rcases hk with rfl | rfl | rfl
  · have hi : inn (formF 2 (c0 :: n') v) = bodyL (c0 :: n') v := by simp [formF, inn]
    have hc : cloB (formF 2 (c0 :: n') v) = false := by
      unfold cloB; rw [hi]
      have := hhead []
      rw [List.append_nil] at this
      rw [this]; simp [hc0]
    have ht' : tin (formF 2 (c0 :: n') v) = bodyL (c0 :: n') v := by unfold tin; rw [hc, hi]; rfl
    have := key [] (.inl rfl)
    rw [List.append_nil] at this
    refine ⟨by rw [hc]; rfl, by unfold nmOf; rw [ht']; exact this.1, ?_⟩
    unfold vlOf nmOf
    rw [ht', this.1]; exact this.2
  · have hv0 := h3 rfl
    subst hv0
    have hi : inn (formF 3 (c0 :: n') []) = 47 :: c0 :: n' := by
      show ((60 :: 47 :: ((c0 :: n') ++ [62])).drop 1).dropLast = _
      rw [List.drop_one, List.tail_cons, ← List.cons_append, List.dropLast_concat]
    have hc : cloB (formF 3 (c0 :: n') []) = true := by unfold cloB; rw [hi]; rfl
    have ht' : tin (formF 3 (c0 :: n') []) = c0 :: n' := by unfold tin; rw [hc, hi]; rfl
    have := key [] (.inl rfl)
    rw [List.append_nil, show bodyL (c0 :: n') [] = c0 :: n' from if_pos rfl] at this
    refine ⟨by rw [hc]; rfl, by unfold nmOf; rw [ht']; exact this.1, ?_⟩
    unfold vlOf nmOf
    rw [ht', this.1]; exact this.2
  · have hi : inn (formF 4 (c0 :: n') v) = bodyL (c0 :: n') v ++ [47] := by
      show ((60 :: (bodyL (c0 :: n') v ++ [47, 62])).drop 1).dropLast = _
      rw [List.drop_one, List.tail_cons, show ([47, 62] : Bs) = [47] ++ [62] from rfl, ← List.append_assoc, List.dropLast_concat]
    have hc : cloB (formF 4 (c0 :: n') v) = false := by
      unfold cloB; rw [hi, hhead]; simp [hc0]
    have ht' : tin (formF 4 (c0 :: n') v) = bodyL (c0 :: n') v ++ [47] := by unfold tin; rw [hc, hi]; rfl
    have := key [47] (.inr rfl)
    refine ⟨by rw [hc]; rfl, by unfold nmOf; rw [ht']; exact this.1, ?_⟩
    unfold vlOf nmOf
    rw [ht', this.1]; exact this.2
theorem kd_read {k : Int} {n v : Bs} (hk : k = 2 ∨ k = 3 ∨ k = 4) (hn0 : n ≠ []) (hn : ∀ c ∈ n, plainC c = true) (hv : ∀ c ∈ v, plainC c = true) (h3 : k = 3 → v = []) :
    kdOf (formF k n v) = if k = 3 then 3 else if emptyT n then 4 else 2 := by
  obtain ⟨m1, m2, _⟩ := tag_read hk hn0 hn hv h3
  unfold kdOf
  rw [m1, m2]
  rcases hk with rfl | rfl | rfl <;> rfl
/-- what is written is read -/
theorem tag_back {k : Int} {n v : Bs} (h : goodT k n v = true) : tagR (formF k n v) = ((k, n, v), 0) := by
  obtain ⟨hk, ht, hv, h3, h4⟩ := good_tag h
  obtain ⟨hn0, hn⟩ := tag_plain ht
  obtain ⟨m1, m2, m3⟩ := tag_read hk hn0 hn hv h3
  have hkd : kdOf (formF k n v) = k := by
    rw [kd_read hk hn0 hn hv h3]
    rcases hk with rfl | rfl | rfl
    · have : emptyT n = false := by
        rw [Bool.eq_false_iff]
        intro e
        have := h4.mpr e
        exact absurd this (by decide)
      rw [this]; rfl
    · rfl
    · have : emptyT n = true := h4.mp rfl
      rw [this]; rfl
  unfold tagR
  rw [m2, m3, hkd, if_pos ht, if_pos ⟨rfl, h⟩]
theorem tag_of {p : Bs} {x : Int × Bs × Bs} (h : tagR p = (x, 0)) : formF x.1 x.2.1 x.2.2 = p ∧ goodT x.1 x.2.1 x.2.2 = true := by
  unfold tagR at h
  split at h
  · split at h
    · rename_i h1 h2
      cases h
      exact h2
    · cases h
  · cases h
end Go.Proofs.YtdgihkgomfpmoaaGreatDoor
