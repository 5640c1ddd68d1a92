/- Stage 10 (transcript): MkScM, put together by merge10.py. -/
import Derived.Test.YtmfcepfagbkceaaGreatDoorRf
import Derived.Test.YtmfcepfagbkceaaGreatDoorRc3
namespace Go.Proofs.YtmfcepfagbkceaaGreatDoor
set_option linter.unusedSimpArgs false
set_option linter.unusedVariables false
set_option maxRecDepth 100000
open Go.RowKit Go.Deep
def catR (A : List Lx) (r : List Lx × Int) : List Lx × Int := if r.2 = 0 then (A ++ r.1, 0) else ([], r.2)
theorem cat_cons (A : List Lx) (x : Lx) (r : List Lx × Int) : catR A (consR x r) = catR (A ++ [x]) r := by
  unfold catR consR
  by_cases h : r.2 = 0
  · simp [h]
  · simp [h]
theorem scan_step (s : Bs) (o : Nat) (h : o < s.length) (hs : s.length ≤ 65536) : scanF (s.length - o) o (s.drop o) =
    if (readR (partOf (s.drop o))).2 = 0 then consR ⟨(readR (partOf (s.drop o))).1.1, (readR (partOf (s.drop o))).1.2.1, (readR (partOf (s.drop o))).1.2.2, o⟩ (scanF (s.length - (o + (partOf (s.drop o)).length)) (o + (partOf (s.drop o)).length) (s.drop (o + (partOf (s.drop o)).length)))
    else ([], (readR (partOf (s.drop o))).2) := by
  rw [← items_scan _ _ _ (by rw [List.length_drop]; omega), items_step s o h, foldR]
  by_cases he : (readR (partOf (s.drop o))).2 = 0
  · rw [if_pos he, if_pos he, if_pos he, items_scan _ _ _ (by rw [List.length_drop]; omega)]
  · rw [if_neg he, if_neg he]
theorem tw_in (p : UInt8 → Bool) (l : Bs) (j : Nat) (h : j < (l.takeWhile p).length) : ∃ h2 : j < l.length, p l[j] = true := by
  have hp := List.takeWhile_prefix p (l := l)
  have hl := hp.length_le
  have h2 : j < l.length := by omega
  refine ⟨h2, ?_⟩
  have e : (l.takeWhile p)[j] = l[j] := hp.getElem h
  rw [← e]
  exact tw_mem l _ (List.getElem_mem h)
theorem tw_out (p : UInt8 → Bool) (l : Bs) (h : (l.takeWhile p).length < l.length) : p l[(l.takeWhile p).length] = false := by
  have h1 := List.takeWhile_append_dropWhile (p := p) (l := l)
  cases hd : l.dropWhile p with
  | nil => rw [hd, List.append_nil] at h1; rw [h1] at h; omega
  | cons c r =>
    have h2 := dw_head l hd
    have e : l[(l.takeWhile p).length]? = some c := by
      rw [hd] at h1
      conv => lhs; arg 1; rw [← h1]
      rw [List.getElem?_append_right (Nat.le_refl _)]; simp
    rw [List.getElem?_eq_getElem h] at e
    cases e
    exact h2
theorem grown4 {w1 W4 : World} {b N : Nat} (hk : ∀ k, k ≠ b → W4.heap[k]? = w1.heap[k]?) (hB : Below N w1 W4) : w1.grownBy W4 (some b) :=
  ⟨hB.os, hB.tape, hB.output, hB.size, fun k _ hne => hk k (fun e => hne (by rw [e]))⟩
theorem own_apart {W W4 : World} {base b N : Nat} {e : TypeId} {v : Value} {n : Nat} {xs : List Value} (h : W.ownsRow base e 4 v n xs) (hk : ∀ k, k ≠ b → W4.heap[k]? = W.heap[k]?) (hB : Below N W W4) (hb : ∀ k, v.ownBlock = some k → k ≠ b) : W4.ownsRow base e 4 v n xs := by
  refine h.kept (grown4 hk hB) ?_
  cases hv : v.ownBlock with
  | none => left; rcases h.2 with ⟨rfl, _⟩ | ⟨g, cap, cur, rfl, _⟩; rfl; simp [Value.ownBlock] at hv
  | some k => right; intro e2; cases e2; exact hb _ hv rfl
theorem part_tag {l : Bs} (h : l.head? = some 60) (hd : (l.takeWhile not62).length < l.length) : partOf l = l.takeWhile not62 ++ [62] ∧ readR (partOf l) = tagR (l.takeWhile not62 ++ [62]) ∧ 2 ≤ (l.takeWhile not62 ++ [62]).length := by
  obtain ⟨t, rfl⟩ : ∃ t, l = 60 :: t := by
    cases l with
    | nil => cases h
    | cons c t => exact ⟨t, by rw [show c = 60 by simpa using h]⟩
  have hdw : ¬ (60 :: t : Bs).dropWhile not62 = [] := fun e => by
    have := List.takeWhile_append_dropWhile (p := not62) (l := (60 :: t : Bs))
    rw [e, List.append_nil] at this
    rw [this] at hd; omega
  have hp : partOf (60 :: t) = (60 :: t : Bs).takeWhile not62 ++ [62] := by unfold partOf; rw [if_pos h, if_neg hdw]
  obtain ⟨m, hm⟩ : ∃ m, (60 :: t : Bs).takeWhile not62 = 60 :: m := ⟨t.takeWhile not62, by rw [List.takeWhile_cons, if_pos (by decide)]⟩
  refine ⟨hp, ?_, by rw [hm]; simp⟩
  rw [hp, hm, List.cons_append, ← ptag]
  unfold readR
  rw [if_pos (show (60 :: (m ++ [62]) : Bs).head? = some 60 from rfl), if_pos (by rw [← List.cons_append, List.getLast?_append]; rfl)]
  congr 1
  simp
theorem part_open {l : Bs} (h : l.head? = some 60) (hd : (l.takeWhile not62).length = l.length) : (readR (partOf l)).2 = 3 := by
  have hdw : l.dropWhile not62 = [] := by
    have := congrArg List.length (List.takeWhile_append_dropWhile (p := not62) (l := l))
    rw [List.length_append] at this
    exact List.length_eq_zero_iff.1 (by omega)
  have hp : partOf l = l := by unfold partOf; rw [if_pos h, if_pos hdw]
  rw [hp]
  unfold readR
  rw [if_pos h, if_neg]
  intro e
  have h1 := List.takeWhile_append_dropWhile (p := not62) (l := l)
  rw [hdw, List.append_nil] at h1
  have h2 := tw_mem (p := not62) l 62 (by rw [h1]; exact get_last e)
  exact absurd h2 (by decide)
theorem part_text {l : Bs} (h : ¬ l.head? = some 60) (hne : l ≠ []) : partOf l = l.takeWhile not60 ∧ readR (partOf l) = if chk (l.takeWhile not60) ≠ 0 then ((0, [], []), 11) else ((1, [], l.takeWhile not60), 0) := by
  have hp : partOf l = l.takeWhile not60 := by unfold partOf; rw [if_neg h]
  refine ⟨hp, ?_⟩
  rw [hp]
  unfold readR
  rw [if_neg]
  cases l with
  | nil => exact absurd rfl hne
  | cons c t =>
    have hc : c ≠ 60 := by simpa using h
    rw [List.takeWhile_cons, if_pos (by unfold not60; simpa using hc)]
    simpa using hc
theorem part_cut {l : Bs} : l.take (partOf l).length = partOf l := by
  unfold partOf
  by_cases h : l.head? = some 60
  · rw [if_pos h]
    by_cases hd : l.dropWhile not62 = []
    · rw [if_pos hd]; exact List.take_length
    · rw [if_neg hd]
      have e1 := List.takeWhile_append_dropWhile (p := not62) (l := l)
      obtain ⟨c, r, hr⟩ : ∃ c r, l.dropWhile not62 = c :: r := by
        cases hh : l.dropWhile not62 with
        | nil => exact absurd hh hd
        | cons c r => exact ⟨c, r, rfl⟩
      have hc := dw_head l hr
      have hc : c = 62 := by unfold not62 at hc; simpa using hc
      rw [hr, hc] at e1
      have e2 : l = (l.takeWhile not62 ++ [62]) ++ r := by rw [List.append_assoc]; exact e1.symm
      conv => lhs; arg 2; rw [e2]
      exact List.take_left
  · rw [if_neg h]
    exact (List.prefix_iff_eq_take.1 (List.takeWhile_prefix _)).symm
end Go.Proofs.YtmfcepfagbkceaaGreatDoor
