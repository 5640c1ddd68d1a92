/- Stage 10 (transcript): MkTagM, put together by merge10.py. -/
import Derived.Test.YtmfcepfagbkceaaGreatDoorRra
namespace Go.Proofs.YtmfcepfagbkceaaGreatDoor
set_option linter.unusedSimpArgs false
set_option linter.unusedVariables false
open Go.RowKit Go.Deep
theorem good_closeM (n v : Bs) (h : isTag n = true) : goodT 3 n v = (!emptyT n && decide (v = [])) := by
  unfold goodT
  simp [h]
theorem good_openM (n v : Bs) (h : isTag n = true) (he : emptyT n = false) : goodT 2 n v = rightB n v := by
  unfold goodT
  simp [h, he]
theorem good_emptyM (n v : Bs) (he : emptyT n = true) : goodT 4 n v = rightB n v := by
  unfold goodT
  simp [empty_tag he, he]
theorem tagR_no {p : Bs} (h : isTag (nmOf p) = false) : tagR p = ((0, [], []), 12) := by
  unfold tagR
  rw [if_neg (by rw [h]; decide)]
theorem tagR_bad {p : Bs} (h : isTag (nmOf p) = true) (hb : ¬ (formF (kdOf p) (nmOf p) (vlOf p) = p ∧ goodT (kdOf p) (nmOf p) (vlOf p) = true)) : tagR p = ((0, [], []), 3) := by
  unfold tagR
  rw [if_pos h, if_neg hb]
theorem tagR_ok {p : Bs} (h : isTag (nmOf p) = true) (hb : formF (kdOf p) (nmOf p) (vlOf p) = p ∧ goodT (kdOf p) (nmOf p) (vlOf p) = true) : tagR p = ((kdOf p, nmOf p, vlOf p), 0) := by
  unfold tagR
  rw [if_pos h, if_pos hb]
theorem kd_close {p : Bs} (h : cloB p = true) : kdOf p = 3 := by unfold kdOf; rw [if_pos h]
theorem kd_empty {p : Bs} (h : cloB p = false) (he : emptyT (nmOf p) = true) : kdOf p = 4 := by unfold kdOf; rw [if_neg (by rw [h]; decide), if_pos he]
theorem kd_open {p : Bs} (h : cloB p = false) (he : emptyT (nmOf p) = false) : kdOf p = 2 := by unfold kdOf; rw [if_neg (by rw [h]; decide), if_neg (by rw [he]; decide)]
theorem tw_in {q : UInt8 → Bool} : ∀ (l : Bs) (k : Nat), k < (l.takeWhile q).length → ∃ h : k < l.length, q l[k] = true
  | [], k, h => by simp at h
  | c :: l, k, h => by
    rw [List.takeWhile_cons] at h
    by_cases hc : q c = true
    · rw [if_pos hc] at h
      cases k with
      | zero => exact ⟨by simp, hc⟩
      | succ k =>
        obtain ⟨h1, h2⟩ := tw_in l k (by simpa using h)
        exact ⟨by simpa using h1, h2⟩
    · rw [if_neg hc] at h
      simp at h
theorem tw_out {q : UInt8 → Bool} : ∀ (l : Bs) (h : (l.takeWhile q).length < l.length), q (l[(l.takeWhile q).length]'h) = false
  | [], h => by simp at h
  | c :: l, h => by
    by_cases hc : q c = true
    · have e : ((c :: l).takeWhile q) = c :: l.takeWhile q := by rw [List.takeWhile_cons, if_pos hc]
      have h' : (l.takeWhile q).length < l.length := by rw [e] at h; simpa using h
      have := tw_out l h'
      simp only [e, List.length_cons, List.getElem_cons_succ]
      exact this
    · have e : ((c :: l).takeWhile q) = [] := by rw [List.takeWhile_cons, if_neg hc]
      simp only [e, List.length_nil, List.getElem_cons_zero]
      simpa using hc
theorem tw_le {q : UInt8 → Bool} (l : Bs) : (l.takeWhile q).length ≤ l.length := (List.takeWhile_sublist q).length_le
theorem tw_pre {q : UInt8 → Bool} (l : Bs) : l.takeWhile q = l.take (l.takeWhile q).length := by
  have := List.takeWhile_prefix q (l := l)
  exact List.prefix_iff_eq_take.1 this
theorem baL_ext (l : Bs) (a b : Nat) : (baL l).extract a b = baL ((l.drop a).take (b - a)) := by
  have h : ∀ s t : ByteArray, s.data.toList = t.data.toList → s = t := fun s t e => by rw [← baL_list s, ← baL_list t, e]
  refine h _ _ ?_
  rw [ByteArray.data_extract, Array.toList_extract, List.extract_eq_take_drop]
  rfl
theorem inn_ext {p : Bs} (h : 2 ≤ p.length) : (baL p).extract 1 (p.length - 1) = baL (inn p) ∧ (inn p).length = p.length - 2 := by
  rw [baL_ext]
  unfold inn
  rw [List.dropLast_eq_take, List.length_drop]
  exact ⟨rfl, by rw [List.length_take, List.length_drop]; omega⟩
theorem vl_sp {p : Bs} (h : (nmOf p).length < (tin p).length) (hs : (tin p)[(nmOf p).length] = 32) : vlOf p = ((tin p).drop ((nmOf p).length + 1)).takeWhile (fun c => decide (c ≠ 47)) := by
  unfold vlOf
  rw [List.drop_eq_getElem_cons h, hs]
  rfl
theorem vl_no {p : Bs} (h : (nmOf p).length < (tin p).length) (hs : (tin p)[(nmOf p).length] ≠ 32) : vlOf p = [] := by
  unfold vlOf
  rw [List.drop_eq_getElem_cons h]
  exact if_neg hs
theorem vl_end {p : Bs} (h : (tin p).length ≤ (nmOf p).length) : vlOf p = [] := by
  unfold vlOf
  rw [List.drop_eq_nil_of_le h]
theorem byte_beq (c : UInt8) (x : Nat) (hx : x < 256) : ((c.toNat : Int) == (x : Int)) = decide (c = UInt8.ofNat x) := by
  rw [Bool.eq_iff_iff, beq_iff_eq, decide_eq_true_eq]
  constructor
  · intro h
    have h : c.toNat = x := by omega
    rw [← h]; simp
  · intro h
    rw [h]
    have : (UInt8.ofNat x).toNat = x := by simp; omega
    rw [this]
theorem heap4 {w : World} {b : Nat} {c0 c1 c2 c3 : Value} {t : TypeId} (h : w.heap[b]? = some (.cells #[c0, c1, c2, c3] t (0, 0))) :
    w.cell? ⟨b, 0, none⟩ = some c0 ∧ w.cell? ⟨b, 1, none⟩ = some c1 ∧ w.cell? ⟨b, 2, none⟩ = some c2 ∧ w.cell? ⟨b, 3, none⟩ = some c3 := by
  refine ⟨?_, ?_, ?_, ?_⟩ <;> simp [World.cell?, h]
theorem set4 {w1 W4 : World} {b : Nat} {c0 c1 c2 c3 x0 x1 x2 x3 : Value} {t : TypeId} (h : w1.heap[b]? = some (.cells #[c0, c1, c2, c3] t (0, 0)))
    (hW : (((w1.setCell ⟨b, 0, none⟩ x0).setCell ⟨b, 1, none⟩ x1).setCell ⟨b, 2, none⟩ x2).setCell ⟨b, 3, none⟩ x3 = W4) :
    W4.heap[b]? = some (.cells #[x0, x1, x2, x3] t (0, 0)) ∧ (∀ k, k ≠ b → W4.heap[k]? = w1.heap[k]?) ∧ W4.heap.size = w1.heap.size := by
  subst hW
  have step : ∀ (w : World) (cs : Array Value) (o : Nat) (x : Value), w.heap[b]? = some (.cells cs t (0, 0)) → (w.setCell ⟨b, o, none⟩ x).heap[b]? = some (.cells (cs.setIfInBounds o x) t (0, 0)) := fun w cs o x hw => by
    obtain ⟨hlt, hk⟩ := Array.getElem?_eq_some_iff.1 hw
    show (w.heap.modify b _)[b]? = _
    rw [Array.getElem?_eq_getElem (by rw [Array.size_modify]; exact hlt), Array.getElem_modify_self, hk]; simp
  refine ⟨?_, fun k hk => ?_, by simp [World.setCell]⟩
  · exact step _ _ 3 x3 (step _ _ 2 x2 (step _ _ 1 x1 (step _ _ 0 x0 h)))
  · rw [Below.heap_setCell _ _ _ _ hk, Below.heap_setCell _ _ _ _ hk, Below.heap_setCell _ _ _ _ hk, Below.heap_setCell _ _ _ _ hk]
def zeroX : Obj := .cells #[.int .i64 0, .string ⟨#[]⟩, .string ⟨#[]⟩, .int .i64 0] 52
end Go.Proofs.YtmfcepfagbkceaaGreatDoor
