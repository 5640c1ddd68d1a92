/- Lemmas that both sides of layer 9 use: what is printed, stripped, found, nested, step by step. -/
import Derived.Test.YtdgihkgomfpmoaaGreatDoorMkNestA
import Derived.WalkSmall
namespace Go.Proofs.YtdgihkgomfpmoaaGreatDoor
set_option linter.unusedSimpArgs false
set_option linter.unusedVariables false
set_option maxRecDepth 100000
open Go.RowKit Go.Deep
theorem prn_step (L : List Lx) (k : Nat) (h : k < L.length) : prn (L.take (k + 1)) = prn (L.take k) ++ form L[k] := by
  rw [List.take_succ_eq_append_getElem h, prn_append, prn_cons]
  simp [prn]
theorem prn_take (L : List Lx) (k : Nat) : (prn (L.take k)).length ≤ (prn L).length := by
  have h : prn L = prn (L.take k) ++ prn (L.drop k) := by rw [← prn_append, List.take_append_drop]
  rw [h, List.length_append]; omega
theorem strp_step (L : List Lx) (k : Nat) (h : k < L.length) : strp (L.take (k + 1)) = strp (L.take k) ++ (if L[k].k = 1 then L[k].v else []) := by
  rw [List.take_succ_eq_append_getElem h, strp_append]
  simp [strp]
theorem strp_take (L : List Lx) (k : Nat) : (strp (L.take k)).length ≤ (strp L).length := by
  have h : strp L = strp (L.take k) ++ strp (L.drop k) := by rw [← strp_append, List.take_append_drop]
  rw [h, List.length_append]; omega
theorem scan_len {s : Bs} {L : List Lx} {e : Int} (h : scanR s = (L, e)) : L.length ≤ 65536 ∧ (strp L).length ≤ 65536 := by
  by_cases he : e = 0
  · subst he
    obtain ⟨h1, h2, h3⟩ := scan_iff.1 h
    have h4 := (val_len L _ _ h2).1
    have h5 := (strp_kd L _ _ h2).2
    rw [h3] at h4 h5
    omega
  · have := scan_err s (by rw [h]; exact he)
    rw [h] at this
    have hL : L = [] := this
    subst hL
    exact ⟨by simp, by simp [strp]⟩
theorem find_hit {L : List Lx} {i : Int} {k : Nat} (hk : k < L.length) (hno : ∀ j (h : j < L.length), j < k → inX i L[j] = false) (hy : inX i L[k] = true) : L.findIdx? (inX i) = some k := by
  rw [List.findIdx?_eq_some_iff_getElem]
  exact ⟨hk, hy, fun j hj => by rw [hno j (by omega) hj]; decide⟩
theorem find_miss {L : List Lx} {i : Int} (hno : ∀ j (h : j < L.length), inX i L[j] = false) : L.findIdx? (inX i) = none := by
  rw [List.findIdx?_eq_none_iff]
  intro x hx
  obtain ⟨j, hj, rfl⟩ := List.getElem_of_mem hx
  exact hno j hj
theorem info_str : (Tryz.prog.info? 9).map (fun i => (i.zero, i.size, i.bytes)) = some (some (.string ⟨#[]⟩), 1, 16) := by kernel_rfl
theorem nestF_open {st : List Bs} {x : Lx} {M : List Lx} (h : x.k = 2) : nestF st (x :: M) = if 16 < st.length + 1 then 4 else nestF (x.n :: st) M := by
  unfold nestF
  rw [runS_cons, if_pos h]
  split
  · rfl
  · rfl
theorem nestF_close {t : Bs} {st : List Bs} {x : Lx} {M : List Lx} (h : x.k = 3) : nestF (t :: st) (x :: M) = if t = x.n then nestF st M else 12 := by
  unfold nestF
  rw [runS_cons, if_neg (show ¬ x.k = 2 by omega), if_pos h]
  show (if (if t = x.n then runS st M else (12, [])).1 = 0 then _ else _) = _
  by_cases e : t = x.n
  · simp only [if_pos e]
  · simp only [if_neg e]; rfl
theorem nestF_none {x : Lx} {M : List Lx} (h : x.k = 3) : nestF [] (x :: M) = 12 := by
  unfold nestF
  rw [runS_cons, if_neg (show ¬ x.k = 2 by omega), if_pos h]
  rfl
theorem nestF_other {st : List Bs} {x : Lx} {M : List Lx} (h2 : x.k ≠ 2) (h3 : x.k ≠ 3) : nestF st (x :: M) = nestF st M := by
  unfold nestF
  rw [runS_cons, if_neg h2, if_neg h3]
end Go.Proofs.YtdgihkgomfpmoaaGreatDoor
