/- Stage 10 (transcript): MkLossless MkNestA MkShare, put together by merge10.py. -/
import Derived.Test.YtmfcepfagbkceaaGreatDoorOc1
import Derived.Test.YtmfcepfagbkceaaGreatDoorOc2
import Derived.WalkSmall
namespace Go.Proofs.YtmfcepfagbkceaaGreatDoor
set_option linter.unusedSimpArgs false
set_option linter.unusedVariables false
set_option maxRecDepth 100000
open Go.RowKit Go.Deep
theorem val_len : ∀ (A : List Lx) (p : Bool) (o : Nat), valB p o A = true → A.length ≤ (prn A).length ∧ ∀ x ∈ A, okX false { x with o := 0 } = true ∨ okX true { x with o := 0 } = true
  | [], _, _, _ => ⟨by simp, fun x hx => by cases hx⟩
  | x :: A, p, o, h => by
    unfold valB at h
    rw [Bool.and_eq_true, Bool.and_eq_true] at h
    obtain ⟨h1, h2⟩ := val_len A _ _ h.2
    have h3 := ok_len h.1.1
    refine ⟨by rw [prn_cons, List.length_append, List.length_cons]; omega, fun y hy => ?_⟩
    rcases List.mem_cons.1 hy with rfl | hy
    · cases p
      · exact .inl h.1.1
      · exact .inr h.1.1
    · exact h2 y hy
theorem chk_len {L : List Lx} (h : chkR L = 0) : (prn L).length ≤ 65536 ∧ valB false 0 L = true := by
  have := chk_iff.1 h
  exact ⟨this.2, this.1⟩
end Go.Proofs.YtmfcepfagbkceaaGreatDoor
namespace Go.Proofs.YtmfcepfagbkceaaGreatDoor
set_option linter.unusedSimpArgs false
set_option linter.unusedVariables false
set_option maxRecDepth 100000
open Go.RowKit Go.Deep
theorem flatX_put : ∀ (L : List Lx) (i : Nat) (h : i < L.length) (x : Lx), ((((L.flatMap cellsX).set (i * 4) (intV x.k)).set (i * 4 + 1) (sV x.n)).set (i * 4 + 2) (sV x.v)).set (i * 4 + 3) (intV x.o) = (L.set i x).flatMap cellsX
  | [], i, h, _ => absurd h (by simp)
  | y :: L, 0, _, x => by simp [List.flatMap_cons, cellsX]
  | y :: L, i + 1, h, x => by
    have := flatX_put L i (by simpa using h) x
    have e : (i + 1) * 4 = i * 4 + (cellsX y).length := by simp [cellsX]; omega
    rw [List.flatMap_cons, e, show i * 4 + (cellsX y).length + 1 = (i * 4 + 1) + (cellsX y).length by omega, show i * 4 + (cellsX y).length + 2 = (i * 4 + 2) + (cellsX y).length by omega, show i * 4 + (cellsX y).length + 3 = (i * 4 + 3) + (cellsX y).length by omega]
    rw [List.set_append_right _ _ (by omega), Nat.add_sub_cancel, List.set_append_right _ _ (by omega), Nat.add_sub_cancel, List.set_append_right _ _ (by omega), Nat.add_sub_cancel, List.set_append_right _ _ (by omega), Nat.add_sub_cancel, this, List.set_cons_succ, List.flatMap_cons]
theorem OwnX.put {B : Nat} {W : World} {g n cap : Nat} {L : List Lx} (h : OwnX B W (.slice (some ⟨g, 0, none⟩) n cap) L) {i : Nat} (hi : i < L.length) (x : Lx) :
    OwnX B ((((W.setCell ⟨g, i * 4, none⟩ (intV x.k)).setCell ⟨g, i * 4 + 1, none⟩ (sV x.n)).setCell ⟨g, i * 4 + 2, none⟩ (sV x.v)).setCell ⟨g, i * 4 + 3, none⟩ (intV x.o)) (.slice (some ⟨g, 0, none⟩) n cap) (L.set i x) ∧
      Below B W ((((W.setCell ⟨g, i * 4, none⟩ (intV x.k)).setCell ⟨g, i * 4 + 1, none⟩ (sV x.n)).setCell ⟨g, i * 4 + 2, none⟩ (sV x.v)).setCell ⟨g, i * 4 + 3, none⟩ (intV x.o)) := by
  obtain ⟨g', cap', e, hB, hg⟩ := h.form (by omega)
  cases e
  have h1 := (World.ownsRow.stored h (i * 4) (intV x.k)).1
  have h2 := (World.ownsRow.stored h1 (i * 4 + 1) (sV x.n)).1
  have h3 := (World.ownsRow.stored h2 (i * 4 + 2) (sV x.v)).1
  have h4 := (World.ownsRow.stored h3 (i * 4 + 3) (intV x.o)).1
  rw [flatX_put L i hi] at h4
  refine ⟨?_, ((((Below.refl _ _).setCell hB _).setCell hB _).setCell hB _).setCell hB _⟩
  unfold OwnX
  rw [List.length_set]
  exact h4
theorem one_news (W : World) (x : Value) (t : TypeId) (n : Nat) (h : n = W.heap.size) : ∀ j u, [x][j]? = some u → (W.alloc (.cells #[x] t)).cell? ((⟨n, 0, none⟩ : Addr).add j) = some u := by
  intro j u hj
  subst h
  match j, hj with
  | 0, hj => simp at hj; subst hj; simp [Addr.add]
end Go.Proofs.YtmfcepfagbkceaaGreatDoor
namespace Go.Proofs.YtmfcepfagbkceaaGreatDoor
set_option linter.unusedSimpArgs false
set_option linter.unusedVariables false
set_option maxRecDepth 100000
open Go.RowKit Go.Deep
theorem prn_step (L : List Lx) (k : Nat) (h : k < L.length) : prn (L.take (k + 1)) = prn (L.take k) ++ form L[k] := by
  rw [List.take_succ_eq_append_getElem h, prn_append, prn_cons]
  simp [prn]
theorem prn_take (L : List Lx) (k : Nat) : (prn (L.take k)).length ≤ (prn L).length := by
  have h : prn L = prn (L.take k) ++ prn (L.drop k) := by rw [← prn_append, List.take_append_drop]
  rw [h, List.length_append]; omega
theorem strp_step (L : List Lx) (k : Nat) (h : k < L.length) : strp (L.take (k + 1)) = strp (L.take k) ++ (if L[k].k = 1 then L[k].v else []) := by
  rw [List.take_succ_eq_append_getElem h, strp_append]
  simp [strp]
theorem strp_take (L : List Lx) (k : Nat) : (strp (L.take k)).length ≤ (strp L).length := by
  have h : strp L = strp (L.take k) ++ strp (L.drop k) := by rw [← strp_append, List.take_append_drop]
  rw [h, List.length_append]; omega
theorem scan_len {s : Bs} {L : List Lx} {e : Int} (h : scanR s = (L, e)) : L.length ≤ 65536 ∧ (strp L).length ≤ 65536 := by
  by_cases he : e = 0
  · subst he
    obtain ⟨h1, h2, h3⟩ := scan_iff.1 h
    have h4 := (val_len L _ _ h2).1
    have h5 := (strp_kd L _ _ h2).2
    rw [h3] at h4 h5
    omega
  · have := scan_err s (by rw [h]; exact he)
    rw [h] at this
    have hL : L = [] := this
    subst hL
    exact ⟨by simp, by simp [strp]⟩
theorem info_str : (Tryz.prog.info? 9).map (fun i => (i.zero, i.size, i.bytes)) = some (some (.string ⟨#[]⟩), 1, 16) := by kernel_rfl
theorem nestF_open {st : List Bs} {x : Lx} {M : List Lx} (h : x.k = 2) : nestF st (x :: M) = if 16 < st.length + 1 then 4 else nestF (x.n :: st) M := by
  unfold nestF
  rw [runS_cons, if_pos h]
  split
  · rfl
  · rfl
theorem nestF_close {t : Bs} {st : List Bs} {x : Lx} {M : List Lx} (h : x.k = 3) : nestF (t :: st) (x :: M) = if t = x.n then nestF st M else 12 := by
  unfold nestF
  rw [runS_cons, if_neg (show ¬ x.k = 2 by omega), if_pos h]
  show (if (if t = x.n then runS st M else (12, [])).1 = 0 then _ else _) = _
  by_cases e : t = x.n
  · simp only [if_pos e]
  · simp only [if_neg e]; rfl
theorem nestF_none {x : Lx} {M : List Lx} (h : x.k = 3) : nestF [] (x :: M) = 12 := by
  unfold nestF
  rw [runS_cons, if_neg (show ¬ x.k = 2 by omega), if_pos h]
  rfl
theorem nestF_other {st : List Bs} {x : Lx} {M : List Lx} (h2 : x.k ≠ 2) (h3 : x.k ≠ 3) : nestF st (x :: M) = nestF st M := by
  unfold nestF
  rw [runS_cons, if_neg h2, if_neg h3]
end Go.Proofs.YtmfcepfagbkceaaGreatDoor
