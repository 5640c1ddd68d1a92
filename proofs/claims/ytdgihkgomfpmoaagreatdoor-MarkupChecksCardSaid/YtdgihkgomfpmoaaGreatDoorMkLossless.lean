/- MarkupLossless: the law's walk. -/
import Derived.Test.YtdgihkgomfpmoaaGreatDoorMkAwake
import Derived.Test.YtdgihkgomfpmoaaGreatDoorMkArgs
namespace Go.Proofs.YtdgihkgomfpmoaaGreatDoor
set_option linter.unusedSimpArgs false
set_option linter.unusedVariables false
set_option maxRecDepth 100000
open Go.RowKit Go.Deep

theorem val_len : ∀ (A : List Lx) (p : Bool) (o : Nat), valB p o A = true → A.length ≤ (prn A).length ∧ ∀ x ∈ A, okX false { x with o := 0 } = true ∨ okX true { x with o := 0 } = true
  | [], _, _, _ => ⟨by simp, fun x hx => by cases hx⟩
  | x :: A, p, o, h => by
    unfold valB at h
    rw [Bool.and_eq_true, Bool.and_eq_true] at h
    obtain ⟨h1, h2⟩ := val_len A _ _ h.2
    have h3 := ok_len h.1.1
    refine ⟨by rw [prn_cons, List.length_append, List.length_cons]; omega, fun y hy => ?_⟩
    rcases List.mem_cons.1 hy with rfl | hy
    · cases p
      · exact .inl h.1.1
      · exact .inr h.1.1
    · exact h2 y hy
theorem val_mem : ∀ (A : List Lx) (p : Bool) (o : Nat), valB p o A = true → ∀ x ∈ A, (x.k = 1 ∨ x.k = 2 ∨ x.k = 3 ∨ x.k = 4) ∧ x.n.length + x.v.length ≤ (prn A).length ∧ 0 ≤ x.o ∧ x.o ≤ ((o + (prn A).length : Nat) : Int)
  | [], _, _, _, x, hx => by cases hx
  | y :: A, p, o, h, x, hx => by
    unfold valB at h
    rw [Bool.and_eq_true, Bool.and_eq_true, decide_eq_true_eq] at h
    rw [prn_cons, List.length_append]
    rcases List.mem_cons.1 hx with rfl | hx
    · have hl := len_form h.1.1
      unfold lenX at hl
      refine ⟨?_, by omega, by omega, by omega⟩
      by_cases hk : x.k = 1
      · exact .inl hk
      · exact .inr (good_tag (ok_tag h.1.1 hk)).1
    · obtain ⟨h1, h2, h3, h4⟩ := val_mem A _ _ h.2 x hx
      exact ⟨h1, by omega, h3, by omega⟩
theorem val_b {A : List Lx} (h : valB false 0 A = true) (hl : A.length ≤ 1000) (hp : (prn A).length ≤ 65536) : LxB A := by
  refine ⟨hl, fun x hx => ?_⟩
  obtain ⟨h1, h2, h3, h4⟩ := val_mem A _ _ h x hx
  unfold I64 maxLen
  refine ⟨by omega, by omega, by omega, by omega, by omega⟩
theorem scan_b {s : Bs} {A : List Lx} (h : scanR s = (A, 0)) (hs : s.length ≤ 1000) : LxB A ∧ A.length ≤ s.length := by
  obtain ⟨h1, h2, h3⟩ := scan_iff.1 h
  have h4 := (val_len A _ _ h2).1
  rw [h3] at h4
  exact ⟨val_b h2 (by omega) (by rw [h3]; exact h1), h4⟩
theorem great_b {L : List Lx} (h : greatLB L = false) (hi : ∀ x ∈ L, InX x) : LxB L ∧ L.length ≤ 24 := by
  obtain ⟨h1, h2⟩ := greatL_no h (fun x hx => ⟨(hi x hx).2.2.1, (hi x hx).2.2.2⟩)
  exact ⟨⟨by omega, fun x hx => ⟨(hi x hx).1, (hi x hx).2.1, Nat.le_trans (hi x hx).2.2.1 (by unfold maxLen; decide), Nat.le_trans (hi x hx).2.2.2 (by unfold maxLen; decide), h2 x hx⟩⟩, h1⟩
theorem baL_nil : (baL []).toList = [] := by rw [ByteArray.toList_eq]; rfl
theorem chk_len {L : List Lx} (h : chkR L = 0) : (prn L).length ≤ 65536 ∧ valB false 0 L = true := by
  have := chk_iff.1 h
  exact ⟨this.2, this.1⟩
theorem max64k : 65536 ≤ maxLen := by unfold maxLen; omega
end Go.Proofs.YtdgihkgomfpmoaaGreatDoor
