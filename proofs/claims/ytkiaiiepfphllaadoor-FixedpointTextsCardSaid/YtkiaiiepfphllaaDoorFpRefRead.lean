/- The reference's Parse of layer 2: what the walks of it need, and its short ways. -/
import Derived.Test.YtkiaiiepfphllaaDoorFpRefText
namespace Go.Proofs.YtkiaiiepfphllaaDoor
set_option linter.unusedSimpArgs false
set_option linter.unusedVariables false
set_option maxRecDepth 100000
open Go.RowKit

theorem refParse_big (s : ByteArray) (h : 65536 < s.size) (hs : s.size ≤ maxLen) (w : World) :
    Calls Tryd.prog 12 #[.string s] w fun e w' => e = .returned (pairV (parseR s.data.toList)) ∧ w = w' := by
  unfold maxLen at hs
  have hr : parseR s.data.toList = (0, 4) := by rw [parseR, if_pos (by rw [size_list]; exact h)]
  rw [hr]
  clear hr
  go_enter Tryd.func12, Tryd.ntmps12
  go_wp2
  go_ret2
  exact ⟨rfl, rfl⟩
theorem refParse_short (s : ByteArray) (h : s.size < 3) (w : World) :
    Calls Tryd.prog 12 #[.string s] w fun e w' => e = .returned (pairV (parseR s.data.toList)) ∧ w = w' := by
  rw [parse_short (by rw [size_list]; exact h)]
  go_enter Tryd.func12, Tryd.ntmps12
  go_wp2
  go_ret2
  exact ⟨rfl, rfl⟩
theorem unit_at (s : ByteArray) (k : Nat) (h : s.size = k + 2) : s.data.toList = (s.extract 0 k).data.toList ++ (s.extract k s.size).data.toList := by
  rw [ext_list, ext_list, List.drop_zero, Nat.sub_zero, List.take_of_length_le (show (s.data.toList.drop k).length ≤ s.size - k by rw [List.length_drop, size_list]; omega), List.take_append_drop]
theorem refParse_unit (s : ByteArray) (k : Nat) (h : s.size = k + 2) (hk : 1 ≤ k) (h4 : s.size ≤ 40) (hu : (s.extract k s.size).data.toList ≠ [112, 116]) (w : World) :
    Calls Tryd.prog 12 #[.string s] w fun e w' => e = .returned (pairV (parseR s.data.toList)) ∧ w = w' := by
  have hr : parseR s.data.toList = (0, 3) := by
    refine parse_unit (by rw [size_list]; omega) ?_
    rw [Bool.eq_false_iff]
    intro hs
    have e := (suffix_of hs).symm.trans (unit_at s k h)
    have hlen : (s.extract k s.size).data.toList.length = 2 := by rw [size_list, ByteArray.size_extract]; omega
    exact hu (List.append_inj_right' e (by rw [hlen]; rfl)).symm
  rw [hr]
  have hk2 : (s.size : Int) - 2 = (k : Int) := by omega
  have hks : k ≤ s.size := by omega
  have hb : ((s.extract k s.size).toList == [112, 116]) = false := by rw [ByteArray.toList_eq]; simpa using hu
  have h3 : 3 ≤ s.size := by omega
  clear hr hu h hk
  go_enter Tryd.func12, Tryd.ntmps12
  go_wp2
  go_ret2
  exact ⟨rfl, rfl⟩

theorem take_dig (A : ByteArray) (k : Nat) (h : k < A.size) : A.data.toList.take (k + 1) = A.data.toList.take k ++ [A[k]] := by
  rw [List.take_add_one, List.getElem?_eq_getElem (by rw [size_list]; exact h)]; rfl

theorem head_take (A : ByteArray) (n : Nat) (h0 : 0 < A.size) (hn : 1 ≤ n) : (A.data.toList.take n).head? = some A[0] := by
  rw [List.head?_take, if_neg (by omega), List.head?_eq_getElem?, List.getElem?_eq_getElem (by rw [size_list]; exact h0)]; rfl
theorem whole_zero (A : ByteArray) : ¬ wholeB (A.data.toList.take 0) = true := by rw [List.take_zero]; decide
theorem whole_bad (A : ByteArray) (n : Nat) (h0 : 0 < A.size) (hn : n ≤ A.size) (h2 : 2 ≤ n) (h : A[0] = 48) : ¬ wholeB (A.data.toList.take n) = true := by
  intro hw
  have := ((wholeB_iff _).1 hw).2.2 (by rw [List.length_take, size_list]; omega)
  rw [head_take A n h0 (by omega), h] at this
  exact this rfl
theorem whole_one (A : ByteArray) (n : Nat) (hn : n ≤ A.size) (h1 : n = 1) (hd : allDig (A.data.toList.take n) = true) : wholeB (A.data.toList.take n) = true := by
  refine (wholeB_iff _).2 ⟨fun e => ?_, hd, fun h => ?_⟩
  · have := congrArg List.length e
    rw [List.length_take, size_list, List.length_nil] at this; omega
  · rw [List.length_take, size_list] at h; omega
theorem whole_ok (A : ByteArray) (n : Nat) (h0 : 0 < A.size) (hn : n ≤ A.size) (h2 : 2 ≤ n) (h : A[0] ≠ 48) (hd : allDig (A.data.toList.take n) = true) : wholeB (A.data.toList.take n) = true := by
  refine (wholeB_iff _).2 ⟨fun e => ?_, hd, fun _ => ?_⟩
  · have := congrArg List.length e
    rw [List.length_take, size_list, List.length_nil] at this; omega
  · rw [head_take A n h0 (by omega)]
    exact fun e => h (Option.some.inj e)
theorem ways48 (c : UInt8) (n : Nat) : n = 0 ∨ (2 ≤ n ∧ c = 48) ∨ n = 1 ∨ (2 ≤ n ∧ c ≠ 48) := by
  rcases (show n = 0 ∨ n = 1 ∨ 2 ≤ n by omega) with h | h | h
  · exact .inl h
  · exact .inr (.inr (.inl h))
  · by_cases e : c = 48
    · exact .inr (.inl ⟨h, e⟩)
    · exact .inr (.inr (.inr ⟨h, e⟩))
theorem ways5 (P : ByteArray) (q : Nat) (h0 : 0 < P.size) (hq : q < P.size) : P[0] ≠ 46 ∨ (P[0] = 46 ∧ P.size < 2) ∨ (P[0] = 46 ∧ 2 ≤ P.size ∧ 4 < P.size) ∨ (P[0] = 46 ∧ 2 ≤ P.size ∧ P.size ≤ 4 ∧ P[q] = 48) ∨ (P[0] = 46 ∧ 2 ≤ P.size ∧ P.size ≤ 4 ∧ P[q] ≠ 48) := by
  by_cases h : P[0] = 46
  · right
    rcases (show P.size < 2 ∨ (2 ≤ P.size ∧ 4 < P.size) ∨ (2 ≤ P.size ∧ P.size ≤ 4) by omega) with g | g | g
    · exact .inl ⟨h, g⟩
    · exact .inr (.inl ⟨h, g⟩)
    · by_cases e : P[q] = 48
      · exact .inr (.inr (.inl ⟨h, g.1, g.2, e⟩))
      · exact .inr (.inr (.inr ⟨h, g.1, g.2, e⟩))
  · exact .inl h
theorem byte_is {c d : UInt8} (h : c = d) : ((c.toNat : Int) == (d.toNat : Int)) = true := by rw [h]; simp
theorem byte_no {c d : UInt8} (h : c ≠ d) : ((c.toNat : Int) == (d.toNat : Int)) = false := by
  rw [Bool.eq_false_iff]; intro e; exact h (UInt8.toNat_inj.1 (by have := (beq_iff_eq (α := Int)).1 e; omega))
theorem byte_nis {c d : UInt8} (h : c = d) : ((c.toNat : Int) != (d.toNat : Int)) = false := by rw [h]; simp
theorem byte_nno {c d : UInt8} (h : c ≠ d) : ((c.toNat : Int) != (d.toNat : Int)) = true := by
  rw [bne, byte_no h]; rfl
/-- the bytes behind the first -/
theorem cons_at (P : ByteArray) (h : 0 < P.size) : P.data.toList = P[0] :: P.data.toList.tail := by
  have := drop_at P 0 h
  rw [List.drop_zero] at this
  rw [← List.drop_one]; exact this
theorem last_at (P : ByteArray) (q : Nat) (h : P.size = q + 1) (hq : q < P.size) (h2 : 2 ≤ P.size) : P.data.toList.tail.getLast? = some P[q] := by
  have e := snoc_at P q h hq
  have hl : (P.extract 0 q).data.toList.length = q := by rw [size_list, ByteArray.size_extract]; omega
  obtain ⟨x, y, e2⟩ := List.exists_cons_of_ne_nil (show (P.extract 0 q).data.toList ≠ [] from fun e0 => by rw [e0] at hl; simp at hl; omega)
  rw [e, e2, List.cons_append, List.tail_cons, List.getLast?_append]; rfl
theorem pad_dig (P : ByteArray) (j : Nat) (h : j + 1 < P.size) : (pad3 P.data.toList.tail).take (j + 1) = (pad3 P.data.toList.tail).take j ++ [P[j + 1]] := by
  have hl : P.data.toList.tail.length = P.size - 1 := by rw [List.length_tail, size_list]
  rw [List.take_add_one, pad3, List.getElem?_append_left (by omega), List.getElem?_tail, List.getElem?_eq_getElem (by rw [size_list]; exact h)]; rfl
theorem pad_none (P : ByteArray) (j : Nat) (h : ¬ j + 1 < P.size) (hj : j < 3) : (pad3 P.data.toList.tail).take (j + 1) = (pad3 P.data.toList.tail).take j ++ [48] := by
  have hl : P.data.toList.tail.length = P.size - 1 := by rw [List.length_tail, size_list]
  rw [List.take_add_one, pad3, List.getElem?_append_right (by omega), List.getElem?_replicate, if_pos (by omega)]; rfl
theorem frac_no {P : ByteArray} {h0 : 0 < P.size} (h : P[0] ≠ 46 ∨ P.size < 2 ∨ 4 < P.size ∨ (∃ q, ∃ hq : q < P.size, P.size = q + 1 ∧ 2 ≤ P.size ∧ P[q] = 48) ∨ ∃ j, ∃ hj : j + 1 < P.size, digI (P[j + 1].toNat : Int) = false) : ¬ (P.data.toList = [] ∨ ∃ f, P.data.toList = 46 :: f ∧ fracB f = true) := by
  rintro (e | ⟨f, e, hf⟩)
  · have := size_list P; rw [e] at this; simp at this; omega
  · obtain ⟨f1, f2, f3, f4⟩ := (fracB_iff f).1 hf
    have hc := cons_at P h0
    rw [e] at hc
    have h46 := (List.cons.inj hc).1
    have ht : P.data.toList.tail = f := by rw [e]; rfl
    have hs : P.size = f.length + 1 := by rw [← size_list, e]; rfl
    have := List.length_pos_iff.2 f1
    rcases h with h | h | h | ⟨q, hq, hq1, hq2, hq3⟩ | ⟨j, hj, hdj⟩
    · exact h h46.symm
    · omega
    · omega
    · have := last_at P q hq1 hq hq2
      rw [ht, hq3] at this
      exact f4 this
    · have := (allDig_iff f).1 f3 j (by omega)
      have e3 : f[j]'(by omega) = P[j + 1] := by
        have : P.data.toList[j + 1]? = some P[j + 1] := by rw [List.getElem?_eq_getElem (by rw [size_list]; exact hj)]; rfl
        rw [e, List.getElem?_cons_succ, List.getElem?_eq_getElem (by omega)] at this
        exact Option.some.inj this
      rw [e3, hdj] at this
      exact absurd this (by simp)
theorem frac_yes {P : ByteArray} {h0 : 0 < P.size} (h : P[0] = 46) (h2 : 2 ≤ P.size) (h4 : P.size ≤ 4) (q : Nat) (hq : q < P.size) (hq1 : P.size = q + 1) (hl : P[q] ≠ 48) (hd : allDig ((pad3 P.data.toList.tail).take 3) = true) :
    (P.data.toList = [] ∨ ∃ f, P.data.toList = 46 :: f ∧ fracB f = true) ∧ (pad3 P.data.toList.tail).take 3 = pad3 P.data.toList.tail := by
  have hlen : P.data.toList.tail.length = P.size - 1 := by rw [List.length_tail, size_list]
  have h3 : (pad3 P.data.toList.tail).length = 3 := pad3_len (by omega)
  have ht := List.take_of_length_le (Nat.le_of_eq h3)
  rw [ht] at hd ⊢
  refine ⟨.inr ⟨P.data.toList.tail, by rw [← h]; exact cons_at P h0, (fracB_iff _).2 ⟨fun e => by rw [e] at hlen; simp at hlen; omega, by omega, ?_, ?_⟩⟩, rfl⟩
  · rw [pad3, allDig_append, Bool.and_eq_true] at hd; exact hd.1
  · rw [last_at P q hq1 hq h2]; exact fun e => hl (Option.some.inj e)

end Go.Proofs.YtkiaiiepfphllaaDoor
