/- The program's Script: the edits, the closures, the walk. -/
import Derived.Test.YtbdeakodmhcgdaaEdChain
import Derived.Test.YtbdeakodmhcgdaaEdFillC
import Derived.Test.YtbdeakodmhcgdaaEdProg
namespace Go.Proofs.Ytbdeakodmhcgdaa
set_option linter.unusedSimpArgs false
set_option linter.unusedVariables false
set_option maxRecDepth 100000
open Go.RowKit Go.Deep

theorem edit_below (w : World) (c : Array Value) (t : TypeId) : Below w.heap.size w (w.alloc (.cells c t)) := (Below.refl _ _).alloc (Nat.le_refl _) _
/-! ### deletion, insertion, replacement -/
set_option maxHeartbeats 1000000 in
theorem deletion_any (i : Nat) (hi : i ≤ 1000000) (w : World) :
    Calls Try.prog 47 #[intV (i + 1 : Nat)] w fun e w' => e = .returned (edV ⟨i, 1, ⟨#[]⟩⟩) ∧ Below w.heap.size w w' := by
  have hii : ((i + 1 : Nat) : Int) - 1 = (i : Int) := by omega
  have hwi : IntKind.i64.wrap (i : Int) = (i : Int) := IntWalk.i64_in _ (by omega)
  obtain ⟨i1, hi1⟩ : ∃ i1, i + 1 = i1 := ⟨_, rfl⟩
  rw [hi1] at hii ⊢
  clear hi1
  go_enter Try.func47, Try.ntmps47
  go_wp2_with fail
  exact bodyPost_ret (v := edV ⟨i, 1, ⟨#[]⟩⟩) (by simp [results, Try.results47, go_sem]) rfl ⟨rfl, edit_below _ _ _⟩

set_option maxHeartbeats 1000000 in
theorem insertion_any (i j : Nat) (b : ByteArray) (hi : i ≤ 1000000) (hj : j < b.size) (hb : b.size ≤ 1000000) (w : World) :
    Calls Try.prog 48 #[intV i, intV (j + 1 : Nat), .string b] w fun e w' => e = .returned (edV ⟨i, 0, oneB b[j]⟩) ∧ Below w.heap.size w w' := by
  rw [← ext_one b j hj]
  have hjj : ((j + 1 : Nat) : Int) - 1 = (j : Int) := by omega
  have hwj : IntKind.i64.wrap (j : Int) = (j : Int) := IntWalk.i64_in _ (by omega)
  obtain ⟨j1, hj1⟩ : ∃ j1, j + 1 = j1 := ⟨_, rfl⟩
  rw [hj1] at hjj ⊢
  have h1 : j ≤ j1 := by omega
  have h2 : j1 ≤ b.size := by omega
  clear hj1
  go_enter Try.func48, Try.ntmps48
  go_wp2_with fail
  exact bodyPost_ret (v := edV ⟨i, 0, b.extract j j1⟩) (by simp [results, Try.results48, go_sem]) rfl ⟨rfl, edit_below _ _ _⟩

set_option maxHeartbeats 1000000 in
theorem replacement_any (i j : Nat) (b : ByteArray) (hi : i ≤ 1000000) (hj : j < b.size) (hb : b.size ≤ 1000000) (w : World) :
    Calls Try.prog 52 #[intV (i + 1 : Nat), intV (j + 1 : Nat), .string b] w fun e w' => e = .returned (edV ⟨i, 1, oneB b[j]⟩) ∧ Below w.heap.size w w' := by
  rw [← ext_one b j hj]
  have hii : ((i + 1 : Nat) : Int) - 1 = (i : Int) := by omega
  have hwi : IntKind.i64.wrap (i : Int) = (i : Int) := IntWalk.i64_in _ (by omega)
  have hjj : ((j + 1 : Nat) : Int) - 1 = (j : Int) := by omega
  have hwj : IntKind.i64.wrap (j : Int) = (j : Int) := IntWalk.i64_in _ (by omega)
  obtain ⟨i1, hi1⟩ : ∃ i1, i + 1 = i1 := ⟨_, rfl⟩
  obtain ⟨j1, hj1⟩ : ∃ j1, j + 1 = j1 := ⟨_, rfl⟩
  rw [hi1] at hii ⊢
  rw [hj1] at hjj ⊢
  have h1 : j ≤ j1 := by omega
  have h2 : j1 ≤ b.size := by omega
  clear hj1 hi1
  go_enter Try.func52, Try.ntmps52
  go_wp2_with fail
  exact bodyPost_ret (v := edV ⟨i, 1, b.extract j j1⟩) (by simp [results, Try.results52, go_sem]) rfl ⟨rfl, edit_below _ _ _⟩

/-! ### the entries of the table -/
def edB (e : EdT UInt8) : EdV := ⟨e.1, e.2.1, baL e.2.2⟩
theorem baL_one (c : UInt8) : baL [c] = oneB c := rfl
/-- the script between the first i bytes of a and the first j of b, its last edit first -/
def SR (a b : ByteArray) (i j : Nat) : List EdV := (scr (a.data.toList.take i).reverse (b.data.toList.take j).reverse).map edB
theorem take_snocL {α : Type} (l : List α) (k : Nat) (h : k < l.length) : (l.take (k + 1)).reverse = l[k] :: (l.take k).reverse := by
  rw [← List.take_append_getElem h, List.reverse_concat]
theorem at_list (s : ByteArray) (k : Nat) (h : k < s.size) : s.data.toList[k]'(by rw [size_list]; exact h) = s[k] := rfl
theorem SR_zero (a b : ByteArray) : SR a b 0 0 = [] := by rw [SR]; simp [scr_nil]
theorem SR_row (a b : ByteArray) (j : Nat) (h : j < b.size) : SR a b 0 (j + 1) = ⟨0, 0, oneB b[j]⟩ :: SR a b 0 j := by
  rw [SR, SR, take_snocL _ j (by rw [size_list]; exact h), List.take_zero, List.reverse_nil, scr_ins, at_list b j h]; rfl
theorem SR_col (a b : ByteArray) (i : Nat) (h : i < a.size) : SR a b (i + 1) 0 = ⟨i, 1, ⟨#[]⟩⟩ :: SR a b i 0 := by
  rw [SR, SR, take_snocL _ i (by rw [size_list]; exact h), List.take_zero, List.reverse_nil, scr_del]
  have : (a.data.toList.take i).reverse.length = i := by rw [List.length_reverse, List.length_take, size_list]; omega
  rw [List.map_cons, this]; rfl
theorem SR_len (a b : ByteArray) (i j : Nat) : ((SR a b i j).length : Int) = DG a.data.toList b.data.toList i j := by
  rw [SR, List.length_map, scr_length, lev_reverse]; rfl
theorem SR_step (a b : ByteArray) (i j : Nat) (hi : i < a.size) (hj : j < b.size) : SR a b (i + 1) (j + 1) =
    if a[i] = b[j] then SR a b i j
    else if (SR a b i j).length ≤ min (SR a b i (j + 1)).length (SR a b (i + 1) j).length then ⟨i, 1, oneB b[j]⟩ :: SR a b i j
    else if (SR a b i (j + 1)).length ≤ (SR a b (i + 1) j).length then ⟨i, 1, ⟨#[]⟩⟩ :: SR a b i (j + 1)
    else ⟨(i + 1 : Nat), 0, oneB b[j]⟩ :: SR a b (i + 1) j := by
  have hi' : i < a.data.toList.length := by rw [size_list]; exact hi
  have hj' : j < b.data.toList.length := by rw [size_list]; exact hj
  have l1 := SR_len a b i j
  have l2 := SR_len a b i (j + 1)
  have l3 := SR_len a b (i + 1) j
  have e1 := DG_same a.data.toList b.data.toList i j hi' hj'
  have e2 := DG_other a.data.toList b.data.toList i j hi' hj'
  have hlen : (a.data.toList.take i).reverse.length = i := by rw [List.length_reverse, List.length_take, size_list]; omega
  have d0 : ((lev (a.data.toList[i] :: (a.data.toList.take i).reverse) (b.data.toList[j] :: (b.data.toList.take j).reverse) : Nat) : Int) = DG a.data.toList b.data.toList (i + 1) (j + 1) := by
    rw [← take_snocL _ i hi', ← take_snocL _ j hj', lev_reverse]; rfl
  have d1 : ((lev (a.data.toList.take i).reverse (b.data.toList.take j).reverse : Nat) : Int) = DG a.data.toList b.data.toList i j := by rw [lev_reverse]; rfl
  have d2 : ((lev (a.data.toList.take i).reverse (b.data.toList[j] :: (b.data.toList.take j).reverse) : Nat) : Int) = DG a.data.toList b.data.toList i (j + 1) := by rw [← take_snocL _ j hj', lev_reverse]; rfl
  rw [at_list a i hi] at e1 e2 d0
  rw [at_list b j hj] at e1 e2 d0 d2
  rw [SR, take_snocL _ i hi', take_snocL _ j hj', at_list a i hi, at_list b j hj, scr_cons]
  by_cases c : a[i] = b[j]
  · rw [if_pos c, if_pos ⟨c, by have := e1 c; omega⟩]; rfl
  · have e2 := e2 c
    rw [if_neg c, if_neg (fun h => c h.1)]
    by_cases c1 : (SR a b i j).length ≤ min (SR a b i (j + 1)).length (SR a b (i + 1) j).length
    · rw [if_pos c1, if_pos (by omega), List.map_cons, hlen]; rfl
    · rw [if_neg c1, if_neg (by omega)]
      by_cases c2 : (SR a b i (j + 1)).length ≤ (SR a b (i + 1) j).length
      · rw [if_pos c2, if_pos (by omega), List.map_cons, hlen]
        congr 1
        rw [SR, take_snocL _ j hj', at_list b j hj]
      · rw [if_neg c2, if_neg (by omega), List.map_cons, hlen]
        congr 1
        rw [SR, take_snocL _ i hi', at_list a i hi]
end Go.Proofs.Ytbdeakodmhcgdaa
