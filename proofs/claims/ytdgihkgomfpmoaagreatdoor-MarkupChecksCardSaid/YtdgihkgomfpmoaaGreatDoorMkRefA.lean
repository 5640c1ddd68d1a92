/- The reference: Tags, known, empty, number, right. -/
import Derived.Test.YtdgihkgomfpmoaaGreatDoorMkRef1
namespace Go.Proofs.YtdgihkgomfpmoaaGreatDoor
set_option linter.unusedSimpArgs false
set_option linter.unusedVariables false
set_option maxRecDepth 100000
open Go.RowKit Go.Deep

theorem baL_toList (s : Bs) : (baL s).toList = s := by rw [ByteArray.toList_eq]; rfl
theorem refTags_any (w : World) : Calls Tryz.prog 14 #[] w fun e w' => ∃ v, e = .returned v ∧ WordsAt w' v tagsL ∧ Below w.heap.size w w' := by
  have hw := words_lit w tagsL (tagsL.map sV).toArray (by simp) (by decide)
  have hb := alloc_below w (.cells (tagsL.map sV).toArray 9)
  have HW := Lib.hid hw
  have HB := Lib.hid hb
  clear hw hb
  go_enter Tryz.func14, Tryz.ntmps14
  go_wp2
  go_ret
  exact ⟨_, rfl, HW.out, HB.out⟩
set_option maxHeartbeats 1000000 in
theorem known_any (s : Bs) (r : Bool) (hr : isTag s = r) (w : World) :
    Calls Tryz.prog 33 #[sV s] w fun e w' => e = .returned (.bool r) ∧ Below w.heap.size w w' := by
  have HT := Lib.hid (refTags_any w)
  have HR := Lib.hid hr
  have hs := baL_toList s
  clear hr
  go_enter Tryz.func33, Tryz.ntmps33
  go_wp2_with fail
  refine HT.out.mono ?_
  rintro e w1 ⟨v, rfl, hv, h1⟩
  have HV := Lib.hid hv
  have HB := Lib.hid h1
  obtain ⟨a, cap, rfl⟩ : ∃ a c, v = .slice a 10 c := hv.slice
  clear hv h1
  go_wp2
  go_loopw [4] (fun iv wr => ∃ k : Nat, k ≤ 10 ∧ iv = .int .i64 k ∧ Hid (∀ j (h : j < tagsL.length), j < k → tagsL[j] ≠ s) ∧ wr = w1) (fun iv _ => 10 - (intOf iv).toNat)
  case atStart => exact ⟨0, Nat.zero_le _, rfl, Lib.hid (fun j _ hj => by omega), rfl⟩
  case round =>
    obtain ⟨k, hk, rfl, HN, rfl⟩ := hrel
    obtain ⟨wk, rfl⟩ : ∃ x, x = wr := ⟨_, rfl⟩
    by_cases hlt : k < 10
    · have hltT : k < tagsL.length := hlt
      obtain ⟨b, off, rfl, _, c1⟩ := HV.out.elem hltT
      have hmem := List.getElem_mem hltT
      obtain ⟨t, ht⟩ : ∃ t, tagsL[k] = t := ⟨_, rfl⟩
      rw [ht] at c1 hmem
      have htl := baL_toList t
      have k0 : (0 : Int) ≤ (k : Int) := by omega
      have k1 : (k : Int) < 10 := by omega
      by_cases e : t = s
      · have hb : (t == s) = true := by simp [e]
        have HE := Lib.hid (show r = true by rw [← HR.out]; unfold isTag; rw [List.contains_iff_mem, ← e]; exact hmem)
        clear e ht hmem
        go_wp2
        go_ret
        exact ⟨ret_bool HE.out.symm, HB.out⟩
      · have hb : (t == s) = false := by simpa using e
        have HE := Lib.hid (show ∀ j (h : j < tagsL.length), j < k + 1 → tagsL[j] ≠ s from fun j h hj => by
          rcases Nat.lt_or_ge j k with h1 | h1
          · exact HN.out j h h1
          · obtain rfl : j = k := by omega
            rw [ht]; exact e)
        clear e ht hmem
        go_wp2
        go_roundw
        case rel => exact ⟨k + 1, by omega, by go_num, HE, trivial⟩
        case measure => simp [intOf]; omega
    · have HE := Lib.hid (show r = false by
        rw [← HR.out]; unfold isTag
        rw [Bool.eq_false_iff]
        intro h
        obtain ⟨j, hj, e⟩ := List.getElem_of_mem (List.contains_iff_mem.1 h)
        exact HN.out j hj (by have : j < 10 := hj; omega) e)
      go_wp2
      go_ret
      exact ⟨ret_bool HE.out.symm, HB.out⟩
theorem empty_or (n : Bs) : emptyT n = (n == [108, 98] || (n == [118] || (n == [112, 98] || (n == [115, 101, 99] || n == [103, 97, 112])))) := by
  unfold emptyT tLb tV tPb tSec tGap
  simp only [List.contains_cons, List.contains_nil, Bool.or_false]
set_option maxHeartbeats 1000000 in
theorem empty_any (s : Bs) (r : Bool) (hr : emptyT s = r) (w : World) :
    Calls Tryz.prog 34 #[sV s] w fun e w' => e = .returned (.bool r) ∧ w' = w := by
  rw [empty_or] at hr
  have hs := baL_toList s
  obtain ⟨b1, h1⟩ : ∃ b, (s == [108, 98]) = b := ⟨_, rfl⟩
  obtain ⟨b2, h2⟩ : ∃ b, (s == [118]) = b := ⟨_, rfl⟩
  obtain ⟨b3, h3⟩ : ∃ b, (s == [112, 98]) = b := ⟨_, rfl⟩
  obtain ⟨b4, h4⟩ : ∃ b, (s == [115, 101, 99]) = b := ⟨_, rfl⟩
  obtain ⟨b5, h5⟩ : ∃ b, (s == [103, 97, 112]) = b := ⟨_, rfl⟩
  rw [h1, h2, h3, h4, h5] at hr
  subst hr
  obtain ⟨z, hz⟩ : ∃ z, baL s = z := ⟨_, rfl⟩
  show Calls Tryz.prog _ #[.string (baL s)] w _
  rw [hz] at hs ⊢
  rw [← hs] at h1 h2 h3 h4 h5
  clear hs hz
  cases b1 <;> cases b2 <;> cases b3 <;> cases b4 <;> cases b5
  all_goals
    go_enter Tryz.func34, Tryz.ntmps34
    go_wp2
    go_ret
    exact ⟨rfl, rfl⟩
end Go.Proofs.YtdgihkgomfpmoaaGreatDoor
