/- strings.Cut at a point. -/
import Derived.Test.YtkiaiiepfphllaaDoorFpText
import Derived.Test.YtkiaiiepfphllaaDoorShelf
namespace Go.Proofs.YtkiaiiepfphllaaDoor
set_option linter.unusedSimpArgs false
set_option linter.unusedVariables false
set_option maxRecDepth 100000
open Go.RowKit

theorem index_cut (l : List UInt8) : (Lib.indexByte l 46 = -1 ∧ cutW l = l ∧ cutP l = []) ∨ (∃ k : Nat, Lib.indexByte l 46 = k ∧ k < l.length ∧ cutW l = l.take k ∧ cutP l = 46 :: l.drop (k + 1)) := by
  induction l with
  | nil => exact .inl ⟨rfl, rfl, rfl⟩
  | cons c l ih =>
    by_cases h : c = 46
    · subst h
      exact .inr ⟨0, by simp [Lib.indexByte], by simp, by simp [cutW], by simp [cutP]⟩
    · have hb : (c == 46) = false := by simpa using h
      have e1 : cutW (c :: l) = c :: cutW l := by simp [cutW, h]
      have e2 : cutP (c :: l) = cutP l := by simp [cutP, h]
      rcases ih with ⟨i1, i2, i3⟩ | ⟨k, i1, i2, i3, i4⟩
      · left
        refine ⟨?_, by rw [e1, i2], by rw [e2, i3]⟩
        rw [Lib.indexByte, hb, i1]; simp
      · right
        refine ⟨k + 1, ?_, by simp; omega, by rw [e1, i3]; rfl, by rw [e2, i4]; rfl⟩
        rw [Lib.indexByte, hb, i1]
        have : ((k : Int) == -1) = false := by simp
        simp [this]
theorem below_drewN (w : World) (q : Nat) : Below w.heap.size w (w.drewN q) := ⟨rfl, rfl, rfl, Nat.le_refl _, fun _ _ => rfl⟩
theorem ba_of {a b : ByteArray} (h : a.data.toList = b.data.toList) : a = b := by
  obtain ⟨⟨a⟩⟩ := a
  obtain ⟨⟨b⟩⟩ := b
  exact congrArg (fun l => ByteArray.mk (Array.mk l)) h
theorem ext_list (s : ByteArray) (a b : Nat) : (s.extract a b).data.toList = (s.data.toList.drop a).take (b - a) := by
  rw [← ByteArray.toList_eq, Lib.extract_toList]
theorem ret_three {a a' b b' : ByteArray} {c : Bool} (h : a = a') (h' : b = b') : Ending.returned (.tuple #[.string a, .string b, .bool c]) = .returned (.tuple #[.string a', .string b', .bool c]) := by rw [h, h']

set_option maxHeartbeats 1000000 in
theorem cut_in (s wh fr : ByteArray) (hp : Bool) (hw : wh.data.toList = cutW s.data.toList) (hf : fr.data.toList = (cutP s.data.toList).tail) (hh : (!(cutP s.data.toList).isEmpty) = hp) (hs : s.size ≤ 65536) (w : World) :
    Calls Tryd.prog 53 #[.string s, .string ⟨#[46]⟩] w fun e w' => e = .returned (.tuple #[.string wh, .string fr, .bool hp]) ∧ ∃ q, w' = w.drewN q := by
  have HW := Lib.hid hw
  have HF := Lib.hid hf
  have HH := Lib.hid hh
  clear hw hf hh
  rcases index_cut s.data.toList with ⟨h1, h2, h3⟩ | ⟨k, h1, h2, h3, h4⟩
  · have I1 := Lib.hid h1
    have I2 := Lib.hid h2
    have I3 := Lib.hid h3
    clear h1 h2 h3
    go_enter Tryd.func53, Tryd.ntmps53
    go_wp2_with (go_at_call 70; refine (Tryd.stringslite_Index_one s 46 _).mono ?_; rw [I1.out]; rintro e w' ⟨rfl, rfl⟩)
    obtain rfl : hp = false := by rw [← HH.out, I3.out]; rfl
    refine bodyPost_ret (v := .tuple #[.string s, .string ⟨#[]⟩, .bool false]) (by simp [results, Tryd.results53, go_sem]) rfl ?_
    exact ⟨ret_three (ba_of (by rw [HW.out, I2.out])) (ba_of (by rw [HF.out, I3.out]; rfl)), 0, rfl⟩
  · have I1 := Lib.hid h1
    have I3 := Lib.hid h3
    have I4 := Lib.hid h4
    rw [size_list] at h2
    clear h1 h3 h4
    go_enter Tryd.func53, Tryd.ntmps53
    go_wp2_with (go_at_call 70; refine (Tryd.stringslite_Index_one s 46 _).mono ?_; rw [I1.out]; rintro e w' ⟨rfl, rfl⟩)
    go_quiet (fail)
    go_wp2
    obtain rfl : hp = true := by rw [← HH.out, I4.out]; rfl
    refine bodyPost_ret (v := .tuple #[.string (s.extract 0 k), .string (s.extract (k + 1) s.size), .bool true]) (by simp [results, Tryd.results53, go_sem]) rfl ?_
    refine ⟨ret_three (ba_of ?_) (ba_of ?_), nq, rfl⟩
    · rw [HW.out, I3.out, ext_list]; simp
    · rw [HF.out, I4.out, ext_list]; simp [List.take_of_length_le]
set_option maxHeartbeats 1000000 in
theorem cut_any (s wh fr : ByteArray) (hp : Bool) (hw : wh.data.toList = cutW s.data.toList) (hf : fr.data.toList = (cutP s.data.toList).tail) (hh : (!(cutP s.data.toList).isEmpty) = hp) (hs : s.size ≤ 65536) (w : World) :
    Calls Tryd.prog 32 #[.string s, .string ⟨#[46]⟩] w fun e w' => e = .returned (.tuple #[.string wh, .string fr, .bool hp]) ∧ Below w.heap.size w w' := by
  have HC := Lib.hid (cut_in s wh fr hp hw hf hh hs)
  clear hw hf hh
  go_enter Tryd.func32, Tryd.ntmps32
  go_wp2_with (go_at_call 53; refine (HC.out _).mono ?_; rintro e w' ⟨rfl, q, rfl⟩)
  refine bodyPost_ret (v := .tuple #[.string wh, .string fr, .bool hp]) (by simp [results, Tryd.results32, go_sem]) rfl ⟨rfl, below_drewN _ q⟩
theorem repeat_at (c : Nat) (z : ByteArray) (hz : z.data.toList = List.replicate c 48) (hc : c ≤ 3) (w : World) :
    Calls Tryd.prog 36 #[.string ⟨#[48]⟩, .int .i64 c] w fun e w' => e = .returned (.string z) ∧ Below w.heap.size w w' := by
  have h := Tryd.strings_Repeat ⟨#[48]⟩ c w (by omega) (by rw [show (⟨#[48]⟩ : ByteArray).size = 1 from rfl]; omega)
  have e : (⟨(Lib.repeatL (⟨#[48]⟩ : ByteArray).data.toList c).toArray⟩ : ByteArray) = z := by
    refine ba_of ?_
    rw [hz]
    show Lib.repeatL [48] c = List.replicate c 48
    clear hc hz h
    induction c with
    | zero => rfl
    | succ c ih => rw [Lib.repeatL, ih]; rfl
  rwa [e] at h
theorem suffix_at (s num : ByteArray) (hu : Bool) (h1 : num.data.toList = Lib.trimSuffix s.data.toList [112, 116]) (h2 : Lib.hasSuffix s.data.toList [112, 116] = hu) (hs : s.size ≤ 65536) (w : World) :
    Calls Tryd.prog 30 #[.string s, .string ⟨#[112, 116]⟩] w fun e w' => e = .returned (.tuple #[.string num, .bool hu]) ∧ w = w' := by
  obtain rfl : num = ⟨(Lib.trimSuffix s.data.toList [112, 116]).toArray⟩ := ba_of h1
  subst h2
  exact (Tryd.strings_CutSuffix s ⟨#[112, 116]⟩ w (by omega)).mono fun e w' ⟨h, h'⟩ => ⟨h, h'.symm⟩
theorem prefix_at (s amt : ByteArray) (ng : Bool) (h1 : amt.data.toList = amtOf s.data.toList) (h2 : isNeg s.data.toList = ng) (w : World) :
    Calls Tryd.prog 31 #[.string s, .string ⟨#[45]⟩] w fun e w' => e = .returned (.tuple #[.string amt, .bool ng]) ∧ w = w' := by
  obtain rfl : amt = ⟨(amtOf s.data.toList).toArray⟩ := ba_of h1
  subst h2
  exact (Tryd.strings_CutPrefix s ⟨#[45]⟩ w).mono fun e w' ⟨h, h'⟩ => ⟨h, h'.symm⟩
theorem whole_at (s : ByteArray) (l : List UInt8) (r : Bool) (hl : s.data.toList = l) (h : wholeB l = r) (hs : s.size ≤ 65536) (w : World) :
    Calls Tryd.prog 33 #[.string s] w fun e w' => e = .returned (.bool r) ∧ Below w.heap.size w w' := by
  subst hl h; exact whole_any s (by unfold maxLen; omega) w
theorem frac_at (s : ByteArray) (l : List UInt8) (r : Bool) (hl : s.data.toList = l) (h : fracB l = r) (hs : s.size ≤ 65536) (w : World) :
    Calls Tryd.prog 34 #[.string s] w fun e w' => e = .returned (.bool r) ∧ Below w.heap.size w w' := by
  subst hl h; exact frac_any s (by unfold maxLen; omega) w
def BigPost (w : World) (e : Ending) (w' : World) : Prop := ∃ r : Int, e = .returned (.int .i64 r) ∧ 1073741824 < r ∧ r ≤ 10737418495 ∧ Below w.heap.size w w'
theorem digits_big (s : ByteArray) (l : List UInt8) (hl : s.data.toList = l) (hd : allDig l = true) (hv : 1073741824 < numV l) (hs : s.size ≤ 1000000) (w : World) :
    Calls Tryd.prog 35 #[.string s] w (BigPost w) := by
  subst hl
  exact (digits_any s (by unfold maxLen; omega) hd w).mono fun e w' ⟨r, h1, h2, h3, h4, h5, h6⟩ => ⟨r, h1, h5 hv, h3, h6⟩
theorem digits_fit (s : ByteArray) (l : List UInt8) (v : Int) (hl : s.data.toList = l) (hd : allDig l = true) (hv : numV l = v) (hb : v ≤ 1073741824) (hs : s.size ≤ 1000000) (w : World) :
    Calls Tryd.prog 35 #[.string s] w fun e w' => e = .returned (.int .i64 v) ∧ Below w.heap.size w w' := by
  subst hl hv
  exact (digits_any s (by unfold maxLen; omega) hd w).mono fun e w' ⟨r, h1, h2, h3, h4, h5, h6⟩ => ⟨by rw [h1, h4 hb], h6⟩
end Go.Proofs.YtkiaiiepfphllaaDoor
