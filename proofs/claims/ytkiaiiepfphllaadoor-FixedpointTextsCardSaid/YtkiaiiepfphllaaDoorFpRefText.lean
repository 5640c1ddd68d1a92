/- Plain mathematics of the reference's way to read the text of a length: digits first, then the rest. Nothing here runs the program. -/
import Derived.Test.YtkiaiiepfphllaaDoorFpRefPrint
namespace Go.Proofs.YtkiaiiepfphllaaDoor
set_option linter.unusedSimpArgs false
set_option linter.unusedVariables false

/-- the rest behind the digits begins with no digit -/
def NoDig (R : List UInt8) : Prop := R = [] ∨ ∃ c f, R = c :: f ∧ digI (c.toNat : Int) = false
theorem dig_take {D R : List UInt8} (hd : allDig D = true) (hr : NoDig R) : (D ++ R).takeWhile (fun c => digI (c.toNat : Int)) = D := by
  rw [List.takeWhile_append_of_pos (fun c hc => by rw [allDig, List.all_eq_true] at hd; exact hd c hc)]
  rcases hr with rfl | ⟨c, f, rfl, h⟩
  · simp
  · rw [List.takeWhile_cons, if_neg (by rw [h]; simp), List.append_nil]
theorem dig_uniq {D R D' R' : List UInt8} (h : D ++ R = D' ++ R') (hd : allDig D = true) (hr : NoDig R) (hd' : allDig D' = true) (hr' : NoDig R') : D = D' ∧ R = R' := by
  have e : D = D' := by rw [← dig_take hd hr, h, dig_take hd' hr']
  subst e
  exact ⟨rfl, List.append_cancel_left h⟩
theorem nodig_cutP (a : List UInt8) : NoDig (cutP a) := by
  rcases cutP_form a with h | ⟨f, h⟩
  · exact .inl h
  · exact .inr ⟨46, f, h, by decide⟩
theorem form_parts {a D R : List UInt8} (h : a = D ++ R) (hd : allDig D = true) (hr : NoDig R) :
    (wholeB (cutW a) && ((cutP a).isEmpty || fracB (cutP a).tail)) = true ↔ wholeB D = true ∧ (R = [] ∨ ∃ f, R = 46 :: f ∧ fracB f = true) := by
  rw [Bool.and_eq_true]
  constructor
  · rintro ⟨h1, h2⟩
    have hw := ((wholeB_iff _).1 h1).2.1
    obtain ⟨e1, e2⟩ := dig_uniq ((cut_split a).symm.trans h) hw (nodig_cutP a) hd hr
    rw [e1] at h1
    rw [← e2]
    refine ⟨h1, ?_⟩
    rcases cutP_form a with e | ⟨f, e⟩
    · exact .inl e
    · right
      rw [e] at h2 ⊢
      exact ⟨f, rfl, by simpa using h2⟩
  · rintro ⟨h1, h2⟩
    have hc := cut_dig (w := D) (p := R) hd (by rcases h2 with h2 | ⟨f, h2, _⟩; exact .inl h2; exact .inr ⟨f, h2⟩)
    rw [h, hc.1, hc.2]
    refine ⟨h1, ?_⟩
    rcases h2 with rfl | ⟨f, rfl, h2⟩
    · rfl
    · simp [h2]
theorem form_not {b a D R : List UInt8} (hb : amtOf b = a) (h : a = D ++ R) (hd : allDig D = true) (hr : NoDig R) (hno : ¬ (wholeB D = true ∧ (R = [] ∨ ∃ f, R = 46 :: f ∧ fracB f = true))) : formB b = false := by
  have := mt (form_parts h hd hr).1 hno
  rw [formB, hb, Bool.eq_false_iff]
  intro h2
  rw [Bool.and_eq_true] at h2
  exact this h2.1
theorem parse_form {l b : List UInt8} (hl : l = b ++ [112, 116]) (h : l.length ≤ 65536) : parseR l = if formB b then signed (isNeg b) (valZ' (amtOf b)) else (0, 3) := by
  rw [parseR, if_neg (by omega), hl, (suffix_pt b).1, (suffix_pt b).2, Bool.true_and]
theorem parse_no {l b : List UInt8} (hl : l = b ++ [112, 116]) (h : l.length ≤ 65536) (hf : formB b = false) : parseR l = (0, 3) := by
  rw [parse_form hl h, if_neg (by rw [hf]; simp)]
theorem parse_short {l : List UInt8} (h : l.length < 3) : parseR l = (0, 3) := by
  by_cases hs : Lib.hasSuffix l [112, 116] = true
  · have e := suffix_of hs
    have hb : Lib.trimSuffix l [112, 116] = [] := by
      have := congrArg List.length e
      simp only [List.length_append, List.length_cons, List.length_nil] at this
      exact List.length_eq_zero_iff.1 (by omega)
    rw [hb] at e
    rw [parse_form e (by omega), if_neg]
    decide
  · rw [parseR, if_neg (by omega), if_neg (by rw [Bool.and_eq_true]; exact fun h => hs h.1)]
theorem parse_unit {l : List UInt8} (h : l.length ≤ 65536) (hs : Lib.hasSuffix l [112, 116] = false) : parseR l = (0, 3) := by
  rw [parseR, if_neg (by omega), if_neg (by rw [hs]; simp)]
theorem amt_zero : amtT 0 = [48] := by rw [amtT, show 0 / 1000 = 0 from rfl, show 0 % 1000 = 0 from rfl, dd_small (by decide), fracT, if_pos rfl]; rfl
/-- what the reference computes, and what it answers then -/
theorem parse_fin {l b a D R : List UInt8} (ng : Bool) (out : Int) (hl : l = b ++ [112, 116]) (h : l.length ≤ 65536) (hb : amtOf b = a) (hn : isNeg b = ng) (ha : a = D ++ R) (hd : allDig D = true) (hw : wholeB D = true) (hr : R = [] ∨ ∃ f, R = 46 :: f ∧ fracB f = true)
    (ho : out = min (numV D) 2147483648 * 1000 + numV (pad3 R.tail)) :
    0 ≤ out ∧ (ng = true → out = 0 → parseR l = (0, 3)) ∧ (ng = false ∨ 0 < out → (1073741824 < out → parseR l = (0, 2)) ∧ (out ≤ 1073741824 → parseR l = (if ng then -out else out, 0))) := by
  have hnd : NoDig R := by
    rcases hr with h | ⟨f, h, _⟩
    · exact .inl h
    · exact .inr ⟨46, f, h, by decide⟩
  have hfl : R.tail.length ≤ 3 ∧ allDig R.tail = true := by
    rcases hr with rfl | ⟨f, rfl, h2⟩
    · exact ⟨by simp, rfl⟩
    · have := (fracB_iff f).1 h2; exact ⟨this.2.1, this.2.2.1⟩
  have hfp := (form_parts ha hd hnd).2 ⟨hw, hr⟩
  have hc := cut_dig (w := D) (p := R) hd (by rcases hr with h2 | ⟨f, h2, _⟩; exact .inl h2; exact .inr ⟨f, h2⟩)
  have hv : valZ' a = numV D * 1000 + numV (pad3 R.tail) := by rw [valZ', ha, hc.1, hc.2, numV_three _ (pad3_len hfl.1)]
  have h0 := numV_nonneg hd
  have hy := numV_three_bd (pad3_len hfl.1) (allDig_pad hfl.2)
  have hz : valZ' a = 0 ↔ a = [48] := by
    constructor
    · intro e
      have hna : isNeg a = false ∧ amtOf a = a := neg_not (by
        obtain ⟨hne, hdg, _⟩ := (wholeB_iff D).1 hw
        obtain ⟨x, t, e⟩ := List.exists_cons_of_ne_nil hne
        rw [ha, e]
        rw [e, allDig, List.all_cons, Bool.and_eq_true] at hdg
        have := (dig_ne hdg.1).2
        simpa using this)
      have hf : formB a = true := by rw [formB, hna.2, hna.1, hfp]; rfl
      have := (form_back hf).2.1
      rw [hna.2, e, show Int.toNat 0 = 0 from rfl, amt_zero] at this
      exact this.symm
    · intro e; rw [e]; decide
  have hform : formB b = !(ng && a == [48]) := by rw [formB, hb, hn, hfp, Bool.true_and]
  rw [parse_form hl h, hb, hn, hform, hv]
  rw [hv] at hz
  refine ⟨by omega, fun e1 e2 => ?_, fun e1 => ⟨fun e2 => ?_, fun e2 => ?_⟩⟩
  · have : a = [48] := hz.1 (by omega)
    rw [this, e1]; rfl
  · have hg : (!(ng && a == [48])) = true := by
      rcases e1 with e1 | e1
      · rw [e1]; rfl
      · have : a ≠ [48] := fun e => by have := hz.2 e; omega
        simp [this]
    rw [hg, if_pos rfl, signed, if_pos (by omega)]
  · have hg : (!(ng && a == [48])) = true := by
      rcases e1 with e1 | e1
      · rw [e1]; rfl
      · have : a ≠ [48] := fun e => by have := hz.2 e; omega
        simp [this]
    rw [hg, if_pos rfl, signed, if_neg (by omega), show numV D * 1000 + numV (pad3 R.tail) = out by omega]
theorem numV_few {l : List UInt8} (h : l.length ≤ 3) (hd : allDig l = true) : 0 ≤ numV l ∧ numV l ≤ 999 := by
  refine ⟨numV_nonneg hd, ?_⟩
  match l, h, hd with
  | [], _, _ => decide
  | [x], _, hd =>
    simp only [allDig, List.all_cons, List.all_nil, Bool.and_true] at hd
    have := digI_bd hd
    simp only [numV, List.foldl_cons, List.foldl_nil]; omega
  | [x, y], _, hd =>
    simp only [allDig, List.all_cons, List.all_nil, Bool.and_true, Bool.and_eq_true] at hd
    have := digI_bd hd.1
    have := digI_bd hd.2
    simp only [numV, List.foldl_cons, List.foldl_nil]; omega
  | [x, y, z], _, hd => exact (numV_three_bd rfl hd).2
theorem min_step {N d : Int} (h : 0 ≤ N) (hd : 0 ≤ d) : min (min N 2147483648 * 10 + d) 2147483648 = min (10 * N + d) 2147483648 := by omega
end Go.Proofs.YtkiaiiepfphllaaDoor
