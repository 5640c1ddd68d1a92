/- The walk of EditdistanceApplied. -/
import Derived.Test.YtbdeakodmhcgdaaEdScripts
namespace Go.Proofs.Ytbdeakodmhcgdaa
set_option linter.unusedSimpArgs false
set_option linter.unusedVariables false
set_option maxRecDepth 100000
open Go.RowKit Go.Deep

/-- has an edit a text that is too long -/
def longE (es : List EdV) : Bool := es.any fun e => decide (8 < e.text.size)
def IdxP (b : Bool) (w : World) (e : Ending) (w' : World) : Prop := ∃ r : Int, e = .returned (.int .i64 r) ∧ decide (0 ≤ r) = b ∧ Below w.heap.size w w'
theorem longE_step (es : List EdV) (k : Nat) (h : k < es.length) : longE (es.take (k + 1)) = (longE (es.take k) || decide (8 < es[k].text.size)) := by
  rw [List.take_succ_eq_append_getElem h, longE, List.any_append]; simp [longE]
theorem longE_more (es : List EdV) (k : Nat) (h : longE (es.take k) = true) : longE es = true := by
  rw [longE, List.any_eq_true] at h ⊢
  obtain ⟨x, hx, hx2⟩ := h
  exact ⟨x, List.mem_of_mem_take hx, hx2⟩

set_option maxHeartbeats 1000000 in
theorem longA_any (e : EdV) (r : Bool) (hr : decide (8 < e.text.size) = r) (w : World) :
    Calls Try.prog 33 #[edV e] w fun en w' => en = .returned (.bool r) ∧ Below w.heap.size w w' := by
  have hB := (Below.refl w.heap.size w).alloc (Nat.le_refl _) (.cells #[.int .i64 e.place, .int .i64 e.len, .string e.text] 38)
  have HB := Lib.hid hB
  have hri : decide ((8 : Int) < (e.text.size : Int)) = r := by rw [← hr]; apply decide_eq_decide.2; omega
  clear hB hr
  go_enter Try.func33, Try.ntmps33
  go_wp2
  go_ret
  exact ⟨ret_bool (by first | exact hri | (rw [← hri])), HB.out⟩

set_option maxHeartbeats 2000000 in
theorem indexA_any (es : List EdV) (v : Value) (w : World) (hv : EditsAt w v es) (hl : es.length ≤ maxLen) :
    Calls Try.prog 56 #[v, .func (.func 33) #[] #[]] w (IdxP (longE es) w) := by
  unfold maxLen at hl
  obtain ⟨ax, cx, rfl, hcx⟩ := hv
  have HX := Lib.hid hcx
  clear hcx
  go_enter Try.func56, Try.ntmps56
  go_wp2
  go_loopw [5, 8] (fun _ i wr => ∃ k : Nat, k ≤ es.length ∧ i = .int .i64 k ∧ longE (es.take k) = false ∧ Below w.heap.size w wr) (fun _ i _ => es.length - (intOf i).toNat)
  case atStart => exact ⟨0, Nat.zero_le _, rfl, rfl, Below.refl _ _⟩
  case round =>
    obtain ⟨k, hk, rfl, hs, hB⟩ := hrel
    have HL := Lib.hid hs
    have HB := Lib.hid hB
    clear hs
    by_cases hlt : k < es.length
    · obtain ⟨bx, ox, rfl, hbx, hcx⟩ := HX.out (by omega)
      obtain ⟨q1, q2, q3⟩ := hcx k hlt
      have c1 := (hB.cell (p := ⟨bx, ox + k * 3, none⟩) hbx).trans q1
      have c2 := (hB.cell (p := ⟨bx, ox + k * 3 + 1, none⟩) hbx).trans q2
      have c3 := (hB.cell (p := ⟨bx, ox + k * 3 + 2, none⟩) hbx).trans q3
      have hst := longE_step es k hlt
      rw [HL.out, Bool.false_or] at hst
      obtain ⟨e, he⟩ : ∃ e, es[k] = e := ⟨_, rfl⟩
      rw [he] at c1 c2 c3 hst
      obtain ⟨r, hr⟩ : ∃ r, decide (8 < e.text.size) = r := ⟨_, rfl⟩
      have CL := Lib.hid (longA_any e r hr)
      rw [hr] at hst
      have HST := Lib.hid hst
      clear hcx q1 q2 q3 he hst hr hB
      go_wp2_with fail
      refine (CL.out _).mono ?_
      rintro en w1 ⟨rfl, b1⟩
      have B1 := Lib.hid (below_seq HB.out b1 HB.out.size)
      clear b1
      cases r with
      | true =>
        go_wp2
        go_ret
        exact ⟨_, rfl, by rw [longE_more es (k + 1) HST.out]; simp, B1.out⟩
      | false =>
        go_wp2
        go_roundw
        case rel => exact ⟨k + 1, by omega, by go_num, HST.out, B1.out⟩
        case measure => simp [intOf]; omega
    · obtain rfl : k = es.length := by omega
      have hL := HL.out
      rw [List.take_length] at hL
      have HL2 := Lib.hid hL
      clear hL
      go_wp2
      go_ret
      exact ⟨_, rfl, by rw [HL2.out]; rfl, hB⟩

set_option maxHeartbeats 1000000 in
theorem containsA_any (es : List EdV) (r : Bool) (hr : longE es = r) (v : Value) (w : World) (hv : EditsAt w v es) (hl : es.length ≤ maxLen) :
    Calls Try.prog 24 #[v, .func (.func 33) #[] #[]] w fun e w' => e = .returned (.bool r) ∧ Below w.heap.size w w' := by
  have HI := Lib.hid (indexA_any es v w hv hl)
  rw [hr] at HI
  obtain ⟨ax, cx, rfl, _⟩ := hv
  go_enter Try.func24, Try.ntmps24
  go_wp2_with fail
  refine HI.out.mono ?_
  rintro e w1 ⟨z, rfl, hz, b1⟩
  have B1 := Lib.hid b1
  have HZ := Lib.hid hz
  clear b1 hz HI
  go_wp2
  go_ret
  exact ⟨ret_bool HZ.out, B1.out⟩

set_option maxHeartbeats 1000000 in
theorem longL_any (e : EdV) (r : Bool) (hr : decide (8 < e.text.size) = r) (w : World) :
    Calls Try.prog 25 #[edV e] w fun en w' => en = .returned (.bool r) ∧ Below w.heap.size w w' := by
  have hB := (Below.refl w.heap.size w).alloc (Nat.le_refl _) (.cells #[.int .i64 e.place, .int .i64 e.len, .string e.text] 38)
  have HB := Lib.hid hB
  have hri : decide ((8 : Int) < (e.text.size : Int)) = r := by rw [← hr]; apply decide_eq_decide.2; omega
  clear hB hr
  go_enter Try.func25, Try.ntmps25
  go_wp2
  go_ret
  exact ⟨ret_bool (by first | exact hri | (rw [← hri])), HB.out⟩

set_option maxHeartbeats 2000000 in
theorem indexL_any (es : List EdV) (v : Value) (w : World) (hv : EditsAt w v es) (hl : es.length ≤ maxLen) :
    Calls Try.prog 56 #[v, .func (.func 25) #[] #[]] w (IdxP (longE es) w) := by
  unfold maxLen at hl
  obtain ⟨ax, cx, rfl, hcx⟩ := hv
  have HX := Lib.hid hcx
  clear hcx
  go_enter Try.func56, Try.ntmps56
  go_wp2
  go_loopw [5, 8] (fun _ i wr => ∃ k : Nat, k ≤ es.length ∧ i = .int .i64 k ∧ longE (es.take k) = false ∧ Below w.heap.size w wr) (fun _ i _ => es.length - (intOf i).toNat)
  case atStart => exact ⟨0, Nat.zero_le _, rfl, rfl, Below.refl _ _⟩
  case round =>
    obtain ⟨k, hk, rfl, hs, hB⟩ := hrel
    have HL := Lib.hid hs
    have HB := Lib.hid hB
    clear hs
    by_cases hlt : k < es.length
    · obtain ⟨bx, ox, rfl, hbx, hcx⟩ := HX.out (by omega)
      obtain ⟨q1, q2, q3⟩ := hcx k hlt
      have c1 := (hB.cell (p := ⟨bx, ox + k * 3, none⟩) hbx).trans q1
      have c2 := (hB.cell (p := ⟨bx, ox + k * 3 + 1, none⟩) hbx).trans q2
      have c3 := (hB.cell (p := ⟨bx, ox + k * 3 + 2, none⟩) hbx).trans q3
      have hst := longE_step es k hlt
      rw [HL.out, Bool.false_or] at hst
      obtain ⟨e, he⟩ : ∃ e, es[k] = e := ⟨_, rfl⟩
      rw [he] at c1 c2 c3 hst
      obtain ⟨r, hr⟩ : ∃ r, decide (8 < e.text.size) = r := ⟨_, rfl⟩
      have CL := Lib.hid (longL_any e r hr)
      rw [hr] at hst
      have HST := Lib.hid hst
      clear hcx q1 q2 q3 he hst hr hB
      go_wp2_with fail
      refine (CL.out _).mono ?_
      rintro en w1 ⟨rfl, b1⟩
      have B1 := Lib.hid (below_seq HB.out b1 HB.out.size)
      clear b1
      cases r with
      | true =>
        go_wp2
        go_ret
        exact ⟨_, rfl, by rw [longE_more es (k + 1) HST.out]; simp, B1.out⟩
      | false =>
        go_wp2
        go_roundw
        case rel => exact ⟨k + 1, by omega, by go_num, HST.out, B1.out⟩
        case measure => simp [intOf]; omega
    · obtain rfl : k = es.length := by omega
      have hL := HL.out
      rw [List.take_length] at hL
      have HL2 := Lib.hid hL
      clear hL
      go_wp2
      go_ret
      exact ⟨_, rfl, by rw [HL2.out]; rfl, hB⟩

set_option maxHeartbeats 1000000 in
theorem containsL_any (es : List EdV) (r : Bool) (hr : longE es = r) (v : Value) (w : World) (hv : EditsAt w v es) (hl : es.length ≤ maxLen) :
    Calls Try.prog 24 #[v, .func (.func 25) #[] #[]] w fun e w' => e = .returned (.bool r) ∧ Below w.heap.size w w' := by
  have HI := Lib.hid (indexL_any es v w hv hl)
  rw [hr] at HI
  obtain ⟨ax, cx, rfl, _⟩ := hv
  go_enter Try.func24, Try.ntmps24
  go_wp2_with fail
  refine HI.out.mono ?_
  rintro e w1 ⟨z, rfl, hz, b1⟩
  have B1 := Lib.hid b1
  have HZ := Lib.hid hz
  clear b1 hz HI
  go_wp2
  go_ret
  exact ⟨ret_bool HZ.out, B1.out⟩
end Go.Proofs.Ytbdeakodmhcgdaa
