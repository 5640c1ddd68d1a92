/- slices.Compare of lists of strings. -/
import Derived.Test.YtbdeakodmhcgdaaEdComm
namespace Go.Proofs.Ytbdeakodmhcgdaa
set_option linter.unusedSimpArgs false
set_option linter.unusedVariables false
set_option maxRecDepth 100000
open Go.RowKit Go.Deep

set_option maxHeartbeats 1000000 in
theorem isNaN_any (a : ByteArray) (w : World) : Calls Try.prog 82 #[.string a] w fun e w' => e = .returned (.bool false) ∧ w = w' := by
  go_enter Try.func82, Try.ntmps82
  go_wp2
  go_ret
  exact ⟨ret_bool (by simp), rfl⟩
set_option maxHeartbeats 1000000 in
theorem cmpS_any (a b : ByteArray) (z : Int) (hz : cmpB a.data.toList b.data.toList = z) (w : World) :
    Calls Try.prog 69 #[.string a, .string b] w fun e w' => e = .returned (.int .i64 z) ∧ w = w' := by
  cases hl : Op.bytesLess a.toList b.toList with
  | true =>
    obtain rfl : -1 = z := by rw [← hz]; exact cmpB_of_less hl
    clear hz
    go_enter Try.func69, Try.ntmps69
    go_wp2_with fail
    refine (isNaN_any _ _).mono ?_
    rintro e w1 ⟨rfl, rfl⟩
    go_wp2_with fail
    refine (isNaN_any _ _).mono ?_
    rintro e w1 ⟨rfl, rfl⟩
    go_wp2
    go_ret
    exact ⟨rfl, rfl⟩
  | false =>
    cases he : (a.toList == b.toList) with
    | true =>
      obtain rfl : 0 = z := by rw [← hz]; exact cmpB_of_same (by rw [he]; rfl)
      clear hz
      go_enter Try.func69, Try.ntmps69
      go_wp2_with fail
      refine (isNaN_any _ _).mono ?_
      rintro e w1 ⟨rfl, rfl⟩
      go_wp2_with fail
      refine (isNaN_any _ _).mono ?_
      rintro e w1 ⟨rfl, rfl⟩
      go_wp2
      go_ret
      exact ⟨rfl, rfl⟩
    | false =>
      obtain rfl : 1 = z := by rw [← hz]; exact cmpB_of_more hl (by rw [he]; rfl)
      clear hz
      go_enter Try.func69, Try.ntmps69
      go_wp2_with fail
      refine (isNaN_any _ _).mono ?_
      rintro e w1 ⟨rfl, rfl⟩
      go_wp2_with fail
      refine (isNaN_any _ _).mono ?_
      rintro e w1 ⟨rfl, rfl⟩
      go_wp2
      go_ret
      exact ⟨rfl, rfl⟩

theorem llt_head2 {x y : ByteArray} {a b : List ByteArray} (z : Int) (hz : cmpB x.data.toList y.data.toList = z) : llt ltB (x :: a) (y :: b) = if z = 0 then llt ltB a b else decide (z < 0) := by
  rw [llt, ltB, hz]
  by_cases e : z = 0
  · have e2 := ba_same (cmpB_zero _ _ (hz.trans e))
    subst e2
    rw [if_pos e]; simp [e]
  · rw [if_neg e]
    have : x ≠ y := fun h => by subst h; rw [cmpB_refl] at hz; exact e hz.symm
    simp [this]
theorem llt_split (xs ys : List ByteArray) (k : Nat) (ht : xs.take k = ys.take k) : llt ltB xs ys = llt ltB (xs.drop k) (ys.drop k) := by
  conv => lhs; rw [← List.take_append_drop k xs, ← List.take_append_drop k ys, ← ht, llt_pre]
def CmpPost (b : Bool) (w : World) (e : Ending) (w' : World) : Prop := ∃ z : Int, e = .returned (.int .i64 z) ∧ decide (z < 0) = b ∧ Below w.heap.size w w'

set_option maxHeartbeats 4000000 in
theorem compareL_any (xs ys : List ByteArray) (vx vy : Value) (w : World) (hx : StrsAt w vx xs) (hy : StrsAt w vy ys) (lx : xs.length ≤ 1000000) (ly : ys.length ≤ 1000000) :
    Calls Try.prog 35 #[vx, vy] w (CmpPost (llt ltB xs ys) w) := by
  obtain ⟨ax, cx, rfl, hcx⟩ := hx
  obtain ⟨ay, cy, rfl, hcy⟩ := hy
  have HX := Lib.hid hcx
  have HY := Lib.hid hcy
  clear hcx hcy
  go_enter Try.func35, Try.ntmps35
  go_wp2
  go_loopw [5, 6, 7, 8, 11] (fun _ _ _ _ i wr => ∃ k : Nat, k ≤ xs.length ∧ i = .int .i64 k ∧ k ≤ ys.length ∧ xs.take k = ys.take k ∧ Below w.heap.size w wr) (fun _ _ _ _ i _ => xs.length - (intOf i).toNat)
  case atStart => exact ⟨0, Nat.zero_le _, rfl, Nat.zero_le _, rfl, Below.refl _ _⟩
  case round =>
    obtain ⟨k, hk, rfl, hky, ht, hB⟩ := hrel
    have HB := Lib.hid hB
    have HT := Lib.hid ht
    have HSP := Lib.hid (llt_split xs ys k ht)
    clear ht
    by_cases hlt : k < xs.length
    · obtain ⟨bx, ox, rfl, hbx, hcx⟩ := HX.out (by omega)
      have cx0 := (hB.cell (p := ⟨bx, ox + k, none⟩) hbx).trans (hcx k hlt)
      clear hcx
      by_cases hly : k < ys.length
      · obtain ⟨bY, oY, rfl, hbY, hcY⟩ := HY.out (by omega)
        have cy0 := (hB.cell (p := ⟨bY, oY + k, none⟩) hbY).trans (hcY k hly)
        obtain ⟨z, hz⟩ : ∃ z, cmpB xs[k].data.toList ys[k].data.toList = z := ⟨_, rfl⟩
        have CC := Lib.hid (cmpS_any xs[k] ys[k] z hz)
        have hll := HSP.out
        rw [List.drop_eq_getElem_cons hlt, List.drop_eq_getElem_cons hly, llt_head2 z hz] at hll
        have HLL := Lib.hid hll
        have hsame : z = 0 → xs.take (k + 1) = ys.take (k + 1) := fun e => by
          have := ba_same (cmpB_zero _ _ (hz.trans e))
          rw [List.take_succ_eq_append_getElem hlt, List.take_succ_eq_append_getElem hly, HT.out, this]
        have HSA := Lib.hid hsame
        obtain ⟨x, hxx⟩ : ∃ x, xs[k] = x := ⟨_, rfl⟩
        obtain ⟨y, hyy⟩ : ∃ x, ys[k] = x := ⟨_, rfl⟩
        rw [hxx] at cx0 CC
        rw [hyy] at cy0 CC
        clear hcY hz hll hsame hxx hyy
        go_wp2_with fail
        refine (CC.out _).mono ?_
        rintro e w1 ⟨rfl, rfl⟩
        by_cases hz0 : z = 0
        · subst hz0
          have HS2 := Lib.hid (HSA.out rfl)
          go_wp2
          go_roundw
          case rel => exact ⟨k + 1, by omega, by go_num, by omega, HS2.out, hB⟩
          case measure => simp [intOf]; omega
        · have hzb : (z == 0) = false := by simp [hz0]
          go_wp2
          go_ret
          exact ⟨_, rfl, by rw [HLL.out, if_neg hz0], hB⟩
      · have hF : llt ltB xs ys = false := by
          rw [HSP.out, show ys.drop k = [] from List.drop_eq_nil_of_le (by omega), llt]
        have HF := Lib.hid hF
        have hge : (ys.length : Int) ≤ (k : Int) := by omega
        clear hF
        go_wp2
        go_ret
        exact ⟨_, rfl, by rw [HF.out]; rfl, hB⟩
    · obtain rfl : k = xs.length := by omega
      have hF : llt ltB xs ys = decide (xs.length < ys.length) := by
        rw [HSP.out, show xs.drop xs.length = [] from List.drop_length]
        by_cases h : xs.length < ys.length
        · rw [List.drop_eq_getElem_cons h, llt, decide_eq_true h]
        · rw [show ys.drop xs.length = [] from List.drop_eq_nil_of_le (by omega), llt, decide_eq_false h]
      have HF := Lib.hid hF
      clear hF
      by_cases h : (xs.length : Int) < (ys.length : Int)
      · go_wp2
        go_ret
        exact ⟨_, rfl, by rw [HF.out, decide_eq_true (by omega : xs.length < ys.length)]; rfl, hB⟩
      · go_wp2
        go_ret
        exact ⟨_, rfl, by rw [HF.out, decide_eq_false (by omega : ¬ xs.length < ys.length)]; rfl, hB⟩
end Go.Proofs.Ytbdeakodmhcgdaa
