/- The walk of the statement CharsetKinds. -/
import Derived.Test.YtelpgjlcagbcjaaRefs
namespace Go.Proofs.Ytelpgjlcagbcjaa
set_option linter.unusedSimpArgs false
set_option linter.unusedVariables false
open Go.RowKit

theorem refKind_at (c r : Int) (h : kindI c = r) (w : World) : Calls Try.prog 13 #[.int .u8 c] w fun e w' => e = .returned (.int .i64 r) ∧ w = w' := by
  subst h; exact refKind_any c w
theorem refName_at (s : ByteArray) (r : Bool) (h : nameB s.data.toList = r) (hs : s.size ≤ maxLen) (w : World) : Calls Try.prog 19 #[.string s] w fun e w' => e = .returned (.bool r) ∧ Below w.heap.size w w' := by
  subst h; exact refName_any s hs w

set_option maxHeartbeats 1000000 in
theorem kinds_any (c : Int) (s : ByteArray) (_hc : (Lit.int .u8 c).wf = true) (hs : s.size ≤ maxLen) (w : World) :
    Calls Try.prog 3 #[.int .u8 c, .string s] w fun e w' => e = .returned (.bool true) ∧ Below w.heap.size w w' := by
  obtain ⟨gb, hgb⟩ : ∃ b, greatB s.size = b := ⟨_, rfl⟩
  obtain ⟨k, hk⟩ : ∃ k, kindI c = k := ⟨_, rfl⟩
  obtain ⟨r, hr⟩ : ∃ r, chk s.data.toList = r := ⟨_, rfl⟩
  obtain ⟨wb, hw⟩ : ∃ b, wordB s.data.toList = b := ⟨_, rfl⟩
  obtain ⟨nb, hn⟩ : ∃ b, nameB s.data.toList = b := ⟨_, rfl⟩
  have HG := Lib.hid hgb
  have HK := Lib.hid hk
  have HR := Lib.hid hr
  have HW := Lib.hid hw
  have HN := Lib.hid hn
  clear hgb hk hr hw hn
  go_enter Try.func3, Try.ntmps3
  go_wp2_with fail
  refine (great_any s gb HG.out _).mono ?_
  rintro e w1 ⟨rfl, rfl⟩
  cases gb with
  | true =>
    go_wp2_with fail
    refine (awake_any _).mono ?_
    rintro e w2 ⟨rfl, h2⟩
    go_wp2
    go_ret
    exact ⟨rfl, h2⟩
  | false =>
    go_wp2_with fail
    refine (kind_at c k HK.out _).mono ?_
    rintro e w2 ⟨rfl, rfl⟩
    go_wp2_with fail
    refine (refKind_at c k HK.out _).mono ?_
    rintro e w3 ⟨rfl, rfl⟩
    go_wp2_with fail
    refine (check_at s r HR.out hs _).mono ?_
    rintro e w4 ⟨rfl, h4⟩
    go_wp2_with fail
    refine (refCheck_at s r HR.out hs _).mono ?_
    rintro e w5 ⟨rfl, h5⟩
    have B5 := below_seq h4 h5 (Nat.le_refl _)
    clear h4 h5
    go_wp2_with fail
    refine (word_at s wb HW.out _).mono ?_
    rintro e w6 ⟨rfl, h6⟩
    go_wp2_with fail
    refine (refWord_at s wb HW.out _).mono ?_
    rintro e w7 ⟨rfl, h7⟩
    have B7 := below_seq (below_seq B5 h6 (Nat.le_refl _)) h7 (Nat.le_refl _)
    clear h6 h7 B5
    go_wp2_with fail
    refine (name_at s nb HN.out hs _).mono ?_
    rintro e w8 ⟨rfl, rfl⟩
    go_wp2_with fail
    refine (refName_at s nb HN.out hs _).mono ?_
    rintro e w9 ⟨rfl, h9⟩
    have B9 := below_seq B7 h9 (Nat.le_refl _)
    clear h9 B7
    go_wp2_with fail
    refine (awake_any _).mono ?_
    rintro e w10 ⟨rfl, h10⟩
    go_wp2
    go_ret
    exact ⟨rfl, below_seq B9 h10 (Nat.le_refl _)⟩
end Go.Proofs.Ytelpgjlcagbcjaa
