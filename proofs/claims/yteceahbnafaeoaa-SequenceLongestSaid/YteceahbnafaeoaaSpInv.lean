/- Inversions. -/
import Derived.Test.YteceahbnafaeoaaSpSmall
import Derived.Test.YteceahbnafaeoaaSqInvM
namespace Go.Proofs.Yteceahbnafaeoaa
set_option linter.unusedSimpArgs false
set_option linter.unusedVariables false
set_option maxRecDepth 100000
open Go.RowKit Go.Deep

set_option maxHeartbeats 4000000 in
theorem invP_any (l : List Int) (v : Value) (w : World) (hv : IntsAt w v l) (hcap : CapOk v) :
    Calls Try.prog 17 #[v] w fun e w' => e = .returned (.tuple #[intV (invE l).1, intV (invE l).2]) ∧ Below w.heap.size w w' := by
  have HV := Lib.hid hv
  by_cases h1 : 1024 < l.length
  · have TL := Lib.hid (tooLong_any l v true (decide_eq_true h1) w hv)
    have e : invE l = (0, 4) := by unfold invE; rw [if_pos h1]
    rw [e]
    obtain ⟨a, cap, rfl⟩ := hv.slice
    clear hv e hcap
    go_enter Try.func17, Try.ntmps17
    go_wp2_with fail
    refine TL.out.mono ?_
    rintro e w1 ⟨rfl, rfl⟩
    go_wp2
    go_ret2
    exact ⟨rfl, Below.refl _ _⟩
  · have TL := Lib.hid (tooLong_any l v false (decide_eq_false h1) w hv)
    have hl : l.length ≤ 1024 := by omega
    obtain ⟨T, hT⟩ : ∃ T, invR l = T := ⟨_, rfl⟩
    have e : invE l = ((T : Int), 0) := by unfold invE; rw [if_neg h1, hT]
    rw [e]
    have hTb : T ≤ 1048576 := by rw [← hT]; exact Nat.le_trans (inv_bound l) (Nat.mul_le_mul hl hl : l.length * l.length ≤ 1024 * 1024)
    have HT := Lib.hid hT
    obtain ⟨a, cap, rfl⟩ := hv.slice
    have hcl : l.length ≤ cap := hcap _ _ _ rfl
    clear hv e hT h1 hcap
    go_enter Try.func17, Try.ntmps17
    go_wp2_with fail
    refine TL.out.mono ?_
    rintro e w1 ⟨rfl, rfl⟩
    obtain ⟨wA, rfl⟩ : ∃ x, x = w1 := ⟨_, rfl⟩
    go_wp2
    go_loopw [4, 13] (fun nv iv wr => ∃ i n : Nat, i ≤ l.length ∧ iv = .int .i64 i ∧ nv = .int .i64 n ∧ n + invR (l.drop i) = T ∧ wr = wA) (fun _ iv _ => l.length - (intOf iv).toNat)
    case atStart => exact ⟨0, 0, Nat.zero_le _, rfl, rfl, by rw [List.drop_zero, HT.out]; omega, rfl⟩
    case round =>
      obtain ⟨i, n, hi, rfl, rfl, hn, rfl⟩ := hrel
      obtain ⟨wk, rfl⟩ : ∃ x, x = wr := ⟨_, rfl⟩
      have HN := Lib.hid hn
      by_cases hlt : i < l.length
      · obtain ⟨b, off, rfl, hbb, c0⟩ := HV.out.elem hlt
        have HID := Lib.hid (inv_drop l i hlt)
        obtain ⟨x, hx⟩ : ∃ x, l[i] = x := ⟨_, rfl⟩
        rw [hx] at c0 HID
        have HC := Lib.hid (And.intro hbb c0)
        obtain ⟨j, hj⟩ : ∃ j, i + 1 = j := ⟨_, rfl⟩
        have hwj : IntKind.i64.wrap ((i : Int) + 1) = (j : Int) := by rw [show (i : Int) + 1 = (j : Int) by omega]; exact IntWalk.i64_in _ (by omega)
        rw [hj] at HID
        have HJ := Lib.hid hj
        have j0 : (0 : Int) ≤ (j : Int) := by omega
        have j1 : (j : Int) ≤ (l.length : Int) := by omega
        clear hn hbb hx hj
        by_cases hcj : cap = j
        · have hjl : j = l.length := by omega
          have HM3 := Lib.hid (show n + invR (l.drop l.length) = T by have := HN.out; rw [HID.out, hjl, List.drop_length] at this; rw [List.drop_length]; simpa using this)
          subst hcj
          go_wp2
          go_loopw [4, 23] (fun nv kv wr => kv = .int .i64 0 ∧ nv = .int .i64 n ∧ wr = wk) (fun _ kv _ => 0)
          case atStart => exact ⟨rfl, rfl, rfl⟩
          case round =>
            obtain ⟨rfl, rfl, rfl⟩ := hrel
            have hge : ¬ 0 < l.length - cap := by omega
            go_wp2
            go_roundw
            case rel => exact ⟨l.length, n, Nat.le_refl _, rfl, rfl, HM3.out, trivial⟩
            case measure => have := HJ.out; simp [intOf]; omega
        go_wp2
        go_loopw [4, 23] (fun nv kv wr => ∃ k m : Nat, j + k ≤ l.length ∧ kv = .int .i64 k ∧ nv = .int .i64 m ∧ m + ((l.drop (j + k)).countP (fun y => decide (y < x)) + invR (l.drop j)) = T ∧ wr = wk) (fun _ kv _ => l.length - (intOf kv).toNat)
        case atStart => exact ⟨0, n, by omega, rfl, rfl, by have := HN.out; rw [HID.out] at this; exact this, rfl⟩
        case round =>
          obtain ⟨k, m, hk, rfl, rfl, hm, rfl⟩ := hrel
          have HM := Lib.hid hm
          by_cases hltk : j + k < l.length
          · obtain ⟨b', off', e', hb', c1⟩ := HV.out.elem hltk
            cases e'
            rw [← Nat.add_assoc] at c1
            have hcd := count_drop l x (j + k) hltk
            obtain ⟨y, hy⟩ : ∃ y, l[j + k] = y := ⟨_, rfl⟩
            rw [hy] at c1 hcd
            rw [hcd] at hm
            have HM2 := Lib.hid hm
            have hmb : m ≤ 1048576 := by omega
            have k0 : (0 : Int) ≤ (k : Int) := by omega
            have k1 : (k : Int) < ((l.length - j : Nat) : Int) := by omega
            have k2 : k < l.length - j := by omega
            clear hm hb' hcd hy
            by_cases hyx : y < x
            · have t0 : decide (y < x) = true := decide_eq_true hyx
              have HM3 := Lib.hid (show (m + 1) + ((l.drop (j + (k + 1))).countP (fun y => decide (y < x)) + invR (l.drop j)) = T by have := HM2.out; rw [if_pos hyx] at this; rw [← Nat.add_assoc j]; omega)
              go_wp2
              go_roundw
              case rel => exact ⟨k + 1, m + 1, by omega, by go_num, by go_num, HM3.out, trivial⟩
              case measure => simp [intOf]; omega
            · have t0 : decide (y < x) = false := decide_eq_false hyx
              have HM3 := Lib.hid (show m + ((l.drop (j + (k + 1))).countP (fun y => decide (y < x)) + invR (l.drop j)) = T by have := HM2.out; rw [if_neg hyx] at this; rw [← Nat.add_assoc j]; omega)
              go_wp2
              go_roundw
              case rel => exact ⟨k + 1, m, by omega, by go_num, rfl, HM3.out, trivial⟩
              case measure => simp [intOf]; omega
          · have hk2 : k = l.length - j := by omega
            have HM3 := Lib.hid (show m + invR (l.drop j) = T by have := HM.out; rw [show j + k = l.length by omega, List.drop_length] at this; simpa using this)
            have hge : ¬ k < l.length - j := by omega
            clear hm
            go_wp2
            go_roundw
            case rel => exact ⟨j, m, by omega, rfl, rfl, HM3.out, trivial⟩
            case measure => have := HJ.out; simp [intOf]; omega
      · obtain rfl : i = l.length := by omega
        rw [List.drop_length] at hn
        obtain rfl : n = T := by simpa [invR] using hn
        clear hn
        go_wp2
        go_ret2
        exact ⟨rfl, Below.refl _ _⟩
end Go.Proofs.Yteceahbnafaeoaa
