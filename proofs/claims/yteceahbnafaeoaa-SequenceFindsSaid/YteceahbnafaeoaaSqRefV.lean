/- The reference's Inversions and Moves. -/
import Derived.Test.YteceahbnafaeoaaSqRefI
import Derived.Test.YteceahbnafaeoaaSqInversions
namespace Go.Proofs.Yteceahbnafaeoaa
set_option linter.unusedSimpArgs false
set_option linter.unusedVariables false
set_option maxRecDepth 100000
open Go.RowKit Go.Deep

set_option maxHeartbeats 4000000 in
theorem refInv_any (l : List Int) (hl : l.length ≤ 12 ∨ 1024 < l.length) (hlm : l.length ≤ 1000000) (v : Value) (w : World) (hv : IntsAt w v l) :
    Calls Try.prog 18 #[v] w fun e w' => e = .returned (.tuple #[intV (invE l).1, intV (invE l).2]) ∧ Below w.heap.size w w' := by
  have HV := Lib.hid hv
  obtain ⟨a, cap, rfl⟩ := hv.slice
  by_cases h1 : 1024 < l.length
  · have t1 : decide ((1024 : Int) < (l.length : Int)) = true := decide_eq_true (by omega)
    have e : invE l = (0, 4) := by unfold invE; rw [if_pos h1]
    rw [e]
    clear hv e
    go_enter Try.func18, Try.ntmps18
    go_wp2
    go_ret2
    exact ⟨rfl, Below.refl _ _⟩
  · have t1 : decide ((1024 : Int) < (l.length : Int)) = false := decide_eq_false (by omega)
    have hl12 : l.length ≤ 12 := by omega
    obtain ⟨T, hT⟩ : ∃ T, invR l = T := ⟨_, rfl⟩
    have e : invE l = ((T : Int), 0) := by unfold invE; rw [if_neg h1, hT]
    rw [e]
    have hTb : T ≤ 144 := by rw [← hT]; exact Nat.le_trans (inv_bound l) (Nat.mul_le_mul hl12 hl12 : l.length * l.length ≤ 12 * 12)
    have HT := Lib.hid hT
    clear hv e hT h1 hl
    go_enter Try.func18, Try.ntmps18
    go_wp2
    go_loopw [4, 5] (fun nv iv wr => ∃ i n : Nat, i ≤ l.length ∧ iv = .int .i64 i ∧ nv = .int .i64 n ∧ n + invR (l.drop i) = T ∧ Below w.heap.size w wr) (fun _ iv _ => l.length - (intOf iv).toNat)
    case atStart => exact ⟨0, 0, Nat.zero_le _, rfl, rfl, by rw [List.drop_zero, HT.out]; omega, Below.refl _ _⟩
    case round =>
      obtain ⟨i, n, hi, rfl, rfl, hn, hB⟩ := hrel
      obtain ⟨wk, rfl⟩ : ∃ x, x = wr := ⟨_, rfl⟩
      have HB := Lib.hid hB
      have HN := Lib.hid hn
      by_cases hlt : i < l.length
      · obtain ⟨b, off, rfl, hbb, c0⟩ := HV.out.elem hlt
        have HID := Lib.hid (inv_drop l i hlt)
        obtain ⟨x, hx⟩ : ∃ x, l[i] = x := ⟨_, rfl⟩
        rw [hx] at c0 HID
        have HC := Lib.hid (And.intro hbb c0)
        have i0 : (0 : Int) ≤ (i : Int) := by omega
        have i1 : (i : Int) < (l.length : Int) := by omega
        clear hB hn c0 hbb hx
        go_wp2
        go_loopw [4, 6] (fun nv kv wr => ∃ k m : Nat, k ≤ l.length ∧ kv = .int .i64 k ∧ nv = .int .i64 m ∧ m + ((l.drop k).countP (fun y => decide (y < x)) + invR (l.drop (i + 1))) = T ∧ Below w.heap.size w wr) (fun _ kv _ => l.length - (intOf kv).toNat)
        case atStart => exact ⟨i + 1, n, by omega, by go_num, rfl, by have := HN.out; rw [HID.out] at this; exact this, HB.out⟩
        case round =>
          obtain ⟨k, m, hk, rfl, rfl, hm, hBi⟩ := hrel
          obtain ⟨wi, rfl⟩ : ∃ x, x = wr := ⟨_, rfl⟩
          have HBI := Lib.hid hBi
          have HM := Lib.hid hm
          by_cases hltk : k < l.length
          · obtain ⟨b', off', e', hb', c1⟩ := HV.out.elem hltk
            cases e'
            have h1 := (hBi.cell (p := ⟨b, off + i, none⟩) HC.out.1).trans HC.out.2
            have h2 := (hBi.cell (p := ⟨b, off + k, none⟩) hb').trans c1
            have hcd := count_drop l x k hltk
            obtain ⟨y, hy⟩ : ∃ y, l[k] = y := ⟨_, rfl⟩
            rw [hy] at h2 hcd
            rw [hcd] at hm
            have HM2 := Lib.hid hm
            have hmb : m ≤ 144 := by omega
            have k0 : (0 : Int) ≤ (k : Int) := by omega
            have k1 : (k : Int) < (l.length : Int) := by omega
            clear hBi hm c1 hb' hcd hy
            by_cases hyx : y < x
            · have t0 : decide (y < x) = true := decide_eq_true hyx
              have HM3 := Lib.hid (show (m + 1) + ((l.drop (k + 1)).countP (fun y => decide (y < x)) + invR (l.drop (i + 1))) = T by have := HM2.out; rw [if_pos hyx] at this; omega)
              go_wp2_with fail
              go_quiet (fail)
              go_wp2
              go_roundw
              case rel => exact ⟨k + 1, m + 1, by omega, by go_num, by go_num, HM3.out, HBI.out.trans (below_drewN_n _ _ _)⟩
              case measure => simp [intOf]; omega
            · have t0 : decide (y < x) = false := decide_eq_false hyx
              have HM3 := Lib.hid (show m + ((l.drop (k + 1)).countP (fun y => decide (y < x)) + invR (l.drop (i + 1))) = T by have := HM2.out; rw [if_neg hyx] at this; omega)
              go_wp2_with fail
              go_quiet (fail)
              go_wp2
              go_roundw
              case rel => exact ⟨k + 1, m, by omega, by go_num, rfl, HM3.out, HBI.out.trans (below_drewN_n _ _ _)⟩
              case measure => simp [intOf]; omega
          · obtain rfl : k = l.length := by omega
            have HM3 := Lib.hid (show m + invR (l.drop (i + 1)) = T by have := HM.out; rw [List.drop_length] at this; simpa using this)
            clear hBi hm
            go_wp2
            go_roundw
            case rel => exact ⟨i + 1, m, by omega, by go_num, rfl, HM3.out, HBI.out⟩
            case measure => simp [intOf]; omega
      · obtain rfl : i = l.length := by omega
        rw [List.drop_length] at hn
        obtain rfl : n = T := by simpa [invR] using hn
        clear hB hn
        go_wp2
        go_ret2
        exact ⟨rfl, HB.out⟩
set_option maxHeartbeats 4000000 in
theorem refMoves_any (l : List Int) (hl : l.length ≤ 12 ∨ 1024 < l.length) (hlm : l.length ≤ 1000000) (v : Value) (w : World) (hv : IntsAt w v l) :
    Calls Try.prog 22 #[v] w fun e w' => e = .returned (.tuple #[intV (movE l).1, intV (movE l).2]) ∧ Below w.heap.size w w' := by
  have HV := Lib.hid hv
  obtain ⟨p, hp⟩ : ∃ p, permB l = p := ⟨_, rfl⟩
  have CP := Lib.hid (refPerm_any l hlm v w hv p hp)
  have CI := Lib.hid (fun W h => refInc_any l hl hlm v W h)
  obtain ⟨a, cap, rfl⟩ := hv.slice
  by_cases h1 : 1024 < l.length
  · have t1 : decide ((1024 : Int) < (l.length : Int)) = true := decide_eq_true (by omega)
    have e : movE l = (0, 4) := by unfold movE; rw [if_pos h1]
    rw [e]
    clear hv e
    go_enter Try.func22, Try.ntmps22
    go_wp2
    go_ret2
    exact ⟨rfl, Below.refl _ _⟩
  · have t1 : decide ((1024 : Int) < (l.length : Int)) = false := decide_eq_false (by omega)
    have hl12 : l.length ≤ 12 := by omega
    have ei : incE l = (incR l, 0) := by unfold incE; rw [if_neg h1]
    rw [ei] at CI
    have hil : (incR l).length ≤ l.length := by rw [inc_len]; exact lis_le l
    have HMV := Lib.hid (show movR l = l.length - (incR l).length by unfold movR; rw [inc_len])
    cases p with
    | false =>
      have e : movE l = (0, 8) := by unfold movE; rw [if_neg h1, hp]; rfl
      rw [e]
      clear hv e hp ei h1 hl
      go_enter Try.func22, Try.ntmps22
      go_wp2_with fail
      refine CP.out.mono ?_
      rintro e w1 ⟨rfl, h1⟩
      have B1 := Lib.hid h1
      clear h1
      go_wp2
      go_ret2
      exact ⟨rfl, B1.out⟩
    | true =>
      have e : movE l = ((movR l : Int), 0) := by unfold movE; rw [if_neg h1, hp]; rfl
      rw [e, HMV.out]
      obtain ⟨A, hA⟩ : ∃ A, incR l = A := ⟨_, rfl⟩
      rw [hA] at CI hil ⊢
      have hw1 : IntKind.i64.wrap ((l.length : Int) - (A.length : Int)) = ((l.length - A.length : Nat) : Int) := by rw [show (l.length : Int) - (A.length : Int) = ((l.length - A.length : Nat) : Int) by omega]; exact IntWalk.i64_in _ (by omega)
      clear hv e hp ei h1 hl hA
      go_enter Try.func22, Try.ntmps22
      go_wp2_with fail
      refine CP.out.mono ?_
      rintro e w1 ⟨rfl, h1⟩
      have B1 := Lib.hid h1
      clear h1
      go_wp2_with fail
      refine (CI.out w1 (HV.out.below B1.out)).mono ?_
      rintro e w2 ⟨x, rfl, hx, h2⟩
      simp only at hx
      obtain ⟨ax, cx, rfl⟩ := hx.slice
      have B2 := Lib.hid (below_then B1.out h2)
      clear hx h2
      go_wp2
      go_ret2
      exact ⟨by first | rfl | simp, B2.out⟩
end Go.Proofs.Yteceahbnafaeoaa
