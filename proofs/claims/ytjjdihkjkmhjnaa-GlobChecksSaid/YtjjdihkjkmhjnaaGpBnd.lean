/- Bounds of the program. -/
import Derived.Test.YtjjdihkjkmhjnaaGpMatch
namespace Go.Proofs.Ytjjdihkjkmhjnaa
set_option linter.unusedSimpArgs false
set_option linter.unusedVariables false
set_option maxRecDepth 100000
open Go.RowKit Go.Deep

set_option maxHeartbeats 2000000 in
theorem bounds_at (p : ByteArray) (a b r : Int) (h : boundsR p.data.toList = (a, b, r)) (w : World) :
    Calls Try.prog 15 #[.string p] w fun e w' => e = .returned (.tuple #[intV a, intV b, intV r]) ∧ Below w.heap.size w w' := by
  unfold boundsR at h
  by_cases hp : chk p.data.toList = 0
  · rw [if_neg (by rw [hp]; decide)] at h
    have HEL := Lib.hid (elements_good p _ hp rfl w)
    have HLE := Lib.hid (pat_len hp)
    generalize hl : (par p.data.toList).2 = l at *
    have HH := Lib.hid h
    clear hl hp h
    go_enter Try.func15, Try.ntmps15
    go_wp2_with fail
    refine HEL.out.mono ?_
    rintro e w1 ⟨v, rfl, he1, h1⟩
    obtain ⟨va, vc, rfl⟩ := he1.slice
    have HE1 := Lib.hid he1
    have HB1 := Lib.hid h1
    clear he1 h1
    go_wp2_with fail
    go_loopw [7, 8, 19] (fun v7 v8 v19 wr => ∃ (k n : Nat) (sb : Bool), k ≤ l.length ∧ v19 = .int .i64 k ∧ v7 = .int .i64 n ∧ v8 = .bool sb ∧ n ≤ k ∧ Hid (leastN (l.take k) = n ∧ starsB (l.take k) = sb) ∧ w1 = wr) (fun _ _ v19 _ => l.length - (intOf v19).toNat)
    case atStart => exact ⟨0, 0, false, Nat.zero_le _, rfl, rfl, rfl, Nat.le_refl _, Lib.hid ⟨rfl, rfl⟩, by trivial⟩
    case round =>
      obtain ⟨k, n, sb, hk, rfl, rfl, rfl, hnk, HI, rfl⟩ := hrel
      have hl64 := HLE.out
      by_cases hlt : k < l.length
      · obtain ⟨bb, off, rfl, hbb, hst⟩ := HE1.out.star hlt
        rw [starAt_get hlt] at hst
        obtain ⟨x, hx⟩ : ∃ x, l[k] = x := ⟨_, rfl⟩
        rw [hx] at hst
        have htk : l.take (k + 1) = l.take k ++ [x] := by rw [← hx]; exact List.take_succ_eq_append_getElem hlt
        have HTK := Lib.hid htk
        clear htk hx
        obtain ⟨st, hs⟩ : ∃ st, x.isS = st := ⟨_, rfl⟩
        rw [hs] at hst
        have HS := Lib.hid hs
        clear hs
        cases st with
        | true =>
          go_wp2_with fail
          refine ⟨⟨k + 1, n, true, by omega, by go_num, rfl, rfl, by omega, Lib.hid ⟨?_, ?_⟩, by trivial⟩, by simp [intOf]; omega⟩
          · rw [HTK.out, leastN_snoc, HS.out, HI.out.1]; rfl
          · rw [HTK.out, starsB_snoc, HS.out, Bool.or_true]
        | false =>
          go_wp2_with fail
          refine ⟨⟨k + 1, n + 1, sb, by omega, by go_num, by go_num, rfl, by omega, Lib.hid ⟨?_, ?_⟩, by trivial⟩, by simp [intOf]; omega⟩
          · rw [HTK.out, leastN_snoc, HS.out, HI.out.1]; rfl
          · rw [HTK.out, starsB_snoc, HS.out, Bool.or_false, HI.out.2]
      · obtain rfl : k = l.length := by omega
        have hh := HH.out
        have hI := HI.out
        rw [List.take_length] at hI
        rw [hI.1, hI.2] at hh
        clear hI
        cases sb with
        | true =>
          rw [if_pos rfl] at hh
          simp only [Prod.mk.injEq] at hh
          obtain ⟨rfl, rfl, rfl⟩ := hh
          go_wp2_with fail
          refine bodyPost_ret (v := .tuple #[intV n, intV (-1), intV 0]) (by simp [results, Try.results15, go_sem]) rfl ⟨rfl, HB1.out⟩
        | false =>
          rw [if_neg (by decide)] at hh
          simp only [Prod.mk.injEq] at hh
          obtain ⟨rfl, rfl, rfl⟩ := hh
          go_wp2_with fail
          refine bodyPost_ret (v := .tuple #[intV n, intV n, intV 0]) (by simp [results, Try.results15, go_sem]) rfl ⟨rfl, HB1.out⟩
  · rw [if_pos hp] at h
    simp only [Prod.mk.injEq] at h
    obtain ⟨rfl, rfl, rfl⟩ := h
    have HEL := Lib.hid (elements_bad p hp w)
    clear hp
    go_enter Try.func15, Try.ntmps15
    go_wp2_with fail
    refine HEL.out.mono ?_
    rintro e w1 ⟨v, rfl, h1⟩
    have HB1 := Lib.hid h1
    clear h1
    go_wp2_with fail
    refine bodyPost_ret (v := .tuple #[intV 0, intV 0, intV 1]) (by simp [results, Try.results15, go_sem]) rfl ⟨rfl, HB1.out⟩
end Go.Proofs.Ytjjdihkjkmhjnaa
