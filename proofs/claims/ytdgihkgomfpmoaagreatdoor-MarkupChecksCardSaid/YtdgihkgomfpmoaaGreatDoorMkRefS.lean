/- The reference's Strip, Scan given. -/
import Derived.Test.YtdgihkgomfpmoaaGreatDoorMkShare
import Derived.Test.YtdgihkgomfpmoaaGreatDoorMkRefP
namespace Go.Proofs.YtdgihkgomfpmoaaGreatDoor
set_option linter.unusedSimpArgs false
set_option linter.unusedVariables false
set_option maxRecDepth 100000
open Go.RowKit Go.Deep

/-- the reference's Scan -/
def RefScn : Prop := ∀ (s : Bs) (L : List Lx) (e : Int) (w : World), scanR s = (L, e) → s.length ≤ maxLen →
  Calls Tryz.prog 8 #[sV s] w fun en w' => ∃ v, en = .returned (.tuple #[v, intV e]) ∧ LexAt w' v L ∧ Below w.heap.size w w'
set_option maxHeartbeats 2000000 in
theorem refStrip_any (HC : RefScn) (s t : Bs) (e : Int) (hr : stripR s = (t, e)) (hs : s.length ≤ maxLen) (w : World) :
    Calls Tryz.prog 10 #[sV s] w fun en w' => en = .returned (.tuple #[sV t, intV e]) ∧ Below w.heap.size w w' := by
  obtain ⟨r, hsc⟩ : ∃ r, scanR s = r := ⟨_, rfl⟩
  obtain ⟨L, f⟩ := r
  have hte : t = strp L ∧ f = e := by
    unfold stripR at hr
    rw [hsc] at hr
    cases hr
    exact ⟨rfl, rfl⟩
  obtain ⟨ht, rfl⟩ := hte
  have HT := Lib.hid ht
  obtain ⟨hl, hsl⟩ := scan_len hsc
  have HCK := Lib.hid (HC s L f w hsc hs)
  have HST := Lib.hid (fun k h => strp_step L k h)
  have HPT := Lib.hid (fun k => Nat.le_trans (strp_take L k) hsl)
  clear hr hsc ht hs
  go_enter Tryz.func10, Tryz.ntmps10
  go_wp2_with fail
  refine HCK.out.mono ?_
  rintro e' w1 ⟨v, rfl, hv, h1⟩
  have B1 := Lib.hid h1
  have HV := Lib.hid hv
  obtain ⟨a, cap, rfl⟩ := hv.slice
  clear h1 hv
  go_wp2
  go_loopw [6, 7] (fun sv iv wr => ∃ k : Nat, k ≤ L.length ∧ iv = .int .i64 k ∧ sv = sV (strp (L.take k)) ∧ wr = w1) (fun _ iv _ => L.length - (intOf iv).toNat)
  case atStart => exact ⟨0, Nat.zero_le _, rfl, rfl, rfl⟩
  case round =>
    obtain ⟨k, hk, rfl, rfl, rfl⟩ := hrel
    obtain ⟨wk, rfl⟩ : ∃ x, x = wr := ⟨_, rfl⟩
    by_cases hlt : k < L.length
    · obtain ⟨b, off, rfl, hbb, c1, _, c3, _⟩ := HV.out.elem hlt
      have hst := HST.out k hlt
      have hp1 := HPT.out (k + 1)
      rw [hst, List.length_append] at hp1
      obtain ⟨x, hx⟩ : ∃ x, L[k] = x := ⟨_, rfl⟩
      rw [hx] at c1 c3 hst hp1
      obtain ⟨S, hS⟩ : ∃ S, strp (L.take k) = S := ⟨_, rfl⟩
      rw [hS] at hst hp1 ⊢
      have i0 : (0 : Int) ≤ (k : Int) := by omega
      have i1 : (k : Int) < (L.length : Int) := by omega
      obtain ⟨kk, hkk⟩ : ∃ z, x.k = z := ⟨_, rfl⟩
      rw [hkk] at c1 hst hp1
      by_cases h1 : kk = 1
      · rw [if_pos h1] at hst hp1
        have q1 : (kk == 1) = true := by simp [h1]
        have hadd : baL S ++ baL x.v = baL (strp (L.take (k + 1))) := by rw [hst, baL_append]
        have s1 : (baL S).size ≤ 65536 := by rw [baL_size]; omega
        have s2 : (baL x.v).size ≤ 65536 := by rw [baL_size]; omega
        have H1 := Lib.hid h1
        clear hst hx hS hp1 hbb h1 hkk
        go_wp2
        go_roundw
        case rel => exact ⟨k + 1, by omega, by go_num, rfl, trivial⟩
        case measure => simp [intOf]; omega
      · rw [if_neg h1, List.append_nil] at hst
        have q1 : (kk == 1) = false := by simpa using h1
        have HE := Lib.hid hst
        have H1 := Lib.hid h1
        clear hst hx hS hp1 hbb h1 hkk
        go_wp2
        go_roundw
        case rel => exact ⟨k + 1, by omega, by go_num, by rw [HE.out], trivial⟩
        case measure => simp [intOf]; omega
    · obtain rfl : k = L.length := by omega
      rw [List.take_length]
      go_wp2
      go_ret2
      exact ⟨by rw [HT.out]; rfl, B1.out⟩
end Go.Proofs.YtdgihkgomfpmoaaGreatDoor
