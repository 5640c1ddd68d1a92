/- SequenceInversions: the law's walk. -/
import Derived.Test.YteceahbnafaeoaaSqAwake
import Derived.Test.YteceahbnafaeoaaSqClone
import Derived.Test.YteceahbnafaeoaaSqInvM
namespace Go.Proofs.Yteceahbnafaeoaa
set_option linter.unusedSimpArgs false
set_option linter.unusedVariables false
set_option maxRecDepth 100000
open Go.RowKit Go.Deep

theorem r64_reverse {l : List Int} (h : R64 l) : R64 l.reverse := fun x hx => h x (List.mem_reverse.1 hx)
set_option maxHeartbeats 4000000 in
theorem inversions_law (H : SqOk) (l : List Int) (v : Value) (w : World) (hv : IntsAt w v l) (hcap : CapOk v) (hr : R64 l) (hl : l.length ≤ maxLen) :
    Calls Try.prog 8 #[v] w fun e w' => e = .returned (.bool true) ∧ Below w.heap.size w w' := by
  obtain ⟨a, cap, rfl⟩ := hv.slice
  have HV := Lib.hid hv
  have HR := Lib.hid hr
  by_cases h12 : 12 < l.length
  · clear hv hr hcap
    have hb : decide ((12 : Int) < (l.length : Int)) = true := decide_eq_true (by omega)
    unfold maxLen at hl
    go_enter Try.func8, Try.ntmps8
    go_wp2_with fail
    refine (awake_any H w).mono ?_
    rintro e w1 ⟨rfl, h1⟩
    have B := Lib.hid h1
    clear h1
    go_wp2
    go_ret
    exact ⟨rfl, B.out⟩
  · have hb : decide ((12 : Int) < (l.length : Int)) = false := decide_eq_false (by omega)
    have C1 := Lib.hid (H.inv l _ w hv hcap hr hl)
    have CL := Lib.hid (fun W h => clone_any l (by omega) (.slice a l.length cap) W h)
    have CV := Lib.hid (fun B u W h => reverse_any l (by omega) B u W h)
    have CI := Lib.hid (fun u W h hc => H.inv l.reverse u W h hc (r64_reverse hr) (by rw [List.length_reverse]; exact hl))
    have CP := Lib.hid (fun W h => H.perm l (.slice a l.length cap) W h hr (by omega))
    have e1 : invE l = ((invR l : Int), 0) := by unfold invE; rw [if_neg (by omega)]
    have e2 : invE l.reverse = ((invR l.reverse : Int), 0) := by unfold invE; rw [List.length_reverse, if_neg (by omega)]
    obtain ⟨n, hn⟩ : ∃ n, invR l = n := ⟨_, rfl⟩
    obtain ⟨m, hm⟩ : ∃ n, invR l.reverse = n := ⟨_, rfl⟩
    obtain ⟨p, hp⟩ : ∃ p, permB l = p := ⟨_, rfl⟩
    obtain ⟨s, hs⟩ : ∃ s, srtB l = s := ⟨_, rfl⟩
    have CS := Lib.hid (fun W h => sorted_any l s hs (.slice a l.length cap) W h (by omega))
    have hns : ((n : Int) == 0) = s := by
      have h1 := inv_zero l
      have h2 := srt_iff l
      rw [hn] at h1
      rw [hs] at h2
      rw [Bool.eq_iff_iff, beq_iff_eq]
      rw [← h1] at h2
      rw [h2]
      omega
    have hsum : p = true → n + m = l.length * (l.length - 1) / 2 := fun h => by
      rw [← hn, ← hm]; exact inv_both_div l (perm_nodup (by rw [hp]; exact h))
    have hnb : n ≤ 144 := by rw [← hn]; exact Nat.le_trans (inv_bound l) (Nat.mul_le_mul (by omega) (by omega) : l.length * l.length ≤ 12 * 12)
    have hmb : m ≤ 144 := by rw [← hm]; exact Nat.le_trans (inv_bound _) (by rw [List.length_reverse]; exact (Nat.mul_le_mul (by omega) (by omega) : l.length * l.length ≤ 12 * 12))
    rw [hn] at e1
    rw [hm] at e2
    rw [e1] at C1
    rw [e2] at CI
    rw [hp] at CP
    obtain ⟨k, hk⟩ : ∃ k, l.length = k := ⟨_, rfl⟩
    have HK := Lib.hid hk
    have hk12 : k ≤ 12 := by omega
    have hsum2 : p = true → ((n : Int) + m == ((k : Int) * ((k : Int) - 1)).tdiv 2) = true := fun h => by
      have h1 := hsum h
      rw [hk] at h1
      rw [beq_iff_eq]
      rcases (show k = 0 ∨ k = 1 ∨ k = 2 ∨ k = 3 ∨ k = 4 ∨ k = 5 ∨ k = 6 ∨ k = 7 ∨ k = 8 ∨ k = 9 ∨ k = 10 ∨ k = 11 ∨ k = 12 by omega) with h | h | h | h | h | h | h | h | h | h | h | h | h <;> subst h <;> simp at h1 ⊢ <;> omega
    have hw1 : IntKind.i64.wrap ((k : Int) - 1) = (k : Int) - 1 := IntWalk.i64_in _ (by omega)
    have hw2 : IntKind.i64.wrap ((k : Int) * ((k : Int) - 1)) = (k : Int) * ((k : Int) - 1) := by
      rcases (show k = 0 ∨ k = 1 ∨ k = 2 ∨ k = 3 ∨ k = 4 ∨ k = 5 ∨ k = 6 ∨ k = 7 ∨ k = 8 ∨ k = 9 ∨ k = 10 ∨ k = 11 ∨ k = 12 by omega) with h | h | h | h | h | h | h | h | h | h | h | h | h <;> subst h <;> decide
    have hw4 : wrap64 (((k : Int) * ((k : Int) - 1)).tdiv 2) = ((k : Int) * ((k : Int) - 1)).tdiv 2 := by
      rcases (show k = 0 ∨ k = 1 ∨ k = 2 ∨ k = 3 ∨ k = 4 ∨ k = 5 ∨ k = 6 ∨ k = 7 ∨ k = 8 ∨ k = 9 ∨ k = 10 ∨ k = 11 ∨ k = 12 by omega) with h | h | h | h | h | h | h | h | h | h | h | h | h <;> subst h <;> exact IntWalk.wrap64_in _ (by decide)
    have hw3 : IntKind.i64.wrap ((n : Int) + m) = (n : Int) + m := IntWalk.i64_in _ (by omega)
    have HSUM := Lib.hid hsum2
    rw [hk] at hb C1 CL CV CP CS HV ⊢
    clear hv hr hcap e1 e2 hn hm hp hs hsum hsum2 h12 hl hk hnb hmb
    go_enter Try.func8, Try.ntmps8
    go_wp2_with fail
    refine C1.out.mono ?_
    rintro e w1 ⟨rfl, h1⟩
    have B1 := Lib.hid h1
    clear h1 C1
    go_wp2_with fail
    refine (CL.out w1 (HV.out.below B1.out)).mono ?_
    rintro e w2 ⟨u, rfl, ho, h2⟩
    have HO := Lib.hid ho
    have B2 := Lib.hid (below_then B1.out h2)
    have B12 := Lib.hid h2
    clear ho h2 CL
    go_wp2_with fail
    refine (CV.out w1.heap.size u w2 HO.out).mono ?_
    rintro e w3 ⟨rfl, hi, h3⟩
    have HI := Lib.hid hi
    have B3 := Lib.hid (below_seq B1.out (B12.out.trans h3) B1.out.size)
    clear hi h3 CV
    go_wp2_with fail
    refine (CI.out u w3 HI.out (cap_own HO.out)).mono ?_
    rintro e w4 ⟨rfl, h4⟩
    have B4 := Lib.hid (below_then B3.out h4)
    clear h4 CI
    have hz : ((0 : Int) != 0) = false := rfl
    go_wp2_with fail
    refine (CS.out w4 (HV.out.below B4.out)).mono ?_
    rintro e w5 ⟨rfl, h5⟩
    have B5 := Lib.hid (below_then B4.out h5)
    clear h5 CS
    have hss : (s != s) = false := by simp
    go_wp2_with fail
    refine (CP.out w5 (HV.out.below B5.out)).mono ?_
    rintro e w6 ⟨rfl, h6⟩
    have B6 := Lib.hid (below_then B5.out h6)
    clear h6 CP
    cases p with
    | false =>
      go_wp2_with fail
      refine (awake_any H w6).mono ?_
      rintro e w7 ⟨rfl, h7⟩
      have B7 := Lib.hid (below_then B6.out h7)
      clear h7
      go_wp2
      go_ret
      exact ⟨rfl, B7.out⟩
    | true =>
      have hsum := HSUM.out rfl
      go_wp2_with fail
      refine (awake_any H w6).mono ?_
      rintro e w7 ⟨rfl, h7⟩
      have B7 := Lib.hid (below_then B6.out h7)
      clear h7
      go_wp2
      go_ret
      exact ⟨rfl, B7.out⟩
end Go.Proofs.Yteceahbnafaeoaa
