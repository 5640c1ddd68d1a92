/- The reference's increasing. -/
import Derived.Test.YteceahbnafaeoaaSpIsSub
namespace Go.Proofs.Yteceahbnafaeoaa
set_option linter.unusedSimpArgs false
set_option linter.unusedVariables false
set_option maxRecDepth 100000
open Go.RowKit Go.Deep

set_option maxHeartbeats 4000000 in
theorem refIncr_any (l c : List Int) (hcl : c.length ≤ 1000000) (hll : l.length ≤ 1000000) (v u : Value) (w : World) (hv : IntsAt w v l) (hu : IntsAt w u c) :
    Calls Try.prog 59 #[v, u] w fun e w' => e = .returned (.bool (incB l c)) ∧ Below w.heap.size w w' := by
  have HV := Lib.hid hv
  have HU := Lib.hid hu
  obtain ⟨a, cap, rfl⟩ := hv.slice
  obtain ⟨au, cu, rfl⟩ := hu.slice
  obtain ⟨r, hr⟩ : ∃ r, incB l c = r := ⟨_, rfl⟩
  have HR := Lib.hid (show (List.range c.length).all (okU l c) = r from hr)
  rw [hr]
  clear hv hu hr
  go_enter Try.func59, Try.ntmps59
  go_wp2
  go_loopw [5] (fun i wr => ∃ k : Nat, k ≤ c.length ∧ i = .int .i64 k ∧ Below w.heap.size w wr ∧ (List.range k).all (okU l c) = true) (fun i _ => c.length - (intOf i).toNat)
  case atStart => exact ⟨0, Nat.zero_le _, rfl, Below.refl _ _, rfl⟩
  case round =>
    obtain ⟨k, hk, rfl, hB, hall⟩ := hrel
    obtain ⟨wk, rfl⟩ : ∃ x, x = wr := ⟨_, rfl⟩
    have HB := Lib.hid hB
    have HALL := Lib.hid hall
    have HBD := Lib.hid (fun j => hB.trans (below_drewN_n w.heap.size wk j))
    by_cases hlt : k < c.length
    · obtain ⟨b, off, rfl, hbb, c0⟩ := HU.out.elem hlt
      have hcell : wk.cell? ⟨b, off + k, none⟩ = some (.int .i64 c[k]) := (hB.cell (p := ⟨b, off + k, none⟩) hbb).trans c0
      have hxk : ix c k = c[k] := ix_get c k hlt
      have k0 : (0 : Int) ≤ (k : Int) := by omega
      have k1 : (k : Int) < (c.length : Int) := by omega
      obtain ⟨x, hx⟩ : ∃ x, c[k] = x := ⟨_, rfl⟩
      rw [hx] at hcell hxk
      have HXK := Lib.hid hxk
      have HFF := Lib.hid (fun (h : okU l c k = false) => (HR.out.symm.trans (all_falseP hlt h)))
      clear hall hB c0 hbb hx hxk
      by_cases hx0 : x < 0
      · have HRF := Lib.hid (HFF.out (okU_out (by rw [HXK.out]; unfold inB; rw [decide_eq_false (show ¬ 0 ≤ x by omega)]; rfl)))
        have t0 : decide (x < 0) = true := decide_eq_true hx0
        go_wp2_with fail
        go_quiet (fail)
        clear hcell
        go_wp2
        go_ret
        exact ⟨by rw [HRF.out]; rfl, HBD.out _⟩
      have t0 : decide (x < 0) = false := decide_eq_false hx0
      by_cases hx1 : (l.length : Int) ≤ x
      · have HRF := Lib.hid (HFF.out (okU_out (by rw [HXK.out]; unfold inB; rw [decide_eq_false (show ¬ x < (l.length : Int) by omega), Bool.and_false])))
        have t1 : decide ((l.length : Int) ≤ x) = true := decide_eq_true hx1
        go_wp2_with fail
        go_quiet (fail)
        clear hcell
        go_wp2
        go_ret
        exact ⟨by rw [HRF.out]; rfl, HBD.out _⟩
      have hin : inB l x = true := by unfold inB; rw [decide_eq_true (show 0 ≤ x by omega), decide_eq_true (show x < (l.length : Int) by omega)]; rfl
      have HQ := Lib.hid hin
      obtain ⟨z, hz, hzz⟩ := in_nat hin
      subst hzz
      have t1 : decide (l.length ≤ z) = false := decide_eq_false (by omega)
      obtain ⟨bl, ol, hal, hbl, cl⟩ := HV.out.elem hz
      have d2 := (HB.out.cell (p := ⟨bl, ol + z, none⟩) hbl).trans cl
      subst hal
      have z0 : (0 : Int) ≤ (z : Int) := by omega
      have z1 : (z : Int) < (l.length : Int) := by omega
      have hlz := at0_get l z hz
      obtain ⟨lz, hlzz⟩ : ∃ lz, l[z] = lz := ⟨_, rfl⟩
      rw [hlzz] at d2 hlz
      have HLZ := Lib.hid hlz
      have hzb : z ≤ 1000000 := by omega
      clear hbl cl hlz hlzz hz hin hx0 hx1
      by_cases hk0 : k = 0
      · subst hk0
        rw [Nat.add_zero] at hcell
        have HS := Lib.hid (all_succP HALL.out (okU_zero (by rw [HXK.out]; exact HQ.out)))
        have t2 : decide ((0 : Int) < ((0 : Nat) : Int)) = false := rfl
        go_wp2_with fail
        go_quiet (fail)
        clear hcell d2
        go_wp2
        go_roundw
        case rel => exact ⟨1, by omega, by go_num, HBD.out _, HS.out⟩
        case measure => simp [intOf]; omega
      · obtain ⟨p, hkp⟩ : ∃ p, k = p + 1 := ⟨k - 1, by omega⟩
        have hpc : p < c.length := by omega
        obtain ⟨b', off', e', hb', cp⟩ := HU.out.elem hpc
        cases e'
        have dp := (HB.out.cell (p := ⟨b, off + p, none⟩) hb').trans cp
        have hyi := okU_in (all_getP HALL.out (show p < k by omega))
        have hyp : ix c p = c[p] := ix_get c p hpc
        rw [hyp] at hyi
        obtain ⟨y, hy, hyy⟩ := in_nat hyi
        rw [hyy] at dp hyp
        have HNX := Lib.hid (okU_next (p := p) HQ.out hyp (by rw [← hkp]; exact HXK.out))
        rw [← hkp] at HNX
        obtain ⟨bl', ol', hal, hbl', cl'⟩ := HV.out.elem hy
        cases hal
        have d1 := (HB.out.cell (p := ⟨bl, ol + y, none⟩) hbl').trans cl'
        have hly := at0_get l y hy
        obtain ⟨ly, hlyy⟩ : ∃ ly, l[y] = ly := ⟨_, rfl⟩
        rw [hlyy] at d1 hly
        rw [HLZ.out, hly] at HNX
        have y0 : (0 : Int) ≤ (y : Int) := by omega
        have y1 : (y : Int) < (l.length : Int) := by omega
        have hwp : IntKind.i64.wrap ((k : Int) - 1) = (p : Int) := by rw [show (k : Int) - 1 = (p : Int) by omega]; exact IntWalk.i64_in _ (by omega)
        have p0 : (0 : Int) ≤ (p : Int) := by omega
        have p1 : (p : Int) < (c.length : Int) := by omega
        have hkpos : 0 < k := by omega
        clear hb' cp hyi hyp hyy hbl' cl' hly hlyy hy hkp hpc hk0
        by_cases hyz : z ≤ y
        · have t3 : decide (z ≤ y) = true := decide_eq_true hyz
          have HRF := Lib.hid (HFF.out (by rw [HNX.out, decide_eq_false (show ¬ (y : Int) < z by omega)]; rfl))
          clear d1 d2
          go_wp2_with fail
          go_quiet (fail)
          clear dp hcell
          go_wp2
          go_ret
          exact ⟨by rw [HRF.out]; rfl, HBD.out _⟩
        · have t3 : decide (z ≤ y) = false := decide_eq_false hyz
          rw [decide_eq_true (show (y : Int) < z by omega), Bool.true_and] at HNX
          by_cases hll2 : lz ≤ ly
          · have t4 : decide (lz ≤ ly) = true := decide_eq_true hll2
            have HRF := Lib.hid (HFF.out (by rw [HNX.out, decide_eq_false (show ¬ ly < lz by omega)]))
            go_wp2_with fail
            go_quiet (fail)
            clear d1 d2 dp hcell
            go_wp2
            go_ret
            exact ⟨by rw [HRF.out]; rfl, HBD.out _⟩
          · have t4 : decide (lz ≤ ly) = false := decide_eq_false hll2
            have HS := Lib.hid (all_succP HALL.out (by rw [HNX.out, decide_eq_true (show ly < lz by omega)]))
            go_wp2_with fail
            go_quiet (fail)
            clear d1 d2 dp hcell
            go_wp2
            go_roundw
            case rel => exact ⟨k + 1, by omega, by go_num, HBD.out _, HS.out⟩
            case measure => simp [intOf]; omega
    · obtain rfl : k = c.length := by omega
      have HRT := Lib.hid (HR.out.symm.trans hall)
      clear hall hB
      go_wp2
      go_ret
      exact ⟨by rw [HRT.out]; rfl, HB.out⟩
end Go.Proofs.Yteceahbnafaeoaa
