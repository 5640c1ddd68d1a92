/- isSubsequence, with each of its two orders; isIncreasing. -/
import Derived.Test.YteceahbnafaeoaaSpSmall
namespace Go.Proofs.Yteceahbnafaeoaa
set_option linter.unusedSimpArgs false
set_option linter.unusedVariables false
set_option maxRecDepth 100000
open Go.RowKit Go.Deep

theorem quiet_idP {P : Program} {f : FuncId} {args : Array Value} {w : World} {n : Nat} {v : Value}
    (h : Calls P f args (w.drewN n) fun e w' => e = .returned v ∧ w' = w.drewN n) : Calls P f args (w.drewN n) fun e w'' => e = .returned v ∧ ∃ m, w'' = w.drewN m :=
  h.mono fun _ _ ⟨he, hm⟩ => ⟨he, n, hm⟩
theorem all_falseP {f : Nat → Bool} {n k : Nat} (hk : k < n) (h : f k = false) : (List.range n).all f = false := by
  rw [List.all_eq_false]
  exact ⟨k, by simpa using hk, by rw [h]; decide⟩
theorem all_succP {f : Nat → Bool} {k : Nat} (h1 : (List.range k).all f = true) (h : f k = true) : (List.range (k + 1)).all f = true := by
  rw [List.range_succ, List.all_append, h1]; simp [h]
theorem all_getP {f : Nat → Bool} {k p : Nat} (h1 : (List.range k).all f = true) (h : p < k) : f p = true := List.all_eq_true.1 h1 p (by simpa using h)
theorem okU_out {l c : List Int} {k : Nat} (h : inB l (ix c k) = false) : okU l c k = false := by unfold okU; rw [h]; rfl
theorem okU_zero {l c : List Int} (h : inB l (ix c 0) = true) : okU l c 0 = true := by unfold okU; rw [h]; rfl
theorem okU_in {l c : List Int} {k : Nat} (h : okU l c k = true) : inB l (ix c k) = true := by
  unfold okU at h
  rw [Bool.and_eq_true] at h
  exact h.1
theorem okU_next {l c : List Int} {p y z : Nat} (h : inB l z = true) (hy : ix c p = y) (hz : ix c (p + 1) = z) : okU l c (p + 1) = (decide ((y : Int) < z) && decide (at0 l y < at0 l z)) := by
  unfold okU
  rw [Nat.add_sub_cancel, hy, hz, h, decide_eq_false (by omega : ¬ p + 1 = 0), Bool.true_and, Bool.false_or]
set_option maxHeartbeats 4000000 in
theorem isSubU_any (l c : List Int) (hcl : c.length ≤ maxLen) (v u : Value) (w : World) (hv : IntsAt w v l) (hu : IntsAt w u c) :
    Calls Try.prog 72 #[v, u, .func (.func 73) #[] #[]] w fun e w' => e = .returned (.bool (incB l c)) ∧ Below w.heap.size w w' := by
  have HV := Lib.hid hv
  have HU := Lib.hid hu
  obtain ⟨a, cap, rfl⟩ := hv.slice
  obtain ⟨au, cu, rfl⟩ := hu.slice
  have HIX := Lib.hid (fun x b hb W (h : IntsAt W (.slice a l.length cap) l) => isIndex_any l x _ b hb W h)
  have HCF := Lib.hid (fun x y b hb W => lessC_any x y b hb W)
  obtain ⟨r, hr⟩ : ∃ r, incB l c = r := ⟨_, rfl⟩
  have HR := Lib.hid (show (List.range c.length).all (okU l c) = r from hr)
  rw [hr]
  unfold maxLen at hcl
  clear hv hu hr
  go_enter Try.func72, Try.ntmps72
  go_wp2
  go_loopw [12] (fun i wr => ∃ k : Nat, k ≤ c.length ∧ i = .int .i64 k ∧ Below w.heap.size w wr ∧ (List.range k).all (okU l c) = true) (fun i _ => c.length - (intOf i).toNat)
  case atStart => exact ⟨0, Nat.zero_le _, rfl, Below.refl _ _, rfl⟩
  case round =>
    obtain ⟨k, hk, rfl, hB, hall⟩ := hrel
    obtain ⟨wk, rfl⟩ : ∃ x, x = wr := ⟨_, rfl⟩
    have HB := Lib.hid hB
    have HALL := Lib.hid hall
    by_cases hlt : k < c.length
    · have HIX1 := Lib.hid (fun x b hb => HIX.out x b hb wk (HV.out.below hB))
      obtain ⟨b, off, rfl, hbb, c0⟩ := HU.out.elem hlt
      have hcell : wk.cell? ⟨b, off + k, none⟩ = some (.int .i64 c[k]) := (hB.cell (p := ⟨b, off + k, none⟩) hbb).trans c0
      have hxk : ix c k = c[k] := ix_get c k hlt
      have k0 : (0 : Int) ≤ (k : Int) := by omega
      have k1 : (k : Int) < (c.length : Int) := by omega
      obtain ⟨x, hx⟩ : ∃ x, c[k] = x := ⟨_, rfl⟩
      rw [hx] at hcell hxk
      have HXK := Lib.hid hxk
      obtain ⟨q, hq⟩ : ∃ q, inB l x = q := ⟨_, rfl⟩
      have HI2 := Lib.hid (HIX1.out x q hq)
      have HQ := Lib.hid hq
      have HFF := Lib.hid (fun (h : okU l c k = false) => (HR.out.symm.trans (all_falseP hlt h)))
      clear hall hB c0 hbb hx hq hxk
      cases q with
      | false =>
        have HRF := Lib.hid (HFF.out (okU_out (by rw [HXK.out]; exact HQ.out)))
        go_wp2_with fail
        refine HI2.out.mono ?_
        rintro e w4 ⟨rfl, rfl⟩
        go_wp2
        go_ret
        exact ⟨by rw [HRF.out]; rfl, HB.out⟩
      | true =>
        obtain ⟨z, hz, hzz⟩ := in_nat HQ.out
        subst hzz
        obtain ⟨bl, ol, hal, hbl, cl⟩ := HV.out.elem hz
        have d2 := (HB.out.cell (p := ⟨bl, ol + z, none⟩) hbl).trans cl
        subst hal
        have z0 : (0 : Int) ≤ (z : Int) := by omega
        have z1 : (z : Int) < (l.length : Int) := by omega
        have hlz := at0_get l z hz
        obtain ⟨lz, hlzz⟩ : ∃ lz, l[z] = lz := ⟨_, rfl⟩
        rw [hlzz] at d2 hlz
        have HLZ := Lib.hid hlz
        have HBL := Lib.hid hbl
        clear hbl cl hlz hlzz hz
        cases k with
        | zero =>
          rw [Nat.add_zero] at hcell
          have HS := Lib.hid (all_succP HALL.out (okU_zero (by rw [HXK.out]; exact HQ.out)))
          go_wp2_with fail
          refine HI2.out.mono ?_
          rintro e w4 ⟨rfl, rfl⟩
          clear hcell d2
          go_wp2
          go_roundw
          case rel => exact ⟨1, by omega, by go_num, HB.out, HS.out⟩
          case measure => simp [intOf]; omega
        | succ p =>
          have hpc : p < c.length := by omega
          obtain ⟨b', off', e', hb', cp⟩ := HU.out.elem hpc
          cases e'
          have dp := (HB.out.cell (p := ⟨b, off + p, none⟩) hb').trans cp
          have hyi := okU_in (all_getP HALL.out (Nat.lt_succ_self p))
          have hyp : ix c p = c[p] := ix_get c p hpc
          rw [hyp] at hyi
          obtain ⟨y, hy, hyy⟩ := in_nat hyi
          rw [hyy] at dp hyp
          have HNX := Lib.hid (okU_next HQ.out hyp HXK.out)
          obtain ⟨bl', ol', hal, hbl', cl'⟩ := HV.out.elem hy
          cases hal
          have d1 := (HB.out.cell (p := ⟨bl, ol + y, none⟩) hbl').trans cl'
          have hly := at0_get l y hy
          obtain ⟨ly, hlyy⟩ : ∃ ly, l[y] = ly := ⟨_, rfl⟩
          rw [hlyy] at d1 hly
          rw [HLZ.out, hly] at HNX
          have y0 : (0 : Int) ≤ (y : Int) := by omega
          have y1 : (y : Int) < (l.length : Int) := by omega
          have hwp : IntKind.i64.wrap (((p + 1 : Nat) : Int) - 1) = (p : Int) := by rw [show ((p + 1 : Nat) : Int) - 1 = (p : Int) by omega]; exact IntWalk.i64_in _ (by omega)
          obtain ⟨k, hkp⟩ : ∃ k, p + 1 = k := ⟨_, rfl⟩
          rw [hkp] at hwp hcell HNX HALL HFF k0 k1 hlt hk ⊢
          have hz : ((k : Int) == 0) = false := by rw [beq_eq_false_iff_ne]; omega
          have p0 : (0 : Int) ≤ (p : Int) := by omega
          have p1 : (p : Int) < (c.length : Int) := by omega
          have HBD := Lib.hid (fun j => HB.out.trans (below_drewN_n w.heap.size wk j))
          clear hb' cp hyi hyp hyy hbl' cl' hly hlyy hy hkp hpc
          by_cases hyz : z ≤ y
          · have t0 : decide (z ≤ y) = true := decide_eq_true hyz
            have HRF := Lib.hid (HFF.out (by rw [HNX.out, decide_eq_false (show ¬ (y : Int) < z by omega)]; rfl))
            go_wp2_with fail
            refine HI2.out.mono ?_
            rintro e w4 ⟨rfl, rfl⟩
            go_wp2_with fail
            go_quiet (fail)
            clear d1 d2 dp hcell
            go_wp2
            go_ret
            exact ⟨by rw [HRF.out]; rfl, HBD.out _⟩
          · have t0 : decide (z ≤ y) = false := decide_eq_false hyz
            rw [decide_eq_true (show (y : Int) < z by omega), Bool.true_and] at HNX
            obtain ⟨g, hg⟩ : ∃ g, decide (ly < lz) = g := ⟨_, rfl⟩
            rw [hg] at HNX
            have HC2 := Lib.hid (HCF.out ly lz g hg)
            clear hg
            cases g with
            | true =>
              have HS := Lib.hid (all_succP HALL.out HNX.out)
              go_wp2_with fail
              refine HI2.out.mono ?_
              rintro e w4 ⟨rfl, rfl⟩
              go_wp2_with fail
              go_quiet (first | exact quiet_idP (HC2.out _))
              clear d1 d2 dp hcell
              go_wp2
              go_roundw
              case rel => exact ⟨k + 1, by omega, by go_num, HBD.out _, HS.out⟩
              case measure => simp [intOf]; omega
            | false =>
              have HRF := Lib.hid (HFF.out HNX.out)
              go_wp2_with fail
              refine HI2.out.mono ?_
              rintro e w4 ⟨rfl, rfl⟩
              go_wp2_with fail
              go_quiet (first | exact quiet_idP (HC2.out _))
              clear d1 d2 dp hcell
              go_wp2
              go_ret
              exact ⟨by rw [HRF.out]; rfl, HBD.out _⟩
    · obtain rfl : k = c.length := by omega
      have HRT := Lib.hid (HR.out.symm.trans hall)
      clear hall hB
      go_wp2
      go_ret
      exact ⟨by rw [HRT.out]; rfl, HB.out⟩
theorem okD_out {l c : List Int} {k : Nat} (h : inB l (ix c k) = false) : okD l c k = false := by unfold okD; rw [h]; rfl
theorem okD_zero {l c : List Int} (h : inB l (ix c 0) = true) : okD l c 0 = true := by unfold okD; rw [h]; rfl
theorem okD_in {l c : List Int} {k : Nat} (h : okD l c k = true) : inB l (ix c k) = true := by
  unfold okD at h
  rw [Bool.and_eq_true] at h
  exact h.1
theorem okD_next {l c : List Int} {p y z : Nat} (h : inB l z = true) (hy : ix c p = y) (hz : ix c (p + 1) = z) : okD l c (p + 1) = (decide ((y : Int) < z) && decide (at0 l z ≤ at0 l y)) := by
  unfold okD
  rw [Nat.add_sub_cancel, hy, hz, h, decide_eq_false (by omega : ¬ p + 1 = 0), Bool.true_and, Bool.false_or]
set_option maxHeartbeats 4000000 in
theorem isSubD_any (l c : List Int) (hcl : c.length ≤ maxLen) (v u : Value) (w : World) (hv : IntsAt w v l) (hu : IntsAt w u c) :
    Calls Try.prog 72 #[v, u, .func (.func 74) #[] #[]] w fun e w' => e = .returned (.bool (desB l c)) ∧ Below w.heap.size w w' := by
  have HV := Lib.hid hv
  have HU := Lib.hid hu
  obtain ⟨a, cap, rfl⟩ := hv.slice
  obtain ⟨au, cu, rfl⟩ := hu.slice
  have HIX := Lib.hid (fun x b hb W (h : IntsAt W (.slice a l.length cap) l) => isIndex_any l x _ b hb W h)
  have HCF := Lib.hid (fun x y b hb W => geqC_any x y b hb W)
  obtain ⟨r, hr⟩ : ∃ r, desB l c = r := ⟨_, rfl⟩
  have HR := Lib.hid (show (List.range c.length).all (okD l c) = r from hr)
  rw [hr]
  unfold maxLen at hcl
  clear hv hu hr
  go_enter Try.func72, Try.ntmps72
  go_wp2
  go_loopw [12] (fun i wr => ∃ k : Nat, k ≤ c.length ∧ i = .int .i64 k ∧ Below w.heap.size w wr ∧ (List.range k).all (okD l c) = true) (fun i _ => c.length - (intOf i).toNat)
  case atStart => exact ⟨0, Nat.zero_le _, rfl, Below.refl _ _, rfl⟩
  case round =>
    obtain ⟨k, hk, rfl, hB, hall⟩ := hrel
    obtain ⟨wk, rfl⟩ : ∃ x, x = wr := ⟨_, rfl⟩
    have HB := Lib.hid hB
    have HALL := Lib.hid hall
    by_cases hlt : k < c.length
    · have HIX1 := Lib.hid (fun x b hb => HIX.out x b hb wk (HV.out.below hB))
      obtain ⟨b, off, rfl, hbb, c0⟩ := HU.out.elem hlt
      have hcell : wk.cell? ⟨b, off + k, none⟩ = some (.int .i64 c[k]) := (hB.cell (p := ⟨b, off + k, none⟩) hbb).trans c0
      have hxk : ix c k = c[k] := ix_get c k hlt
      have k0 : (0 : Int) ≤ (k : Int) := by omega
      have k1 : (k : Int) < (c.length : Int) := by omega
      obtain ⟨x, hx⟩ : ∃ x, c[k] = x := ⟨_, rfl⟩
      rw [hx] at hcell hxk
      have HXK := Lib.hid hxk
      obtain ⟨q, hq⟩ : ∃ q, inB l x = q := ⟨_, rfl⟩
      have HI2 := Lib.hid (HIX1.out x q hq)
      have HQ := Lib.hid hq
      have HFF := Lib.hid (fun (h : okD l c k = false) => (HR.out.symm.trans (all_falseP hlt h)))
      clear hall hB c0 hbb hx hq hxk
      cases q with
      | false =>
        have HRF := Lib.hid (HFF.out (okD_out (by rw [HXK.out]; exact HQ.out)))
        go_wp2_with fail
        refine HI2.out.mono ?_
        rintro e w4 ⟨rfl, rfl⟩
        go_wp2
        go_ret
        exact ⟨by rw [HRF.out]; rfl, HB.out⟩
      | true =>
        obtain ⟨z, hz, hzz⟩ := in_nat HQ.out
        subst hzz
        obtain ⟨bl, ol, hal, hbl, cl⟩ := HV.out.elem hz
        have d2 := (HB.out.cell (p := ⟨bl, ol + z, none⟩) hbl).trans cl
        subst hal
        have z0 : (0 : Int) ≤ (z : Int) := by omega
        have z1 : (z : Int) < (l.length : Int) := by omega
        have hlz := at0_get l z hz
        obtain ⟨lz, hlzz⟩ : ∃ lz, l[z] = lz := ⟨_, rfl⟩
        rw [hlzz] at d2 hlz
        have HLZ := Lib.hid hlz
        have HBL := Lib.hid hbl
        clear hbl cl hlz hlzz hz
        cases k with
        | zero =>
          rw [Nat.add_zero] at hcell
          have HS := Lib.hid (all_succP HALL.out (okD_zero (by rw [HXK.out]; exact HQ.out)))
          go_wp2_with fail
          refine HI2.out.mono ?_
          rintro e w4 ⟨rfl, rfl⟩
          clear hcell d2
          go_wp2
          go_roundw
          case rel => exact ⟨1, by omega, by go_num, HB.out, HS.out⟩
          case measure => simp [intOf]; omega
        | succ p =>
          have hpc : p < c.length := by omega
          obtain ⟨b', off', e', hb', cp⟩ := HU.out.elem hpc
          cases e'
          have dp := (HB.out.cell (p := ⟨b, off + p, none⟩) hb').trans cp
          have hyi := okD_in (all_getP HALL.out (Nat.lt_succ_self p))
          have hyp : ix c p = c[p] := ix_get c p hpc
          rw [hyp] at hyi
          obtain ⟨y, hy, hyy⟩ := in_nat hyi
          rw [hyy] at dp hyp
          have HNX := Lib.hid (okD_next HQ.out hyp HXK.out)
          obtain ⟨bl', ol', hal, hbl', cl'⟩ := HV.out.elem hy
          cases hal
          have d1 := (HB.out.cell (p := ⟨bl, ol + y, none⟩) hbl').trans cl'
          have hly := at0_get l y hy
          obtain ⟨ly, hlyy⟩ : ∃ ly, l[y] = ly := ⟨_, rfl⟩
          rw [hlyy] at d1 hly
          rw [HLZ.out, hly] at HNX
          have y0 : (0 : Int) ≤ (y : Int) := by omega
          have y1 : (y : Int) < (l.length : Int) := by omega
          have hwp : IntKind.i64.wrap (((p + 1 : Nat) : Int) - 1) = (p : Int) := by rw [show ((p + 1 : Nat) : Int) - 1 = (p : Int) by omega]; exact IntWalk.i64_in _ (by omega)
          obtain ⟨k, hkp⟩ : ∃ k, p + 1 = k := ⟨_, rfl⟩
          rw [hkp] at hwp hcell HNX HALL HFF k0 k1 hlt hk ⊢
          have hz : ((k : Int) == 0) = false := by rw [beq_eq_false_iff_ne]; omega
          have p0 : (0 : Int) ≤ (p : Int) := by omega
          have p1 : (p : Int) < (c.length : Int) := by omega
          have HBD := Lib.hid (fun j => HB.out.trans (below_drewN_n w.heap.size wk j))
          clear hb' cp hyi hyp hyy hbl' cl' hly hlyy hy hkp hpc
          by_cases hyz : z ≤ y
          · have t0 : decide (z ≤ y) = true := decide_eq_true hyz
            have HRF := Lib.hid (HFF.out (by rw [HNX.out, decide_eq_false (show ¬ (y : Int) < z by omega)]; rfl))
            go_wp2_with fail
            refine HI2.out.mono ?_
            rintro e w4 ⟨rfl, rfl⟩
            go_wp2_with fail
            go_quiet (fail)
            clear d1 d2 dp hcell
            go_wp2
            go_ret
            exact ⟨by rw [HRF.out]; rfl, HBD.out _⟩
          · have t0 : decide (z ≤ y) = false := decide_eq_false hyz
            rw [decide_eq_true (show (y : Int) < z by omega), Bool.true_and] at HNX
            obtain ⟨g, hg⟩ : ∃ g, decide (lz ≤ ly) = g := ⟨_, rfl⟩
            rw [hg] at HNX
            have HC2 := Lib.hid (HCF.out ly lz g hg)
            clear hg
            cases g with
            | true =>
              have HS := Lib.hid (all_succP HALL.out HNX.out)
              go_wp2_with fail
              refine HI2.out.mono ?_
              rintro e w4 ⟨rfl, rfl⟩
              go_wp2_with fail
              go_quiet (first | exact quiet_idP (HC2.out _))
              clear d1 d2 dp hcell
              go_wp2
              go_roundw
              case rel => exact ⟨k + 1, by omega, by go_num, HBD.out _, HS.out⟩
              case measure => simp [intOf]; omega
            | false =>
              have HRF := Lib.hid (HFF.out HNX.out)
              go_wp2_with fail
              refine HI2.out.mono ?_
              rintro e w4 ⟨rfl, rfl⟩
              go_wp2_with fail
              go_quiet (first | exact quiet_idP (HC2.out _))
              clear d1 d2 dp hcell
              go_wp2
              go_ret
              exact ⟨by rw [HRF.out]; rfl, HBD.out _⟩
    · obtain rfl : k = c.length := by omega
      have HRT := Lib.hid (HR.out.symm.trans hall)
      clear hall hB
      go_wp2
      go_ret
      exact ⟨by rw [HRT.out]; rfl, HB.out⟩
theorem isIncr_any (l c : List Int) (hcl : c.length ≤ maxLen) (v u : Value) (w : World) (hv : IntsAt w v l) (hu : IntsAt w u c) :
    Calls Try.prog 57 #[v, u] w fun e w' => e = .returned (.bool (incB l c)) ∧ Below w.heap.size w w' := by
  have HS := Lib.hid (isSubU_any l c hcl v u w hv hu)
  obtain ⟨a, cap, rfl⟩ := hv.slice
  obtain ⟨au, cu, rfl⟩ := hu.slice
  clear hv hu
  go_enter Try.func57, Try.ntmps57
  go_wp2_with fail
  refine HS.out.mono ?_
  rintro e w1 ⟨rfl, h1⟩
  have HB := Lib.hid h1
  clear h1
  go_wp2
  go_ret
  exact ⟨rfl, HB.out⟩
end Go.Proofs.Yteceahbnafaeoaa
