/- passStarsOfBoth of the program. Written by tools/gen_gpboth.py. -/
import Derived.Test.YtjjdihkjkmhjnaaGpReach
namespace Go.Proofs.Ytjjdihkjkmhjnaa
set_option linter.unusedSimpArgs false
set_option linter.unusedVariables false
set_option maxRecDepth 100000
open Go.RowKit Go.Deep Go.Maps

theorem reach_int (mb n i j : Nat) (x y : Int) (hx : (i : Int) = x) (hy : (j : Int) = y) (F : Fn) (s : ByteArray) (w : World) (hm : MapAt w mb n F) (hn : n < maxLen) (hi : i ≤ 64) (hj : j ≤ 64) (hs : s.size ≤ maxLen) :
    Calls Try.prog 78 #[.map (some mb), .agg #[intV x, intV y], .string s] w (ReachPost mb n (noteF F i j s) w) := by
  subst hx hy
  exact reach_at mb n i j F s w hm hn hi hj hs
theorem stF_some {l m : List El} {i j : Nat} {F : Fn} {s : ByteArray} {a b : Bool} (hF : F i j = some s) (h1 : starAt l i = a) (h2 : starAt m j = b) :
    stF l m i j F = if b then noteF (if a then noteF F (i + 1) j s else F) i (j + 1) s else (if a then noteF F (i + 1) j s else F) := by
  rw [stF, hF, h1, h2]
theorem stF_none {l m : List El} {i j : Nat} {F : Fn} (hF : F i j = none) : stF l m i j F = F := by rw [stF, hF]
/-- elements lie in no map -/
theorem EAt.grown {W W' : World} {v : Value} {l : List El} {mb : Nat} (h : EAt W v l) (hm : ∃ es clock, W.heap[mb]? = some (.map es clock)) (hg : W.grownBy W' (some mb)) : EAt W' v l := by
  obtain ⟨a, cap, rfl, hc⟩ := h
  refine ⟨a, cap, rfl, fun h0 => ?_⟩
  obtain ⟨b, off, rfl, hb, hcs⟩ := hc h0
  have hne : b ≠ mb := by
    rintro rfl
    obtain ⟨es, clock, hm⟩ := hm
    have := hcs 0 h0 0 _ (elL_text _)
    simp [World.cell?, hm] at this
  exact ⟨b, off, rfl, Nat.lt_of_lt_of_le hb hg.size, fun j hj i u hu => hg.cell (hcs j hj i u hu) (by simpa using hne)⟩
theorem grown_self (A : World) (row : Option Nat) : A.grownBy A row := ⟨rfl, rfl, rfl, Nat.le_refl _, fun _ _ _ => rfl⟩
def BothPost (mb n : Nat) (F : Fn) (w : World) (e : Ending) (w' : World) : Prop := e = .returned (.tuple #[]) ∧ MapAt w' mb n F ∧ w.grownBy w' (some mb)
set_option maxHeartbeats 8000000 in
theorem both_any (l m : List El) (vl vm : Value) (mb N : Nat) (F : Fn) (w : World) (hl : EAt w vl l) (hm : EAt w vm m) (hln : l.length ≤ 64) (hmn : m.length ≤ 64) (hM : MapAt w mb N F) (hN : N ≤ 100000) :
    Calls Try.prog 66 #[vl, vm, .map (some mb)] w (BothPost mb (N + 130 * 65) (ouF l m F (l.length + 1)) w) := by
  have HVL := Lib.hid hl
  have HVM := Lib.hid hm
  have HMB := Lib.hid hM.block
  obtain ⟨va, vc, rfl⟩ := hl.slice
  obtain ⟨va', vc', rfl⟩ := hm.slice
  have HM0 := Lib.hid hM
  clear hl hm hM
  go_enter Try.func66, Try.ntmps66
  go_wp2_with fail
  go_loopw [13] (fun v13 wr => ∃ (i q : Nat), i ≤ l.length + 1 ∧ v13 = .int .i64 i ∧ q ≤ N + 130 * i ∧ MapAt wr mb q (ouF l m F i) ∧ w.grownBy wr (some mb)) (fun v13 _ => l.length + 1 - (intOf v13).toNat)
  case atStart => exact ⟨0, N, Nat.zero_le _, rfl, Nat.le_refl _, HM0.out, grown_self _ _⟩
  case round =>
    obtain ⟨i, q0, hi, rfl, hq0, hM, hG⟩ := hrel
    obtain ⟨wi, rfl⟩ : ∃ x, x = wr := ⟨_, rfl⟩
    have HMI := Lib.hid hM
    have HGI := Lib.hid hG
    clear hM hG
    by_cases hlt : i < l.length + 1
    · have hi0 : (i : Int) < l.length + 1 := by omega
      go_wp2_with fail
      go_loopw [19] (fun v19 wr => ∃ (j q : Nat), j ≤ m.length + 1 ∧ v19 = .int .i64 j ∧ q ≤ N + 130 * i + 2 * j ∧ MapAt wr mb q (inF l m i (ouF l m F i) j) ∧ w.grownBy wr (some mb)) (fun v19 _ => m.length + 1 - (intOf v19).toNat)
      case atStart => exact ⟨0, q0, Nat.zero_le _, rfl, by omega, HMI.out, HGI.out⟩
      case round =>
        obtain ⟨j, q, hj, rfl, hq, hM, hG⟩ := hrel
        obtain ⟨wj, rfl⟩ : ∃ x, x = wr := ⟨_, rfl⟩
        have HM := Lib.hid hM
        have HG := Lib.hid hG
        clear hM hG
        by_cases hjt : j < m.length + 1
        · have hj0 : (j : Int) < m.length + 1 := by omega
          cases hF : inF l m i (ouF l m F i) j i j with
          | none =>
            have HF := Lib.hid hF
            clear hF
            go_wp2_with (refine wpList_look_none rfl (.tmp 23) (.tmp 26) rfl HM.out rfl (i := i) (j := j) rfl (by omega) (by omega) HF.out ?_; intro k)
            refine ⟨⟨j + 1, q, by omega, by go_num, by omega, ?_, HG.out⟩, by simp [intOf]; omega⟩
            rw [inF, stF_none HF.out]; exact HM.out
          | some s =>
            have HF := Lib.hid hF
            clear hF
            go_upto_region 8 with (refine wpList_look_some rfl (.tmp 23) (.tmp 26) rfl HM.out rfl (i := i) (j := j) rfl (by omega) (by omega) HF.out ?_; intro hsz; have HSZ := Lib.hid hsz; clear hsz)
            by_cases hil : i < l.length
            · obtain ⟨bb1, off1, hva1, hbb1, hst1⟩ := (HVL.out.grown HMB.out HG.out).star hil
              obtain ⟨st1, hs1⟩ : ∃ st1, starAt l i = st1 := ⟨_, rfl⟩
              rw [hs1] at hst1
              have HST1 := Lib.hid hs1
              clear hs1
              subst hva1
              cases st1 with
              | true =>
                have HRE := Lib.hid (reach_int mb q (i + 1) j ((i : Int) + 1) (j : Int) (by omega) rfl (inF l m i (ouF l m F i) j) s wj HM.out (by unfold maxLen; omega) (by omega) (by omega) HSZ.out)
                go_wp2_with fail
                refine HRE.out.mono ?_
                rintro e wy ⟨rfl, hy1, hy2⟩
                have HM2 := Lib.hid hy1
                have HG2 := Lib.hid (HG.out.trans hy2)
                clear hy1 hy2 hst1
                by_cases hjm : j < m.length
                · obtain ⟨bb2, off2, hva2, hbb2, hst2⟩ := (HVM.out.grown HMB.out HG2.out).star hjm
                  obtain ⟨st2, hs2⟩ : ∃ st2, starAt m j = st2 := ⟨_, rfl⟩
                  rw [hs2] at hst2
                  have HST2 := Lib.hid hs2
                  clear hs2
                  subst hva2
                  cases st2 with
                  | true =>
                    have HRE2 := Lib.hid (reach_int mb (q + 1) i (j + 1) (i : Int) ((j : Int) + 1) rfl (by omega) (noteF (inF l m i (ouF l m F i) j) (i + 1) j s) s wy HM2.out (by unfold maxLen; omega) (by omega) (by omega) HSZ.out)
                    go_wp2_with fail
                    refine HRE2.out.mono ?_
                    rintro e wz ⟨rfl, hz1, hz2⟩
                    have HZ := Lib.hid (And.intro hz1 (HG2.out.trans hz2))
                    clear hz1 hz2
                    go_wp2_with fail
                    refine ⟨⟨j + 1, (q + 1) + 1, by omega, by go_num, by omega, ?_, HZ.out.2⟩, by simp [intOf]; omega⟩
                    rw [inF, stF_some HF.out HST1.out HST2.out]; exact HZ.out.1
                  | false =>
                    go_wp2_with fail
                    refine ⟨⟨j + 1, (q + 1), by omega, by go_num, by omega, ?_, HG2.out⟩, by simp [intOf]; omega⟩
                    rw [inF, stF_some HF.out HST1.out HST2.out]; exact HM2.out
                · have HST2 := Lib.hid (starAt_out (l := m) (i := j) (by omega))
                  go_wp2_with fail
                  refine ⟨⟨j + 1, (q + 1), by omega, by go_num, by omega, ?_, HG2.out⟩, by simp [intOf]; omega⟩
                  rw [inF, stF_some HF.out HST1.out HST2.out]; exact HM2.out
              | false =>
                by_cases hjm : j < m.length
                · obtain ⟨bb2, off2, hva2, hbb2, hst2⟩ := (HVM.out.grown HMB.out HG.out).star hjm
                  obtain ⟨st2, hs2⟩ : ∃ st2, starAt m j = st2 := ⟨_, rfl⟩
                  rw [hs2] at hst2
                  have HST2 := Lib.hid hs2
                  clear hs2
                  subst hva2
                  cases st2 with
                  | true =>
                    have HRE2 := Lib.hid (reach_int mb q i (j + 1) (i : Int) ((j : Int) + 1) rfl (by omega) (inF l m i (ouF l m F i) j) s wj HM.out (by unfold maxLen; omega) (by omega) (by omega) HSZ.out)
                    go_wp2_with fail
                    refine HRE2.out.mono ?_
                    rintro e wz ⟨rfl, hz1, hz2⟩
                    have HZ := Lib.hid (And.intro hz1 (HG.out.trans hz2))
                    clear hz1 hz2
                    go_wp2_with fail
                    refine ⟨⟨j + 1, q + 1, by omega, by go_num, by omega, ?_, HZ.out.2⟩, by simp [intOf]; omega⟩
                    rw [inF, stF_some HF.out HST1.out HST2.out]; exact HZ.out.1
                  | false =>
                    go_wp2_with fail
                    refine ⟨⟨j + 1, q, by omega, by go_num, by omega, ?_, HG.out⟩, by simp [intOf]; omega⟩
                    rw [inF, stF_some HF.out HST1.out HST2.out]; exact HM.out
                · have HST2 := Lib.hid (starAt_out (l := m) (i := j) (by omega))
                  go_wp2_with fail
                  refine ⟨⟨j + 1, q, by omega, by go_num, by omega, ?_, HG.out⟩, by simp [intOf]; omega⟩
                  rw [inF, stF_some HF.out HST1.out HST2.out]; exact HM.out
            · have HST1 := Lib.hid (starAt_out (l := l) (i := i) (by omega))
              by_cases hjm : j < m.length
              · obtain ⟨bb2, off2, hva2, hbb2, hst2⟩ := (HVM.out.grown HMB.out HG.out).star hjm
                obtain ⟨st2, hs2⟩ : ∃ st2, starAt m j = st2 := ⟨_, rfl⟩
                rw [hs2] at hst2
                have HST2 := Lib.hid hs2
                clear hs2
                subst hva2
                cases st2 with
                | true =>
                  have HRE2 := Lib.hid (reach_int mb q i (j + 1) (i : Int) ((j : Int) + 1) rfl (by omega) (inF l m i (ouF l m F i) j) s wj HM.out (by unfold maxLen; omega) (by omega) (by omega) HSZ.out)
                  go_wp2_with fail
                  refine HRE2.out.mono ?_
                  rintro e wz ⟨rfl, hz1, hz2⟩
                  have HZ := Lib.hid (And.intro hz1 (HG.out.trans hz2))
                  clear hz1 hz2
                  go_wp2_with fail
                  refine ⟨⟨j + 1, q + 1, by omega, by go_num, by omega, ?_, HZ.out.2⟩, by simp [intOf]; omega⟩
                  rw [inF, stF_some HF.out HST1.out HST2.out]; exact HZ.out.1
                | false =>
                  go_wp2_with fail
                  refine ⟨⟨j + 1, q, by omega, by go_num, by omega, ?_, HG.out⟩, by simp [intOf]; omega⟩
                  rw [inF, stF_some HF.out HST1.out HST2.out]; exact HM.out
              · have HST2 := Lib.hid (starAt_out (l := m) (i := j) (by omega))
                go_wp2_with fail
                refine ⟨⟨j + 1, q, by omega, by go_num, by omega, ?_, HG.out⟩, by simp [intOf]; omega⟩
                rw [inF, stF_some HF.out HST1.out HST2.out]; exact HM.out
        · obtain rfl : j = m.length + 1 := by omega
          go_wp2_with fail
          exact ⟨⟨i + 1, q, by omega, by go_num, by omega, HM.out, HG.out⟩, by simp [intOf]; omega⟩
    · obtain rfl : i = l.length + 1 := by omega
      go_wp2_with fail
      go_end0
      exact ⟨rfl, HMI.out.mono (by omega), HGI.out⟩
end Go.Proofs.Ytjjdihkjkmhjnaa
