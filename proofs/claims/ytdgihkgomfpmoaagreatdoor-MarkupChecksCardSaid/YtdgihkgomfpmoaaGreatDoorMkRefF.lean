/- The reference's Find, Check given. -/
import Derived.Test.YtdgihkgomfpmoaaGreatDoorMkShare
import Derived.Test.YtdgihkgomfpmoaaGreatDoorMkRefN
import Derived.Deep.RegionHeld3
namespace Go.Proofs.YtdgihkgomfpmoaaGreatDoor
set_option linter.unusedSimpArgs false
set_option linter.unusedVariables false
set_option maxRecDepth 100000
open Go.RowKit Go.Deep

set_option maxHeartbeats 4000000 in
theorem refFind_any (HC : RefChk) : RefFnd := by
  intro L i fk e v w hr hv hb hI
  have HV := Lib.hid hv
  obtain ⟨a, cap, rfl⟩ := hv.slice
  have hl := hb.1
  by_cases hc : chkR L = 0
  · have HCK := Lib.hid (HC L 0 _ w hc hv hb)
    have HR := Lib.hid (show (match L.findIdx? (inX i) with | some k => ((k : Int), (0 : Int)) | none => (0, 2)) = (fk, e) by
      unfold findR at hr
      rwa [if_pos hc] at hr)
    obtain ⟨hpl, hval⟩ := chk_len hc
    have HFM := Lib.hid (fun k (h : k < L.length) W => form_any L[k].k L[k].n L[k].v L[k].o (form L[k]) rfl (by have := (chk_sm hc L[k] (List.getElem_mem h)).2; omega) W)
    have HVO := Lib.hid (fun x (hx : x ∈ L) => (val_mem L _ _ hval x hx).2.2)
    have HFL := Lib.hid (fun k (h : k < L.length) => show (form L[k]).length ≤ 65536 by
      have h1 := prn_take L (k + 1)
      rw [prn_step L k h, List.length_append] at h1
      omega)
    clear hv hb hc hr hval hI
    go_enter Tryz.func19, Tryz.ntmps19
    go_wp2_with fail
    refine HCK.out.mono ?_
    rintro e' w1 ⟨rfl, h1⟩
    have B1 := Lib.hid h1
    clear h1
    go_wp2
    go_loopw [6] (fun iv wr => ∃ k : Nat, k ≤ L.length ∧ iv = .int .i64 k ∧ Hid (∀ j (h : j < L.length), j < k → inX i L[j] = false) ∧ Below w.heap.size w wr) (fun iv _ => L.length - (intOf iv).toNat)
    case atStart => exact ⟨0, Nat.zero_le _, rfl, Lib.hid (fun j _ hj => by omega), B1.out⟩
    case round =>
      obtain ⟨k, hk, rfl, HNO, hB⟩ := hrel
      obtain ⟨wk, rfl⟩ : ∃ x, x = wr := ⟨_, rfl⟩
      by_cases hlt : k < L.length
      · obtain ⟨b, off, rfl, hbb, c1, c2, c3, c4⟩ := HV.out.elem hlt
        have d1 := (hB.cell (p := ⟨b, off + k * 4, none⟩) hbb).trans c1
        have d2 := (hB.cell (p := ⟨b, off + k * 4 + 1, none⟩) hbb).trans c2
        have d3 := (hB.cell (p := ⟨b, off + k * 4 + 2, none⟩) hbb).trans c3
        have d4 := (hB.cell (p := ⟨b, off + k * 4 + 3, none⟩) hbb).trans c4
        have HF := Lib.hid (HFM.out k hlt)
        have hfl := HFL.out k hlt
        obtain ⟨hx0, hx1⟩ := HVO.out L[k] (List.getElem_mem hlt)
        have hyes := fun h => find_hit hlt HNO.out (i := i) h
        have hnext := fun (h : inX i L[k] = false) => show ∀ j (h : j < L.length), j < k + 1 → inX i L[j] = false from fun j hj hjk => by
          rcases Nat.lt_or_ge j k with h1 | h1
          · exact HNO.out j hj h1
          · obtain rfl : j = k := by omega
            exact h
        obtain ⟨x, hx⟩ : ∃ x, L[k] = x := ⟨_, rfl⟩
        rw [hx] at d1 d2 d3 d4 HF hfl hx0 hx1 hyes hnext
        obtain ⟨o, ho⟩ : ∃ z, x.o = z := ⟨_, rfl⟩
        have hin : inX i x = (decide (o ≤ i) && decide (i < o + (form x).length)) := by unfold inX; rw [ho]
        rw [ho] at d4 hx0 hx1 HF
        obtain ⟨fl, hfle⟩ : ∃ z, (form x).length = z := ⟨_, rfl⟩
        rw [hfle] at hin hfl
        have hsz : (baL (form x)).size = fl := by rw [baL_size, hfle]
        have HB := Lib.hid hB
        have hbw : b < wk.heap.size := Nat.lt_of_lt_of_le hbb hB.size
        have i0 : (0 : Int) ≤ (k : Int) := by omega
        have i1 : (k : Int) < (L.length : Int) := by omega
        by_cases h1 : o ≤ i
        · have q1 : decide (o ≤ i) = true := decide_eq_true h1
          rw [q1, Bool.true_and] at hin
          obtain ⟨t, ht⟩ : ∃ t : Int, o + (fl : Int) = t := ⟨_, rfl⟩
          have hw : IntKind.i64.wrap (o + (fl : Int)) = t := by rw [ht]; exact IntWalk.i64_in _ (by omega)
          rw [ht] at hin
          have HD := Lib.hid (show wk.drew.cell? ⟨b, off + k * 4, none⟩ = some (intV x.k) ∧ wk.drew.cell? ⟨b, off + k * 4 + 1, none⟩ = some (sV x.n) ∧ wk.drew.cell? ⟨b, off + k * 4 + 2, none⟩ = some (sV x.v) ∧ wk.drew.cell? ⟨b, off + k * 4 + 3, none⟩ = some (intV o) from ⟨d1, d2, d3, d4⟩)
          by_cases h2 : i < t
          · have q2 : decide (i < t) = true := decide_eq_true h2
            have HY := Lib.hid (show ((k : Int), (0 : Int)) = (fk, e) by
              have h3 := HR.out
              rw [hyes (by rw [hin]; exact q2)] at h3
              exact h3)
            clear hyes hnext hin hx hfle ht hB c1 c2 c3 c4 d1 d2 d3 d4 ho
            go_wp2_with fail
            go_region_held3 (fun w' => w'.cell? ⟨b, off + k * 4, none⟩ = some (intV x.k) ∧ w'.cell? ⟨b, off + k * 4 + 1, none⟩ = some (sV x.n) ∧ w'.cell? ⟨b, off + k * 4 + 2, none⟩ = some (sV x.v) ∧ w'.cell? ⟨b, off + k * 4 + 3, none⟩ = some (intV o))
              (first | exact HD.out | exact HS2.out)
              (first | ((try go_simp); go_at_call 31; refine (HF.out _).mono ?_; rintro e' w2 ⟨rfl, h5⟩; have HB2 := Lib.hid h5; have HS2 := Lib.hid (And.intro ((h5.cell (p := ⟨b, off + k * 4, none⟩) hbw).trans HD.out.1) (And.intro ((h5.cell (p := ⟨b, off + k * 4 + 1, none⟩) hbw).trans HD.out.2.1) (And.intro ((h5.cell (p := ⟨b, off + k * 4 + 2, none⟩) hbw).trans HD.out.2.2.1) ((h5.cell (p := ⟨b, off + k * 4 + 3, none⟩) hbw).trans HD.out.2.2.2)))); clear h5))
            go_wp2
            go_ret2
            exact ⟨by have h3 := HY.out; cases h3; rfl, below_then (below_drew HB.out) HB2.out⟩
          · have q2 : decide (i < t) = false := decide_eq_false h2
            have HN := Lib.hid (hnext (by rw [hin]; exact q2))
            clear hyes hnext hin hx hfle ht hB c1 c2 c3 c4 d1 d2 d3 d4 ho
            go_wp2_with fail
            go_region_held3 (fun w' => w'.cell? ⟨b, off + k * 4, none⟩ = some (intV x.k) ∧ w'.cell? ⟨b, off + k * 4 + 1, none⟩ = some (sV x.n) ∧ w'.cell? ⟨b, off + k * 4 + 2, none⟩ = some (sV x.v) ∧ w'.cell? ⟨b, off + k * 4 + 3, none⟩ = some (intV o))
              (first | exact HD.out | exact HS2.out)
              (first | ((try go_simp); go_at_call 31; refine (HF.out _).mono ?_; rintro e' w2 ⟨rfl, h5⟩; have HB2 := Lib.hid h5; have HS2 := Lib.hid (And.intro ((h5.cell (p := ⟨b, off + k * 4, none⟩) hbw).trans HD.out.1) (And.intro ((h5.cell (p := ⟨b, off + k * 4 + 1, none⟩) hbw).trans HD.out.2.1) (And.intro ((h5.cell (p := ⟨b, off + k * 4 + 2, none⟩) hbw).trans HD.out.2.2.1) ((h5.cell (p := ⟨b, off + k * 4 + 3, none⟩) hbw).trans HD.out.2.2.2)))); clear h5))
            go_wp2
            go_roundw
            case rel => exact ⟨k + 1, by omega, by go_num, HN, below_then (below_drew HB.out) HB2.out⟩
            case measure => simp [intOf]; omega
        · have q1 : decide (o ≤ i) = false := decide_eq_false h1
          have HN := Lib.hid (hnext (by rw [hin, q1, Bool.false_and]))
          clear hyes hnext hin hx hfle hB c1 c2 c3 ho
          go_wp2_with fail
          go_quiet (fail)
          clear c4 d1 d2 d3 d4
          go_wp2
          go_roundw
          case rel => exact ⟨k + 1, by omega, by go_num, HN, HB.out.trans (below_drewN_n _ _ _)⟩
          case measure => simp [intOf]; omega
      · have HY := Lib.hid (show ((0 : Int), (2 : Int)) = (fk, e) by
          have h3 := HR.out
          rw [find_miss (fun j hj => HNO.out j hj (by omega))] at h3
          exact h3)
        have HB := Lib.hid hB
        clear hB
        go_wp2
        go_ret2
        exact ⟨by have h3 := HY.out; cases h3; rfl, HB.out⟩
  · have hn : (0, 1) = (fk, e) := by
      unfold findR at hr
      rwa [if_neg hc] at hr
    cases hn
    obtain ⟨f, hf⟩ : ∃ f, chkR L = f := ⟨_, rfl⟩
    have hf0 : (f == 0) = false := by rw [← hf]; simpa using hc
    have hf1 : (f != 0) = true := by rw [← hf]; simpa using hc
    have HCK := Lib.hid (HC L f _ w hf hv hb)
    clear hv hb hc hr hf
    go_enter Tryz.func19, Tryz.ntmps19
    go_wp2_with fail
    refine HCK.out.mono ?_
    rintro e' w1 ⟨rfl, h1⟩
    have B1 := Lib.hid h1
    clear h1
    go_wp2
    go_ret2
    exact ⟨rfl, B1.out⟩
end Go.Proofs.YtdgihkgomfpmoaaGreatDoor
