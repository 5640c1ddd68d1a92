/- The program of layer 9: Find, Nested, Tags; all its contracts together. -/
import Derived.Test.YtdgihkgomfpmoaaGreatDoorMkPX
import Derived.Deep.RegionHeld3
namespace Go.Proofs.YtdgihkgomfpmoaaGreatDoor
set_option linter.unusedSimpArgs false
set_option linter.unusedVariables false
set_option maxRecDepth 100000
open Go.RowKit Go.Deep

set_option maxHeartbeats 4000000 in
theorem find_any (L : List Lx) (i fk e : Int) (v : Value) (w : World) [T w] (hr : findR L i = (fk, e)) (hv : LexAt w v L) (hb : LxB L) (hI : I64 i) :
    Calls Tryz.prog 18 #[v, intV i] w fun en w' => en = .returned (.tuple #[intV fk, intV e]) ∧ Below w.heap.size w w' := by
  have HV := Lib.hid hv
  obtain ⟨a, cap, rfl⟩ := hv.slice
  have hl := hb.1
  by_cases hc : chkR L = 0
  · have HCK := Lib.hid (check_any L 0 _ w hc hv hb)
    have HR := Lib.hid (show (match L.findIdx? (inX i) with | some k => ((k : Int), (0 : Int)) | none => (0, 2)) = (fk, e) by
      unfold findR at hr
      rwa [if_pos hc] at hr)
    obtain ⟨hpl, hval⟩ := chk_len hc
    have HFM := Lib.hid (written_of hc hb)
    have HVO := Lib.hid (fun x (hx : x ∈ L) => (val_mem L _ _ hval x hx).2.2)
    have HFL := Lib.hid (fun k (h : k < L.length) => form_few hc k h)
    clear hv hb hc hr hval hI
    go_enter Tryz.func18, Tryz.ntmps18
    go_wp2_with fail
    refine HCK.out.mono ?_
    rintro e' w1 ⟨rfl, h1⟩
    have B1 := Lib.hid h1
    clear h1
    go_wp2
    go_loopw [13] (fun iv wr => ∃ k : Nat, k ≤ L.length ∧ iv = .int .i64 k ∧ Hid (∀ j (h : j < L.length), j < k → inX i L[j] = false) ∧ Below w.heap.size w wr) (fun iv _ => L.length - (intOf iv).toNat)
    case atStart => exact ⟨0, Nat.zero_le _, rfl, Lib.hid (fun j _ hj => by omega), B1.out⟩
    case round =>
      obtain ⟨k, hk, rfl, HNO, hB⟩ := hrel
      obtain ⟨wk, rfl⟩ : ∃ x, x = wr := ⟨_, rfl⟩
      by_cases hlt : k < L.length
      · obtain ⟨b, off, rfl, hbb, c1, c2, c3, c4⟩ := HV.out.elem hlt
        have d1 := (hB.cell (p := ⟨b, off + k * 4, none⟩) hbb).trans c1
        have d2 := (hB.cell (p := ⟨b, off + k * 4 + 1, none⟩) hbb).trans c2
        have d3 := (hB.cell (p := ⟨b, off + k * 4 + 2, none⟩) hbb).trans c3
        have d4 := (hB.cell (p := ⟨b, off + k * 4 + 3, none⟩) hbb).trans c4
        have HF := Lib.hid (HFM.out k hlt)
        have hfl := HFL.out k hlt
        obtain ⟨hx0, hx1⟩ := HVO.out L[k] (List.getElem_mem hlt)
        have hyes := fun h => find_hit hlt HNO.out (i := i) h
        have hnext := fun (h : inX i L[k] = false) => show ∀ j (h : j < L.length), j < k + 1 → inX i L[j] = false from fun j hj hjk => by
          rcases Nat.lt_or_ge j k with h1 | h1
          · exact HNO.out j hj h1
          · obtain rfl : j = k := by omega
            exact h
        obtain ⟨x, hx⟩ : ∃ x, L[k] = x := ⟨_, rfl⟩
        rw [hx] at d1 d2 d3 d4 HF hfl hx0 hx1 hyes hnext
        obtain ⟨o, ho⟩ : ∃ z, x.o = z := ⟨_, rfl⟩
        have hin : inX i x = (decide (o ≤ i) && decide (i < o + (form x).length)) := by unfold inX; rw [ho]
        rw [ho] at d4 hx0 hx1 HF
        obtain ⟨fl, hfle⟩ : ∃ z, (form x).length = z := ⟨_, rfl⟩
        rw [hfle] at hin hfl
        have hsz : (baL (form x)).size = fl := by rw [baL_size, hfle]
        obtain ⟨wB, hwB⟩ : ∃ y, wk.alloc (.cells #[intV x.k, sV x.n, sV x.v, intV o] 41) = y := ⟨_, rfl⟩
        have hA : Below wk.heap.size wk wB := by rw [← hwB]; exact below_alloc _ _
        have hbx : wB.heap[wk.heap.size]? = some (.cells #[intV x.k, sV x.n, sV x.v, intV o] 41 (0, 0)) := by rw [← hwB]; exact World.alloc_heap_new _ _
        obtain ⟨l1, l2, l3, l4⟩ := heap4P hbx
        have HB := Lib.hid (below_then hB hA)
        have hbw : wk.heap.size < wB.heap.size := by rw [← hwB]; simp
        have HWB := Lib.hid hwB
        have i0 : (0 : Int) ≤ (k : Int) := by omega
        have i1 : (k : Int) < (L.length : Int) := by omega
        by_cases h1 : o ≤ i
        · have q1 : decide (o ≤ i) = true := decide_eq_true h1
          rw [q1, Bool.true_and] at hin
          obtain ⟨t, ht⟩ : ∃ t : Int, o + (fl : Int) = t := ⟨_, rfl⟩
          have hw : IntKind.i64.wrap (o + (fl : Int)) = t := by rw [ht]; exact IntWalk.i64_in _ (by omega)
          rw [ht] at hin
          have HD := Lib.hid (show wB.drew.cell? ⟨wk.heap.size, 0, none⟩ = some (intV x.k) ∧ wB.drew.cell? ⟨wk.heap.size, 1, none⟩ = some (sV x.n) ∧ wB.drew.cell? ⟨wk.heap.size, 2, none⟩ = some (sV x.v) ∧ wB.drew.cell? ⟨wk.heap.size, 3, none⟩ = some (intV o) from ⟨l1, l2, l3, l4⟩)
          by_cases h2 : i < t
          · have q2 : decide (i < t) = true := decide_eq_true h2
            have HY := Lib.hid (show ((k : Int), (0 : Int)) = (fk, e) by
              have h3 := HR.out
              rw [hyes (by rw [hin]; exact q2)] at h3
              exact h3)
            clear hyes hnext hin hx hfle ht hB c1 c2 c3 c4 ho hwB hA hbx
            go_upto_region 6 with fail
            rw [HWB.out]
            clear l1 l2 l3 l4 d1 d2 d3 d4
            go_region_held3 (fun w' => w'.cell? ⟨wk.heap.size, 0, none⟩ = some (intV x.k) ∧ w'.cell? ⟨wk.heap.size, 1, none⟩ = some (sV x.n) ∧ w'.cell? ⟨wk.heap.size, 2, none⟩ = some (sV x.v) ∧ w'.cell? ⟨wk.heap.size, 3, none⟩ = some (intV o))
              (first | exact HD.out | exact HS2.out)
              (first | ((try go_simp); go_at_call 30; refine (HF.out _).mono ?_; rintro e' w2 ⟨rfl, h5⟩; have HB2 := Lib.hid h5; have HS2 := Lib.hid (And.intro ((h5.cell (p := ⟨wk.heap.size, 0, none⟩) hbw).trans HD.out.1) (And.intro ((h5.cell (p := ⟨wk.heap.size, 1, none⟩) hbw).trans HD.out.2.1) (And.intro ((h5.cell (p := ⟨wk.heap.size, 2, none⟩) hbw).trans HD.out.2.2.1) ((h5.cell (p := ⟨wk.heap.size, 3, none⟩) hbw).trans HD.out.2.2.2)))); clear h5))
            go_wp2
            go_ret2
            exact ⟨by have h3 := HY.out; cases h3; rfl, below_then (below_drew HB.out) HB2.out⟩
          · have q2 : decide (i < t) = false := decide_eq_false h2
            have HN := Lib.hid (hnext (by rw [hin]; exact q2))
            clear hyes hnext hin hx hfle ht hB c1 c2 c3 c4 ho hwB hA hbx
            go_upto_region 6 with fail
            rw [HWB.out]
            clear l1 l2 l3 l4 d1 d2 d3 d4
            go_region_held3 (fun w' => w'.cell? ⟨wk.heap.size, 0, none⟩ = some (intV x.k) ∧ w'.cell? ⟨wk.heap.size, 1, none⟩ = some (sV x.n) ∧ w'.cell? ⟨wk.heap.size, 2, none⟩ = some (sV x.v) ∧ w'.cell? ⟨wk.heap.size, 3, none⟩ = some (intV o))
              (first | exact HD.out | exact HS2.out)
              (first | ((try go_simp); go_at_call 30; refine (HF.out _).mono ?_; rintro e' w2 ⟨rfl, h5⟩; have HB2 := Lib.hid h5; have HS2 := Lib.hid (And.intro ((h5.cell (p := ⟨wk.heap.size, 0, none⟩) hbw).trans HD.out.1) (And.intro ((h5.cell (p := ⟨wk.heap.size, 1, none⟩) hbw).trans HD.out.2.1) (And.intro ((h5.cell (p := ⟨wk.heap.size, 2, none⟩) hbw).trans HD.out.2.2.1) ((h5.cell (p := ⟨wk.heap.size, 3, none⟩) hbw).trans HD.out.2.2.2)))); clear h5))
            go_wp2
            go_roundw
            case rel => exact ⟨k + 1, by omega, by go_num, HN, below_then (below_drew HB.out) HB2.out⟩
            case measure => simp [intOf]; omega
        · have q1 : decide (o ≤ i) = false := decide_eq_false h1
          have HN := Lib.hid (hnext (by rw [hin, q1, Bool.false_and]))
          clear hyes hnext hin hx hfle hB c1 c2 c3 c4 ho hwB hA hbx
          go_upto_region 6 with fail
          rw [HWB.out]
          clear d1 d2 d3 d4
          go_quiet (fail)
          clear l1 l2 l3 l4
          go_wp2
          go_roundw
          case rel => exact ⟨k + 1, by omega, by go_num, HN, HB.out.trans (below_drewN_n _ _ _)⟩
          case measure => simp [intOf]; omega
      · have HY := Lib.hid (show ((0 : Int), (2 : Int)) = (fk, e) by
          have h3 := HR.out
          rw [find_miss (fun j hj => HNO.out j hj (by omega))] at h3
          exact h3)
        have HB := Lib.hid hB
        clear hB
        go_wp2
        go_ret2
        exact ⟨by have h3 := HY.out; cases h3; rfl, HB.out⟩
  · have hn : (0, 1) = (fk, e) := by
      unfold findR at hr
      rwa [if_neg hc] at hr
    cases hn
    obtain ⟨f, hf⟩ : ∃ f, chkR L = f := ⟨_, rfl⟩
    have hf1 : (f != 0) = true := by rw [← hf]; simpa using hc
    have HCK := Lib.hid (check_any L f _ w hf hv hb)
    clear hv hb hc hr hf
    go_enter Tryz.func18, Tryz.ntmps18
    go_wp2_with fail
    refine HCK.out.mono ?_
    rintro e' w1 ⟨rfl, h1⟩
    have B1 := Lib.hid h1
    clear h1
    go_wp2
    go_ret2
    exact ⟨rfl, B1.out⟩
end Go.Proofs.YtdgihkgomfpmoaaGreatDoor
