/- The reference's Print, Check given. -/
import Derived.Test.YtdgihkgomfpmoaaGreatDoorMkShare
import Derived.Test.YtdgihkgomfpmoaaGreatDoorMkRefC
import Derived.Test.YtdgihkgomfpmoaaGreatDoorMkNestA
namespace Go.Proofs.YtdgihkgomfpmoaaGreatDoor
set_option linter.unusedSimpArgs false
set_option linter.unusedVariables false
set_option maxRecDepth 100000
open Go.RowKit Go.Deep

/-- the reference's Check -/
def RefChk : Prop := ∀ (L : List Lx) (e : Int) (v : Value) (w : World), chkR L = e → LexAt w v L → LxB L →
  Calls Tryz.prog 21 #[v] w fun en w' => en = .returned (intV e) ∧ Below w.heap.size w w'
set_option maxHeartbeats 2000000 in
theorem refPrint_any (HC : RefChk) (L : List Lx) (t : Bs) (e : Int) (hr : printR L = (t, e)) (v : Value) (w : World) (hv : LexAt w v L) (hb : LxB L) :
    Calls Tryz.prog 17 #[v] w fun en w' => en = .returned (.tuple #[sV t, intV e]) ∧ Below w.heap.size w w' := by
  have HV := Lib.hid hv
  obtain ⟨a, cap, rfl⟩ := hv.slice
  have hl := hb.1
  by_cases hc : chkR L = 0
  · have hp : printR L = (prn L, 0) := by unfold printR; rw [if_pos hc]
    rw [hp] at hr
    cases hr
    obtain ⟨hpl, hval⟩ := chk_len hc
    have HCK := Lib.hid (HC L 0 _ w hc hv hb)
    have HST := Lib.hid (fun k h => prn_step L k h)
    have HPT := Lib.hid (fun k => Nat.le_trans (prn_take L k) hpl)
    have HFM := Lib.hid (fun k (h : k < L.length) W => form_any L[k].k L[k].n L[k].v L[k].o (form L[k]) rfl (by have := (chk_sm hc L[k] (List.getElem_mem h)).2; omega) W)
    clear hv hb hc hp hval
    go_enter Tryz.func17, Tryz.ntmps17
    go_wp2_with fail
    refine HCK.out.mono ?_
    rintro e' w1 ⟨rfl, h1⟩
    have B1 := Lib.hid h1
    clear h1
    go_wp2
    go_loopw [4, 5] (fun sv iv wr => ∃ k : Nat, k ≤ L.length ∧ iv = .int .i64 k ∧ sv = sV (prn (L.take k)) ∧ Below w.heap.size w wr) (fun _ iv _ => L.length - (intOf iv).toNat)
    case atStart => exact ⟨0, Nat.zero_le _, rfl, rfl, B1.out⟩
    case round =>
      obtain ⟨k, hk, rfl, rfl, hB⟩ := hrel
      obtain ⟨wk, rfl⟩ : ∃ x, x = wr := ⟨_, rfl⟩
      by_cases hlt : k < L.length
      · obtain ⟨b, off, rfl, hbb, c1, c2, c3, c4⟩ := HV.out.elem hlt
        have d1 := (hB.cell (p := ⟨b, off + k * 4, none⟩) hbb).trans c1
        have d2 := (hB.cell (p := ⟨b, off + k * 4 + 1, none⟩) hbb).trans c2
        have d3 := (hB.cell (p := ⟨b, off + k * 4 + 2, none⟩) hbb).trans c3
        have d4 := (hB.cell (p := ⟨b, off + k * 4 + 3, none⟩) hbb).trans c4
        have hst := HST.out k hlt
        have hp1 := HPT.out (k + 1)
        rw [hst, List.length_append] at hp1
        have HF := Lib.hid (HFM.out k hlt wk)
        obtain ⟨x, hx⟩ : ∃ x, L[k] = x := ⟨_, rfl⟩
        rw [hx] at d1 d2 d3 d4 hst HF hp1
        obtain ⟨S, hS⟩ : ∃ S, prn (L.take k) = S := ⟨_, rfl⟩
        rw [hS] at hst hp1 ⊢
        have hadd : baL S ++ baL (form x) = baL (prn (L.take (k + 1))) := by rw [hst, baL_append]
        have s1 : (baL S).size ≤ 65536 := by rw [baL_size]; omega
        have s2 : (baL (form x)).size ≤ 65536 := by rw [baL_size]; omega
        have i0 : (0 : Int) ≤ (k : Int) := by omega
        have i1 : (k : Int) < (L.length : Int) := by omega
        have HB := Lib.hid hB
        clear c1 c2 c3 c4 hst hx hS hp1 hbb hB
        go_wp2_with fail
        refine HF.out.mono ?_
        rintro e' w2 ⟨rfl, h2⟩
        have B2 := Lib.hid (below_then HB.out h2)
        clear h2 d1 d2 d3 d4
        go_wp2
        go_roundw
        case rel => exact ⟨k + 1, by omega, by go_num, rfl, B2.out⟩
        case measure => simp [intOf]; omega
      · obtain rfl : k = L.length := by omega
        rw [List.take_length]
        have HB := Lib.hid hB
        clear hB
        go_wp2
        go_ret2
        exact ⟨rfl, HB.out⟩
  · have hp : printR L = ([], 1) := by unfold printR; rw [if_neg hc]
    rw [hp] at hr
    cases hr
    obtain ⟨f, hf⟩ : ∃ f, chkR L = f := ⟨_, rfl⟩
    have hf0 : (f == 0) = false := by rw [← hf]; simpa using hc
    have hf1 : (f != 0) = true := by rw [← hf]; simpa using hc
    have HCK := Lib.hid (HC L f _ w hf hv hb)
    clear hv hb hc hp hf
    go_enter Tryz.func17, Tryz.ntmps17
    go_wp2_with fail
    refine HCK.out.mono ?_
    rintro e' w1 ⟨rfl, h1⟩
    have B1 := Lib.hid h1
    clear h1
    go_wp2
    go_ret2
    exact ⟨rfl, B1.out⟩
end Go.Proofs.YtdgihkgomfpmoaaGreatDoor
