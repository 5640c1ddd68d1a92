/- Decode of the program. -/
import Derived.Test.YtjcigjggfmfoeaaDoorCoRead
import Derived.Test.YtjcigjggfmfoeaaDoorCoEnc
import Derived.Deep.Cut
namespace Go.Proofs.YtjcigjggfmfoeaaDoor
set_option linter.unusedSimpArgs false
set_option linter.unusedVariables false
set_option maxRecDepth 100000
open Go.RowKit Go.Deep

/-- what a string reads as -/
def dec (s : List UInt8) : Val × Int := if 1048576 < s.length then (mkZ, 4) else match rd [] s with | none => (mkZ, 3) | some x => if chk x = 0 then (x, 0) else (mkZ, 4)
/-- what Decode gives -/
def DecPost (x : Val) (r : Int) (w : World) (e : Ending) (w' : World) : Prop := ∃ (so : Option Addr) (sc : Nat) (P : Nat → Prop), e = .returned (.tuple #[.agg #[intV x.kd, intV x.nm, .string x.tx, .slice so x.its.length sc], intV r]) ∧ VAt w' P (.agg #[intV x.kd, intV x.nm, .string x.tx, .slice so x.its.length sc]) x ∧ Below w.heap.size w w'
theorem fin_dec {w W : World} {a : Act} {x : Val} {so : Option Addr} {sc : Nat} {P : Nat → Prop} {r : Int} (hd : a.defers = []) (h2 : a.tmps.getD 2 undef = .pointer (some ⟨w.heap.size, 0, none⟩)) (h3 : a.tmps.getD 3 undef = intV r)
    (hc : W.heap[w.heap.size]? = some (.cells #[intV x.kd, intV x.nm, .string x.tx, .slice so x.its.length sc] 24 (0, 0))) (hv : VAt W P (.agg #[intV x.kd, intV x.nm, .string x.tx, .slice so x.its.length sc]) x) (hB : Below w.heap.size w W) :
    bodyPost Tryd.prog Tryd.f21 (DecPost x r w) .ret a W := by
  obtain ⟨d0, d1, d2, d3⟩ := heap4 hc
  have h2' : a.tmps[2]?.getD undef = .pointer (some ⟨w.heap.size, 0, none⟩) := by simpa using h2
  have h3' : a.tmps[3]?.getD undef = intV r := by simpa using h3
  exact ⟨hd, .tuple #[.agg #[intV x.kd, intV x.nm, .string x.tx, .slice so x.its.length sc], intV r], by simp [results, Tryd.f21, go_sem, h2', h3', d0, d1, d2, d3], so, sc, P, rfl, hv, hB⟩
theorem fin_decZ {w W W4 : World} {a : Act} {r : Int} (hW : (((W.setCell ⟨w.heap.size, 0, none⟩ (.int .i64 0)).setCell ⟨w.heap.size, 1, none⟩ (.int .i64 0)).setCell ⟨w.heap.size, 2, none⟩ (.string ⟨#[]⟩)).setCell ⟨w.heap.size, 3, none⟩ (.slice none 0 0) = W4)
    (hb : W.heap[w.heap.size]? = some (.cells #[intV 0, intV 0, .string ⟨#[]⟩, .slice none 0 0] 24 (0, 0))) (hd : a.defers = []) (h2 : a.tmps.getD 2 undef = .pointer (some ⟨w.heap.size, 0, none⟩)) (h3 : a.tmps.getD 3 undef = intV r)
    (hB : Below w.heap.size w W) : bodyPost Tryd.prog Tryd.f21 (DecPost mkZ r w) .ret a W4 := by
  obtain ⟨k1, k2, k3⟩ := set4 hb hW
  exact fin_dec (x := mkZ) (P := fun _ => True) hd h2 h3 k1 (vat_zero _ _) (hB.trans (below_set4 hW (Nat.le_refl _)))
set_option maxHeartbeats 4000000 in
theorem decode_any (s : ByteArray) (hs : s.size ≤ 65536 ∨ 1048576 < s.size) (w : World) (hT : Tab w) (x : Val) (r : Int) (hd : dec s.data.toList = (x, r)) :
    Calls Tryd.prog 21 #[.string s] w (DecPost x r w) := by
  unfold dec at hd
  rw [size_list] at hd
  have hZ := heap_alloc_new w (.cells #[intV 0, intV 0, .string ⟨#[]⟩, .slice none 0 0] 24)
  have HZ := Lib.hid hZ
  have HT := Lib.hid hT
  clear hT hZ
  by_cases hbig : 1048576 < s.size
  · rw [if_pos hbig] at hd
    obtain ⟨rfl, rfl⟩ := Prod.mk.inj hd
    have hb : (1048576 : Int) < s.size := by omega
    clear hd hs
    go_enter Tryd.func21, Tryd.ntmps21
    go_wp2
    exact fin_dec (x := mkZ) (P := fun _ => True) rfl rfl rfl HZ.out (vat_zero _ _) (below_box0 w _)
  · rw [if_neg hbig] at hd
    have hs : s.size ≤ 65536 := by omega
    have hb : (s.size : Int) ≤ 1048576 := by omega
    have hb' : decide ((1048576 : Int) < s.size) = false := by simp; omega
    have HD := Lib.hid hd
    have HRE := Lib.hid (read_any s hs _ (HT.out.below (below_box0 w (.cells #[intV 0, intV 0, .string ⟨#[]⟩, .slice none 0 0] 24))))
    clear hd hs hbig
    go_enter Tryd.func21, Tryd.ntmps21
    go_wp2_with fail
    refine HRE.out.mono ?_
    rintro e w1 ⟨y, sv, P, b, rfl, hv, hr, hB, hlo⟩
    obtain ⟨so, sc, rfl⟩ := vat_slice hv
    have hlt : w.heap.size < w1.heap.size := by have := hB.size; simp at this; omega
    have hz1 : w1.heap[w.heap.size]? = some (.cells #[intV 0, intV 0, .string ⟨#[]⟩, .slice none 0 0] 24 (0, 0)) := (hB.block _ (by simp)).trans HZ.out
    have hBw : Below w.heap.size w w1 := below_seq (below_box0 w _) hB (by simp)
    obtain ⟨W2, hW2⟩ : ∃ X, w1.alloc (.cells #[intV y.kd, intV y.nm, .string y.tx, .slice so y.its.length sc] 24) = X := ⟨_, rfl⟩
    have hB2 : Below w1.heap.size w1 W2 := by rw [← hW2]; exact below_box0 w1 _
    have hz2 := (hB2.block _ hlt).trans hz1
    have hbx : W2.heap[w1.heap.size]? = some (.cells #[intV y.kd, intV y.nm, .string y.tx, .slice so y.its.length sc] 24 (0, 0)) := by rw [← hW2]; exact heap_alloc_new _ _
    have HZ2 := Lib.hid hz2
    have HBX := Lib.hid hbx
    have HBW := Lib.hid (below_seq hBw hB2 (by omega))
    have HV := Lib.hid (hv.below hB2)
    have HW2 := Lib.hid hW2
    have hlt2 : w.heap.size < W2.heap.size := by have := hB2.size; omega
    have HB2 := Lib.hid hB2
    have HLT := Lib.hid hlt
    have HLO := Lib.hid (show ∀ b, P b → w.heap.size < b from fun b hp => by have := hlo b hp; rw [World.size_alloc] at this; omega)
    clear hlo
    clear hB2 hz2 hbx hW2 hz1 hBw hB hv
    go_upto_region 4 with fail
    rw [HW2.out]
    rcases hr with ⟨rfl, hr⟩ | ⟨rfl, hr⟩
    · have hd := HD.out
      rw [hr] at hd
      have htot := (enc_of_rd hr).2
      rw [size_list] at htot
      obtain ⟨q, hq⟩ : ∃ q, chk y = q := ⟨_, rfl⟩
      have HCK := Lib.hid (check_at y _ P W2 HV.out (by omega) q hq)
      simp only [hq] at hd
      have HD2 := Lib.hid hd
      obtain ⟨e0, e1, e2, e3⟩ := heap4 HBX.out
      clear hd hr hq HD HRE
      go_wp2_with fail
      refine HCK.out.mono ?_
      rintro e w3 ⟨rfl, h3⟩
      have hz3 := (h3.block _ hlt2).trans HZ2.out
      have hbx3 := (h3.block _ (heap_lt HBX.out)).trans HBX.out
      have HZ3 := Lib.hid hz3
      have HBX3 := Lib.hid hbx3
      have HV3 := Lib.hid (HV.out.below h3)
      have HBW3 := Lib.hid (below_seq HBW.out h3 (by omega))
      obtain ⟨d0, d1, d2, d3⟩ := heap4 hz3
      have f0 := cells_zero hz3
      have g0 := f0 0
      have g1 := f0 1
      have g2 := f0 2
      have g3 := f0 3
      clear f0 e0 e1 e2 e3
      obtain ⟨e0, e1, e2, e3⟩ := heap4 hbx3
      clear hz3 hbx3 h3 HCK
      by_cases hq0 : q = 0
      · have hd := HD2.out
        rw [if_pos hq0] at hd
        obtain ⟨rfl, rfl⟩ := Prod.mk.inj hd
        have hqb : (q != 0) = false := by simpa using hq0
        obtain ⟨W4, hW4⟩ : ∃ X, (((w3.setCell ⟨w.heap.size, 0, none⟩ (.int .i64 y.kd)).setCell ⟨w.heap.size, 1, none⟩ (.int .i64 y.nm)).setCell ⟨w.heap.size, 2, none⟩ (.string y.tx)).setCell ⟨w.heap.size, 3, none⟩ (.slice so y.its.length sc) = X := ⟨_, rfl⟩
        have HW4 := Lib.hid hW4
        clear hW4 hd hq0
        go_wp2_with fail
        rw [HW4.out]
        obtain ⟨k1, k2, k3⟩ := set4 HZ3.out HW4.out
        exact fin_dec rfl rfl rfl k1 (HV3.out.keep (fun b hp _ => k2 b (by have := HLO.out b hp; omega)) (by omega)) (HBW3.out.trans (below_set4 HW4.out (Nat.le_refl _)))
      · have hd := HD2.out
        rw [if_neg hq0] at hd
        obtain ⟨rfl, rfl⟩ := Prod.mk.inj hd
        have hqb : (q != 0) = true := by simpa using hq0
        obtain ⟨W4, hW4⟩ : ∃ X, (((w3.setCell ⟨w.heap.size, 0, none⟩ (.int .i64 0)).setCell ⟨w.heap.size, 1, none⟩ (.int .i64 0)).setCell ⟨w.heap.size, 2, none⟩ (.string ⟨#[]⟩)).setCell ⟨w.heap.size, 3, none⟩ (.slice none 0 0) = X := ⟨_, rfl⟩
        have HW4 := Lib.hid hW4
        clear hW4 hd hq0
        go_wp2_with fail
        rw [HW4.out]
        exact fin_decZ HW4.out HZ3.out rfl rfl rfl HBW3.out
    · have hd := HD.out
      rw [hr] at hd
      obtain ⟨rfl, rfl⟩ := Prod.mk.inj hd
      clear hd hr HD HRE
      obtain ⟨d0, d1, d2, d3⟩ := heap4 HZ2.out
      have f0 := cells_zero HZ2.out
      have g0 := f0 0
      have g1 := f0 1
      have g2 := f0 2
      have g3 := f0 3
      clear f0
      obtain ⟨W4, hW4⟩ : ∃ X, ((((W2).setCell ⟨w.heap.size, 0, none⟩ (.int .i64 0)).setCell ⟨w.heap.size, 1, none⟩ (.int .i64 0)).setCell ⟨w.heap.size, 2, none⟩ (.string ⟨#[]⟩)).setCell ⟨w.heap.size, 3, none⟩ (.slice none 0 0) = X := ⟨_, rfl⟩
      have HW4 := Lib.hid hW4
      clear hW4
      go_wp2_with fail
      rw [HW4.out]
      exact fin_decZ HW4.out HZ2.out rfl rfl rfl HBW.out
end Go.Proofs.YtjcigjggfmfoeaaDoor
