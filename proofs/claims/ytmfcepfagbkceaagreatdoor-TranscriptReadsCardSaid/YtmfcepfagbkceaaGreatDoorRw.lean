/- Stage 10 (transcript): TrRefF TrRefG, put together by merge10.py. -/
import Derived.Test.YtmfcepfagbkceaaGreatDoorRv
import Derived.Test.YtmfcepfagbkceaaGreatDoorRo
import Derived.Test.YtmfcepfagbkceaaGreatDoorRp
import Derived.Test.YtmfcepfagbkceaaGreatDoorRb
namespace Go.Proofs.YtmfcepfagbkceaaGreatDoor
set_option linter.unusedSimpArgs false
set_option linter.unusedVariables false
set_option maxRecDepth 100000
open Go.RowKit Go.Shelf Go.Deep
set_option maxHeartbeats 4000000 in
theorem check10_any (l : List Nd) (r : Int) (hr : ckR l = r) (v : Value) (P : Nat → Prop) (w : World) (hv : VsAt w P v l) :
    Calls Tryz.prog 25 #[v] w fun e w' => e = .returned (intV r) ∧ Below w.heap.size w w' := by
  have HV := Lib.hid hv
  obtain ⟨a, c, rfl, hvi⟩ := id hv
  clear hvi
  by_cases hok : tots l ≤ 4096 ∧ deps l ≤ 16
  · have HS := Lib.hid (size_any (tots l) l (Nat.le_refl _) 16 4096 (((tots l : Nat) : Int), ((deps l : Nat) : Int), true) (by unfold sizeR; rw [if_pos hok]) (by omega) (by omega) _ P w hv)
    obtain ⟨k, hk⟩ : ∃ k, allL false false l = k := ⟨_, rfl⟩
    have HA := Lib.hid (fun W (hW : VsAt W P (.slice a l.length c) l) => all_any (tots l) l (Nat.le_refl _) (by omega) false k hk _ P W hW)
    have hr2 : r = if k ≠ 0 then k else if 65536 < (outL l).length then 4 else 0 := by
      rw [← hr, ← hk]
      unfold ckR
      rw [if_pos hok]
    by_cases hk0 : k = 0
    · subst hk0
      obtain ⟨s, hs⟩ : ∃ s, outL l = s := ⟨_, rfl⟩
      have hbig := out_big hk
      have HP := Lib.hid (fun W (hW : VsAt W P (.slice a l.length c) l) => refPrint10_any (tots l) l (Nat.le_refl _) (by omega) false false hk s hs _ P W hW)
      rw [hs] at hr2 hbig
      have z0 : (baL s).size = s.length := baL_size s
      rw [if_neg (by simp)] at hr2
      have HZ := Lib.hid hr2
      by_cases h1 : 65536 < s.length
      · have q1 : decide ((65536 : Int) < (s.length : Int)) = true := decide_eq_true (by omega)
        have HR := Lib.hid (show r = 4 by rw [HZ.out, if_pos h1])
        clear hv hok hr hr2 hk hs hbig HZ
        go_enter Tryz.func25, Tryz.ntmps25
        go_wp2_with fail
        refine HS.out.mono ?_
        rintro e w1 ⟨rfl, h1⟩
        have HB1 := Lib.hid h1
        have HV1 := Lib.hid (HV.out.below h1)
        clear h1
        go_wp2_with fail
        refine (HA.out _ HV1.out).mono ?_
        rintro e w2 ⟨rfl, h2⟩
        have HB2 := Lib.hid (below_then HB1.out h2)
        have HV2 := Lib.hid (HV1.out.below h2)
        clear h2
        go_wp2_with fail
        refine (HP.out _ HV2.out).mono ?_
        rintro e w3 ⟨rfl, h3⟩
        have HB3 := Lib.hid (below_then HB2.out h3)
        clear h3
        go_wp2
        go_ret
        exact ⟨by rw [HR.out]; rfl, HB3.out⟩
      · have q1 : decide ((65536 : Int) < (s.length : Int)) = false := decide_eq_false (by omega)
        have HR := Lib.hid (show r = 0 by rw [HZ.out, if_neg h1])
        clear hv hok hr hr2 hk hs hbig HZ
        go_enter Tryz.func25, Tryz.ntmps25
        go_wp2_with fail
        refine HS.out.mono ?_
        rintro e w1 ⟨rfl, h1⟩
        have HB1 := Lib.hid h1
        have HV1 := Lib.hid (HV.out.below h1)
        clear h1
        go_wp2_with fail
        refine (HA.out _ HV1.out).mono ?_
        rintro e w2 ⟨rfl, h2⟩
        have HB2 := Lib.hid (below_then HB1.out h2)
        have HV2 := Lib.hid (HV1.out.below h2)
        clear h2
        go_wp2_with fail
        refine (HP.out _ HV2.out).mono ?_
        rintro e w3 ⟨rfl, h3⟩
        have HB3 := Lib.hid (below_then HB2.out h3)
        clear h3
        go_wp2
        go_ret
        exact ⟨by rw [HR.out]; rfl, HB3.out⟩
    · have q1 : (k != 0) = true := by simpa using hk0
      have HR := Lib.hid (show r = k by rw [hr2, if_pos hk0])
      clear hv hok hr hr2 hk hk0
      go_enter Tryz.func25, Tryz.ntmps25
      go_wp2_with fail
      refine HS.out.mono ?_
      rintro e w1 ⟨rfl, h1⟩
      have HB1 := Lib.hid h1
      have HV1 := Lib.hid (HV.out.below h1)
      clear h1
      go_wp2_with fail
      refine (HA.out _ HV1.out).mono ?_
      rintro e w2 ⟨rfl, h2⟩
      have HB2 := Lib.hid (below_then HB1.out h2)
      clear h2
      go_wp2
      go_ret
      exact ⟨by rw [HR.out]; rfl, HB2.out⟩
  · have HS := Lib.hid (size_any (tots l) l (Nat.le_refl _) 16 4096 (0, 0, false) (by unfold sizeR; rw [if_neg hok]) (by omega) (by omega) _ P w hv)
    have HR := Lib.hid (show r = 4 by rw [← hr]; unfold ckR; rw [if_neg hok])
    clear hv hok hr
    go_enter Tryz.func25, Tryz.ntmps25
    go_wp2_with fail
    refine HS.out.mono ?_
    rintro e w1 ⟨rfl, h1⟩
    have HB1 := Lib.hid h1
    clear h1
    go_wp2
    go_ret
    exact ⟨by rw [HR.out]; rfl, HB1.out⟩
end Go.Proofs.YtmfcepfagbkceaaGreatDoor
namespace Go.Proofs.YtmfcepfagbkceaaGreatDoor
set_option linter.unusedSimpArgs false
set_option linter.unusedVariables false
set_option maxRecDepth 100000
open Go.RowKit Go.Shelf Go.Deep
end Go.Proofs.YtmfcepfagbkceaaGreatDoor
