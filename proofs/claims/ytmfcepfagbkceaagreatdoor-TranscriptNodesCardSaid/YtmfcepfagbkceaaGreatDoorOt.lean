/- Stage 10 (transcript): TrRefC, put together by merge10.py. -/
import Derived.Test.YtmfcepfagbkceaaGreatDoorOi
import Derived.Test.YtmfcepfagbkceaaGreatDoorOs
import Derived.RangeFuncBox
namespace Go.Proofs.YtmfcepfagbkceaaGreatDoor
set_option linter.unusedSimpArgs false
set_option linter.unusedVariables false
set_option maxRecDepth 100000
open Go.RowKit Go.Deep
theorem ret_intN {a b : Int} (h : a = b) : Ending.returned (intV a) = .returned (intV b) := by rw [h]
theorem heap4N {w : World} {b : Nat} {c0 c1 c2 c3 : Value} {t : TypeId} (h : w.heap[b]? = some (.cells #[c0, c1, c2, c3] t (0, 0))) : w.cell? ⟨b, 0, none⟩ = some c0 ∧ w.cell? ⟨b, 1, none⟩ = some c1 ∧ w.cell? ⟨b, 2, none⟩ = some c2 ∧ w.cell? ⟨b, 3, none⟩ = some c3 := by
  simp [World.cell?, h]
theorem nameN_at (t : Bs) (nb : Bool) (h : nameB t = nb) (ht : t.length ≤ maxLen) (w : World) : Calls Tryz.prog 108 #[sV t] w fun e w' => e = .returned (.bool nb) ∧ Below w.heap.size w w' := by
  subst h
  exact R01.refName_any (baL t) (by rw [baL_size]; exact ht) w
set_option maxHeartbeats 4000000 in
theorem single_1 (t : Bs) (n : Int) (sa : Option Addr) (pl sc : Nat) (b wi : Bool) (r : Int) (hr : sgl 1 t n (decide (pl = 0)) b wi = r) (ht : t.length ≤ maxLen) (w : World) :
    Calls Tryz.prog 84 #[.agg #[intV 1, sV t, intV n, .slice sa pl sc], .bool b, .bool wi] w fun e w' => e = .returned (intV r) ∧ Below w.heap.size w w' := by
  have htl := baL_tl t
  have HNM := Lib.hid (fun nb hnb W => nameN_at t nb hnb ht W)
  have HWD := Lib.hid (fun z hz W => R01.refWord_at (baL t) z hz W)
  by_cases ht0 : t = []
  · subst ht0
    have hte : ([] : Bs).isEmpty = true := by rfl
    by_cases hn0 : n = 0
    · have qn : (n == 0) = true := by simp [hn0]
      by_cases hp0 : pl = 0
      · have qp : ((pl : Int) == 0) = true := by simp [hp0]
        have HZ := Lib.hid (show (5 : Int) = r by rw [← hr]; unfold sgl; simp [textsK, numsK, partsK, hn0, hp0, show nameB [] = false from by decide, show wordB [] = false from by decide])
        clear hr
        go_enter Tryz.func84, Tryz.ntmps84
        go_wp2
        go_ret
        exact ⟨ret_intN HZ.out, below_alloc _ _⟩
      · have hpp : 0 < pl := by omega
        have qp : ((pl : Int) == 0) = false := by rw [beq_eq_false_iff_ne]; omega
        have qp2 : decide ((0 : Int) < (pl : Int)) = true := decide_eq_true (by omega)
        have HZ := Lib.hid (show (8 : Int) = r by rw [← hr]; unfold sgl; simp [textsK, numsK, partsK, hn0, hp0, show nameB [] = false from by decide, show wordB [] = false from by decide])
        clear hr
        go_enter Tryz.func84, Tryz.ntmps84
        go_wp2
        go_ret
        exact ⟨ret_intN HZ.out, below_alloc _ _⟩
    · have qn : (n == 0) = false := by simpa using hn0
      by_cases hp0 : pl = 0
      · have qp : ((pl : Int) == 0) = true := by simp [hp0]
        have HZ := Lib.hid (show (8 : Int) = r by rw [← hr]; unfold sgl; simp [textsK, numsK, partsK, hn0, hp0, show nameB [] = false from by decide, show wordB [] = false from by decide])
        clear hr
        go_enter Tryz.func84, Tryz.ntmps84
        go_wp2
        go_ret
        exact ⟨ret_intN HZ.out, below_alloc _ _⟩
      · have hpp : 0 < pl := by omega
        have qp : ((pl : Int) == 0) = false := by rw [beq_eq_false_iff_ne]; omega
        have qp2 : decide ((0 : Int) < (pl : Int)) = true := decide_eq_true (by omega)
        have HZ := Lib.hid (show (8 : Int) = r by rw [← hr]; unfold sgl; simp [textsK, numsK, partsK, hn0, hp0, show nameB [] = false from by decide, show wordB [] = false from by decide])
        clear hr
        go_enter Tryz.func84, Tryz.ntmps84
        go_wp2
        go_ret
        exact ⟨ret_intN HZ.out, below_alloc _ _⟩
  · have hte : t.isEmpty = false := by cases t with | nil => exact absurd rfl ht0 | cons c l => rfl
    by_cases hn0 : n = 0
    · have qn : (n == 0) = true := by simp [hn0]
      by_cases hp0 : pl = 0
      · have qp : ((pl : Int) == 0) = true := by simp [hp0]
        obtain ⟨cr, hcr⟩ : ∃ z, chk t = z := ⟨_, rfl⟩
        have HCK := Lib.hid (fun W => R01.refCheck_at (baL t) cr hcr (by rw [baL_size]; exact ht) W)
        by_cases hc : cr = 0
        · have q1 : (cr != 0) = false := by simp [hc]
          cases b
          · have HZ := Lib.hid (show (0 : Int) = r by rw [← hr]; unfold sgl; simp [textsK, numsK, partsK, hn0, hp0, ht0, hcr, hc])
            clear hr
            clear hcr hc HNM HWD
            go_enter Tryz.func84, Tryz.ntmps84
            go_wp2_with (first | (go_at_call 78; refine (texts_any 1 true (by decide) _).mono ?_; rintro e5 w5 ⟨rfl, rfl⟩) | (go_at_call 79; refine (numbers_any 1 false (by decide) _).mono ?_; rintro e5 w5 ⟨rfl, rfl⟩) | (go_at_call 80; refine (parts_any 1 false (by decide) _).mono ?_; rintro e5 w5 ⟨rfl, rfl⟩))
            refine (HCK.out _).mono ?_
            rintro e' w2 ⟨rfl, h2⟩
            have hb2 := (h2.block w.heap.size (by simp)).trans (World.alloc_heap_new _ _)
            have HB2 := Lib.hid (below_then (below_alloc _ _) h2)
            clear h2
            obtain ⟨l0, l1, l2, l3⟩ := heap4N hb2
            go_wp2
            go_ret
            exact ⟨ret_intN HZ.out, HB2.out⟩
          · have HZ := Lib.hid (show (10 : Int) = r by rw [← hr]; unfold sgl; simp [textsK, numsK, partsK, hn0, hp0, ht0, hcr, hc])
            clear hr
            clear hcr hc HNM HWD
            go_enter Tryz.func84, Tryz.ntmps84
            go_wp2_with (first | (go_at_call 78; refine (texts_any 1 true (by decide) _).mono ?_; rintro e5 w5 ⟨rfl, rfl⟩) | (go_at_call 79; refine (numbers_any 1 false (by decide) _).mono ?_; rintro e5 w5 ⟨rfl, rfl⟩) | (go_at_call 80; refine (parts_any 1 false (by decide) _).mono ?_; rintro e5 w5 ⟨rfl, rfl⟩))
            refine (HCK.out _).mono ?_
            rintro e' w2 ⟨rfl, h2⟩
            have hb2 := (h2.block w.heap.size (by simp)).trans (World.alloc_heap_new _ _)
            have HB2 := Lib.hid (below_then (below_alloc _ _) h2)
            clear h2
            obtain ⟨l0, l1, l2, l3⟩ := heap4N hb2
            go_wp2
            go_ret
            exact ⟨ret_intN HZ.out, HB2.out⟩
        · have q1 : (cr != 0) = true := by simpa using hc
          have HZ := Lib.hid (show (11 : Int) = r by rw [← hr]; unfold sgl; simp [textsK, numsK, partsK, hn0, hp0, ht0, hcr, hc])
          clear hr
          clear hcr hc HNM HWD
          go_enter Tryz.func84, Tryz.ntmps84
          go_wp2_with (first | (go_at_call 78; refine (texts_any 1 true (by decide) _).mono ?_; rintro e5 w5 ⟨rfl, rfl⟩) | (go_at_call 79; refine (numbers_any 1 false (by decide) _).mono ?_; rintro e5 w5 ⟨rfl, rfl⟩) | (go_at_call 80; refine (parts_any 1 false (by decide) _).mono ?_; rintro e5 w5 ⟨rfl, rfl⟩))
          refine (HCK.out _).mono ?_
          rintro e' w2 ⟨rfl, h2⟩
          have hb2 := (h2.block w.heap.size (by simp)).trans (World.alloc_heap_new _ _)
          have HB2 := Lib.hid (below_then (below_alloc _ _) h2)
          clear h2
          obtain ⟨l0, l1, l2, l3⟩ := heap4N hb2
          go_wp2
          go_ret
          exact ⟨ret_intN HZ.out, HB2.out⟩
      · have hpp : 0 < pl := by omega
        have qp : ((pl : Int) == 0) = false := by rw [beq_eq_false_iff_ne]; omega
        have qp2 : decide ((0 : Int) < (pl : Int)) = true := decide_eq_true (by omega)
        have HZ := Lib.hid (show (8 : Int) = r by rw [← hr]; unfold sgl; simp [textsK, numsK, partsK, hn0, hp0, ht0])
        clear hr
        go_enter Tryz.func84, Tryz.ntmps84
        go_wp2
        go_ret
        exact ⟨ret_intN HZ.out, below_alloc _ _⟩
    · have qn : (n == 0) = false := by simpa using hn0
      by_cases hp0 : pl = 0
      · have qp : ((pl : Int) == 0) = true := by simp [hp0]
        have HZ := Lib.hid (show (8 : Int) = r by rw [← hr]; unfold sgl; simp [textsK, numsK, partsK, hn0, hp0, ht0])
        clear hr
        go_enter Tryz.func84, Tryz.ntmps84
        go_wp2
        go_ret
        exact ⟨ret_intN HZ.out, below_alloc _ _⟩
      · have hpp : 0 < pl := by omega
        have qp : ((pl : Int) == 0) = false := by rw [beq_eq_false_iff_ne]; omega
        have qp2 : decide ((0 : Int) < (pl : Int)) = true := decide_eq_true (by omega)
        have HZ := Lib.hid (show (8 : Int) = r by rw [← hr]; unfold sgl; simp [textsK, numsK, partsK, hn0, hp0, ht0])
        clear hr
        go_enter Tryz.func84, Tryz.ntmps84
        go_wp2
        go_ret
        exact ⟨ret_intN HZ.out, below_alloc _ _⟩
set_option maxHeartbeats 4000000 in
theorem single_2 (t : Bs) (n : Int) (sa : Option Addr) (pl sc : Nat) (b wi : Bool) (r : Int) (hr : sgl 2 t n (decide (pl = 0)) b wi = r) (ht : t.length ≤ maxLen) (w : World) :
    Calls Tryz.prog 84 #[.agg #[intV 2, sV t, intV n, .slice sa pl sc], .bool b, .bool wi] w fun e w' => e = .returned (intV r) ∧ Below w.heap.size w w' := by
  have htl := baL_tl t
  have HNM := Lib.hid (fun nb hnb W => nameN_at t nb hnb ht W)
  have HWD := Lib.hid (fun z hz W => R01.refWord_at (baL t) z hz W)
  by_cases ht0 : t = []
  · subst ht0
    have hte : ([] : Bs).isEmpty = true := by rfl
    by_cases hn0 : n = 0
    · have qn : (n == 0) = true := by simp [hn0]
      by_cases hp0 : pl = 0
      · have qp : ((pl : Int) == 0) = true := by simp [hp0]
        have HZ := Lib.hid (show (0 : Int) = r by rw [← hr]; unfold sgl; simp [textsK, numsK, partsK, hn0, hp0, show nameB [] = false from by decide, show wordB [] = false from by decide])
        clear hr
        go_enter Tryz.func84, Tryz.ntmps84
        go_wp2
        go_ret
        exact ⟨ret_intN HZ.out, below_alloc _ _⟩
      · have hpp : 0 < pl := by omega
        have qp : ((pl : Int) == 0) = false := by rw [beq_eq_false_iff_ne]; omega
        have qp2 : decide ((0 : Int) < (pl : Int)) = true := decide_eq_true (by omega)
        have HZ := Lib.hid (show (8 : Int) = r by rw [← hr]; unfold sgl; simp [textsK, numsK, partsK, hn0, hp0, show nameB [] = false from by decide, show wordB [] = false from by decide])
        clear hr
        go_enter Tryz.func84, Tryz.ntmps84
        go_wp2
        go_ret
        exact ⟨ret_intN HZ.out, below_alloc _ _⟩
    · have qn : (n == 0) = false := by simpa using hn0
      by_cases hp0 : pl = 0
      · have qp : ((pl : Int) == 0) = true := by simp [hp0]
        have HZ := Lib.hid (show (8 : Int) = r by rw [← hr]; unfold sgl; simp [textsK, numsK, partsK, hn0, hp0, show nameB [] = false from by decide, show wordB [] = false from by decide])
        clear hr
        go_enter Tryz.func84, Tryz.ntmps84
        go_wp2
        go_ret
        exact ⟨ret_intN HZ.out, below_alloc _ _⟩
      · have hpp : 0 < pl := by omega
        have qp : ((pl : Int) == 0) = false := by rw [beq_eq_false_iff_ne]; omega
        have qp2 : decide ((0 : Int) < (pl : Int)) = true := decide_eq_true (by omega)
        have HZ := Lib.hid (show (8 : Int) = r by rw [← hr]; unfold sgl; simp [textsK, numsK, partsK, hn0, hp0, show nameB [] = false from by decide, show wordB [] = false from by decide])
        clear hr
        go_enter Tryz.func84, Tryz.ntmps84
        go_wp2
        go_ret
        exact ⟨ret_intN HZ.out, below_alloc _ _⟩
  · have hte : t.isEmpty = false := by cases t with | nil => exact absurd rfl ht0 | cons c l => rfl
    by_cases hn0 : n = 0
    · have qn : (n == 0) = true := by simp [hn0]
      by_cases hp0 : pl = 0
      · have qp : ((pl : Int) == 0) = true := by simp [hp0]
        have HZ := Lib.hid (show (8 : Int) = r by rw [← hr]; unfold sgl; simp [textsK, numsK, partsK, hn0, hp0, ht0])
        clear hr
        go_enter Tryz.func84, Tryz.ntmps84
        go_wp2
        go_ret
        exact ⟨ret_intN HZ.out, below_alloc _ _⟩
      · have hpp : 0 < pl := by omega
        have qp : ((pl : Int) == 0) = false := by rw [beq_eq_false_iff_ne]; omega
        have qp2 : decide ((0 : Int) < (pl : Int)) = true := decide_eq_true (by omega)
        have HZ := Lib.hid (show (8 : Int) = r by rw [← hr]; unfold sgl; simp [textsK, numsK, partsK, hn0, hp0, ht0])
        clear hr
        go_enter Tryz.func84, Tryz.ntmps84
        go_wp2
        go_ret
        exact ⟨ret_intN HZ.out, below_alloc _ _⟩
    · have qn : (n == 0) = false := by simpa using hn0
      by_cases hp0 : pl = 0
      · have qp : ((pl : Int) == 0) = true := by simp [hp0]
        have HZ := Lib.hid (show (8 : Int) = r by rw [← hr]; unfold sgl; simp [textsK, numsK, partsK, hn0, hp0, ht0])
        clear hr
        go_enter Tryz.func84, Tryz.ntmps84
        go_wp2
        go_ret
        exact ⟨ret_intN HZ.out, below_alloc _ _⟩
      · have hpp : 0 < pl := by omega
        have qp : ((pl : Int) == 0) = false := by rw [beq_eq_false_iff_ne]; omega
        have qp2 : decide ((0 : Int) < (pl : Int)) = true := decide_eq_true (by omega)
        have HZ := Lib.hid (show (8 : Int) = r by rw [← hr]; unfold sgl; simp [textsK, numsK, partsK, hn0, hp0, ht0])
        clear hr
        go_enter Tryz.func84, Tryz.ntmps84
        go_wp2
        go_ret
        exact ⟨ret_intN HZ.out, below_alloc _ _⟩
set_option maxHeartbeats 4000000 in
theorem single_3 (t : Bs) (n : Int) (sa : Option Addr) (pl sc : Nat) (b wi : Bool) (r : Int) (hr : sgl 3 t n (decide (pl = 0)) b wi = r) (ht : t.length ≤ maxLen) (w : World) :
    Calls Tryz.prog 84 #[.agg #[intV 3, sV t, intV n, .slice sa pl sc], .bool b, .bool wi] w fun e w' => e = .returned (intV r) ∧ Below w.heap.size w w' := by
  have htl := baL_tl t
  have HNM := Lib.hid (fun nb hnb W => nameN_at t nb hnb ht W)
  have HWD := Lib.hid (fun z hz W => R01.refWord_at (baL t) z hz W)
  by_cases ht0 : t = []
  · subst ht0
    have hte : ([] : Bs).isEmpty = true := by rfl
    by_cases hn0 : n = 0
    · have qn : (n == 0) = true := by simp [hn0]
      by_cases hp0 : pl = 0
      · have qp : ((pl : Int) == 0) = true := by simp [hp0]
        have HNM2 := Lib.hid (fun W => HNM.out false (by decide) W)
        have HZ := Lib.hid (show (14 : Int) = r by rw [← hr]; unfold sgl; simp [textsK, numsK, partsK, hn0, hp0, show nameB [] = false from by decide, show wordB [] = false from by decide])
        clear hr
        clear HWD HNM
        go_enter Tryz.func84, Tryz.ntmps84
        go_wp2_with (first | (go_at_call 78; refine (texts_any 3 true (by decide) _).mono ?_; rintro e5 w5 ⟨rfl, rfl⟩) | (go_at_call 79; refine (numbers_any 3 false (by decide) _).mono ?_; rintro e5 w5 ⟨rfl, rfl⟩) | (go_at_call 80; refine (parts_any 3 false (by decide) _).mono ?_; rintro e5 w5 ⟨rfl, rfl⟩))
        refine (HNM2.out _).mono ?_
        rintro e' w2 ⟨rfl, h2⟩
        have hb2 := (h2.block w.heap.size (by simp)).trans (World.alloc_heap_new _ _)
        have HB2 := Lib.hid (below_then (below_alloc _ _) h2)
        clear h2
        obtain ⟨l0, l1, l2, l3⟩ := heap4N hb2
        go_wp2
        go_ret
        exact ⟨ret_intN HZ.out, HB2.out⟩
      · have hpp : 0 < pl := by omega
        have qp : ((pl : Int) == 0) = false := by rw [beq_eq_false_iff_ne]; omega
        have qp2 : decide ((0 : Int) < (pl : Int)) = true := decide_eq_true (by omega)
        have HZ := Lib.hid (show (8 : Int) = r by rw [← hr]; unfold sgl; simp [textsK, numsK, partsK, hn0, hp0, show nameB [] = false from by decide, show wordB [] = false from by decide])
        clear hr
        go_enter Tryz.func84, Tryz.ntmps84
        go_wp2
        go_ret
        exact ⟨ret_intN HZ.out, below_alloc _ _⟩
    · have qn : (n == 0) = false := by simpa using hn0
      by_cases hp0 : pl = 0
      · have qp : ((pl : Int) == 0) = true := by simp [hp0]
        have HZ := Lib.hid (show (8 : Int) = r by rw [← hr]; unfold sgl; simp [textsK, numsK, partsK, hn0, hp0, show nameB [] = false from by decide, show wordB [] = false from by decide])
        clear hr
        go_enter Tryz.func84, Tryz.ntmps84
        go_wp2
        go_ret
        exact ⟨ret_intN HZ.out, below_alloc _ _⟩
      · have hpp : 0 < pl := by omega
        have qp : ((pl : Int) == 0) = false := by rw [beq_eq_false_iff_ne]; omega
        have qp2 : decide ((0 : Int) < (pl : Int)) = true := decide_eq_true (by omega)
        have HZ := Lib.hid (show (8 : Int) = r by rw [← hr]; unfold sgl; simp [textsK, numsK, partsK, hn0, hp0, show nameB [] = false from by decide, show wordB [] = false from by decide])
        clear hr
        go_enter Tryz.func84, Tryz.ntmps84
        go_wp2
        go_ret
        exact ⟨ret_intN HZ.out, below_alloc _ _⟩
  · have hte : t.isEmpty = false := by cases t with | nil => exact absurd rfl ht0 | cons c l => rfl
    by_cases hn0 : n = 0
    · have qn : (n == 0) = true := by simp [hn0]
      by_cases hp0 : pl = 0
      · have qp : ((pl : Int) == 0) = true := by simp [hp0]
        cases hnm : nameB t
        · have HNM2 := Lib.hid (fun W => HNM.out false hnm W)
          have HZ := Lib.hid (show (14 : Int) = r by rw [← hr]; unfold sgl; simp [textsK, numsK, partsK, hn0, hp0, ht0, hnm])
          clear hr
          clear hnm HWD HNM
          go_enter Tryz.func84, Tryz.ntmps84
          go_wp2_with (first | (go_at_call 78; refine (texts_any 3 true (by decide) _).mono ?_; rintro e5 w5 ⟨rfl, rfl⟩) | (go_at_call 79; refine (numbers_any 3 false (by decide) _).mono ?_; rintro e5 w5 ⟨rfl, rfl⟩) | (go_at_call 80; refine (parts_any 3 false (by decide) _).mono ?_; rintro e5 w5 ⟨rfl, rfl⟩))
          refine (HNM2.out _).mono ?_
          rintro e' w2 ⟨rfl, h2⟩
          have hb2 := (h2.block w.heap.size (by simp)).trans (World.alloc_heap_new _ _)
          have HB2 := Lib.hid (below_then (below_alloc _ _) h2)
          clear h2
          obtain ⟨l0, l1, l2, l3⟩ := heap4N hb2
          go_wp2
          go_ret
          exact ⟨ret_intN HZ.out, HB2.out⟩
        · have HNM2 := Lib.hid (fun W => HNM.out true hnm W)
          cases wi
          · have HZ := Lib.hid (show (0 : Int) = r by rw [← hr]; unfold sgl; simp [textsK, numsK, partsK, hn0, hp0, ht0, hnm])
            clear hr
            clear hnm HWD HNM
            go_enter Tryz.func84, Tryz.ntmps84
            go_wp2_with (first | (go_at_call 78; refine (texts_any 3 true (by decide) _).mono ?_; rintro e5 w5 ⟨rfl, rfl⟩) | (go_at_call 79; refine (numbers_any 3 false (by decide) _).mono ?_; rintro e5 w5 ⟨rfl, rfl⟩) | (go_at_call 80; refine (parts_any 3 false (by decide) _).mono ?_; rintro e5 w5 ⟨rfl, rfl⟩))
            refine (HNM2.out _).mono ?_
            rintro e' w2 ⟨rfl, h2⟩
            have hb2 := (h2.block w.heap.size (by simp)).trans (World.alloc_heap_new _ _)
            have HB2 := Lib.hid (below_then (below_alloc _ _) h2)
            clear h2
            obtain ⟨l0, l1, l2, l3⟩ := heap4N hb2
            go_wp2
            go_ret
            exact ⟨ret_intN HZ.out, HB2.out⟩
          · have HZ := Lib.hid (show (0 : Int) = r by rw [← hr]; unfold sgl; simp [textsK, numsK, partsK, hn0, hp0, ht0, hnm])
            clear hr
            clear hnm HWD HNM
            go_enter Tryz.func84, Tryz.ntmps84
            go_wp2_with (first | (go_at_call 78; refine (texts_any 3 true (by decide) _).mono ?_; rintro e5 w5 ⟨rfl, rfl⟩) | (go_at_call 79; refine (numbers_any 3 false (by decide) _).mono ?_; rintro e5 w5 ⟨rfl, rfl⟩) | (go_at_call 80; refine (parts_any 3 false (by decide) _).mono ?_; rintro e5 w5 ⟨rfl, rfl⟩))
            refine (HNM2.out _).mono ?_
            rintro e' w2 ⟨rfl, h2⟩
            have hb2 := (h2.block w.heap.size (by simp)).trans (World.alloc_heap_new _ _)
            have HB2 := Lib.hid (below_then (below_alloc _ _) h2)
            clear h2
            obtain ⟨l0, l1, l2, l3⟩ := heap4N hb2
            go_wp2
            go_ret
            exact ⟨ret_intN HZ.out, HB2.out⟩
      · have hpp : 0 < pl := by omega
        have qp : ((pl : Int) == 0) = false := by rw [beq_eq_false_iff_ne]; omega
        have qp2 : decide ((0 : Int) < (pl : Int)) = true := decide_eq_true (by omega)
        have HZ := Lib.hid (show (8 : Int) = r by rw [← hr]; unfold sgl; simp [textsK, numsK, partsK, hn0, hp0, ht0])
        clear hr
        go_enter Tryz.func84, Tryz.ntmps84
        go_wp2
        go_ret
        exact ⟨ret_intN HZ.out, below_alloc _ _⟩
    · have qn : (n == 0) = false := by simpa using hn0
      by_cases hp0 : pl = 0
      · have qp : ((pl : Int) == 0) = true := by simp [hp0]
        have HZ := Lib.hid (show (8 : Int) = r by rw [← hr]; unfold sgl; simp [textsK, numsK, partsK, hn0, hp0, ht0])
        clear hr
        go_enter Tryz.func84, Tryz.ntmps84
        go_wp2
        go_ret
        exact ⟨ret_intN HZ.out, below_alloc _ _⟩
      · have hpp : 0 < pl := by omega
        have qp : ((pl : Int) == 0) = false := by rw [beq_eq_false_iff_ne]; omega
        have qp2 : decide ((0 : Int) < (pl : Int)) = true := decide_eq_true (by omega)
        have HZ := Lib.hid (show (8 : Int) = r by rw [← hr]; unfold sgl; simp [textsK, numsK, partsK, hn0, hp0, ht0])
        clear hr
        go_enter Tryz.func84, Tryz.ntmps84
        go_wp2
        go_ret
        exact ⟨ret_intN HZ.out, below_alloc _ _⟩
set_option maxHeartbeats 4000000 in
theorem single_4 (t : Bs) (n : Int) (sa : Option Addr) (pl sc : Nat) (b wi : Bool) (r : Int) (hr : sgl 4 t n (decide (pl = 0)) b wi = r) (ht : t.length ≤ maxLen) (w : World) :
    Calls Tryz.prog 84 #[.agg #[intV 4, sV t, intV n, .slice sa pl sc], .bool b, .bool wi] w fun e w' => e = .returned (intV r) ∧ Below w.heap.size w w' := by
  have htl := baL_tl t
  have HNM := Lib.hid (fun nb hnb W => nameN_at t nb hnb ht W)
  have HWD := Lib.hid (fun z hz W => R01.refWord_at (baL t) z hz W)
  by_cases ht0 : t = []
  · subst ht0
    have hte : ([] : Bs).isEmpty = true := by rfl
    by_cases hn0 : n = 0
    · have qn : (n == 0) = true := by simp [hn0]
      by_cases hp0 : pl = 0
      · have qp : ((pl : Int) == 0) = true := by simp [hp0]
        have HNM2 := Lib.hid (fun W => HNM.out false (by decide) W)
        have HZ := Lib.hid (show (14 : Int) = r by rw [← hr]; unfold sgl; simp [textsK, numsK, partsK, hn0, hp0, show nameB [] = false from by decide, show wordB [] = false from by decide])
        clear hr
        clear HWD HNM
        go_enter Tryz.func84, Tryz.ntmps84
        go_wp2_with (first | (go_at_call 78; refine (texts_any 4 true (by decide) _).mono ?_; rintro e5 w5 ⟨rfl, rfl⟩) | (go_at_call 79; refine (numbers_any 4 false (by decide) _).mono ?_; rintro e5 w5 ⟨rfl, rfl⟩) | (go_at_call 80; refine (parts_any 4 false (by decide) _).mono ?_; rintro e5 w5 ⟨rfl, rfl⟩))
        refine (HNM2.out _).mono ?_
        rintro e' w2 ⟨rfl, h2⟩
        have hb2 := (h2.block w.heap.size (by simp)).trans (World.alloc_heap_new _ _)
        have HB2 := Lib.hid (below_then (below_alloc _ _) h2)
        clear h2
        obtain ⟨l0, l1, l2, l3⟩ := heap4N hb2
        go_wp2
        go_ret
        exact ⟨ret_intN HZ.out, HB2.out⟩
      · have hpp : 0 < pl := by omega
        have qp : ((pl : Int) == 0) = false := by rw [beq_eq_false_iff_ne]; omega
        have qp2 : decide ((0 : Int) < (pl : Int)) = true := decide_eq_true (by omega)
        have HZ := Lib.hid (show (8 : Int) = r by rw [← hr]; unfold sgl; simp [textsK, numsK, partsK, hn0, hp0, show nameB [] = false from by decide, show wordB [] = false from by decide])
        clear hr
        go_enter Tryz.func84, Tryz.ntmps84
        go_wp2
        go_ret
        exact ⟨ret_intN HZ.out, below_alloc _ _⟩
    · have qn : (n == 0) = false := by simpa using hn0
      by_cases hp0 : pl = 0
      · have qp : ((pl : Int) == 0) = true := by simp [hp0]
        have HZ := Lib.hid (show (8 : Int) = r by rw [← hr]; unfold sgl; simp [textsK, numsK, partsK, hn0, hp0, show nameB [] = false from by decide, show wordB [] = false from by decide])
        clear hr
        go_enter Tryz.func84, Tryz.ntmps84
        go_wp2
        go_ret
        exact ⟨ret_intN HZ.out, below_alloc _ _⟩
      · have hpp : 0 < pl := by omega
        have qp : ((pl : Int) == 0) = false := by rw [beq_eq_false_iff_ne]; omega
        have qp2 : decide ((0 : Int) < (pl : Int)) = true := decide_eq_true (by omega)
        have HZ := Lib.hid (show (8 : Int) = r by rw [← hr]; unfold sgl; simp [textsK, numsK, partsK, hn0, hp0, show nameB [] = false from by decide, show wordB [] = false from by decide])
        clear hr
        go_enter Tryz.func84, Tryz.ntmps84
        go_wp2
        go_ret
        exact ⟨ret_intN HZ.out, below_alloc _ _⟩
  · have hte : t.isEmpty = false := by cases t with | nil => exact absurd rfl ht0 | cons c l => rfl
    by_cases hn0 : n = 0
    · have qn : (n == 0) = true := by simp [hn0]
      by_cases hp0 : pl = 0
      · have qp : ((pl : Int) == 0) = true := by simp [hp0]
        cases hnm : nameB t
        · have HNM2 := Lib.hid (fun W => HNM.out false hnm W)
          have HZ := Lib.hid (show (14 : Int) = r by rw [← hr]; unfold sgl; simp [textsK, numsK, partsK, hn0, hp0, ht0, hnm])
          clear hr
          clear hnm HWD HNM
          go_enter Tryz.func84, Tryz.ntmps84
          go_wp2_with (first | (go_at_call 78; refine (texts_any 4 true (by decide) _).mono ?_; rintro e5 w5 ⟨rfl, rfl⟩) | (go_at_call 79; refine (numbers_any 4 false (by decide) _).mono ?_; rintro e5 w5 ⟨rfl, rfl⟩) | (go_at_call 80; refine (parts_any 4 false (by decide) _).mono ?_; rintro e5 w5 ⟨rfl, rfl⟩))
          refine (HNM2.out _).mono ?_
          rintro e' w2 ⟨rfl, h2⟩
          have hb2 := (h2.block w.heap.size (by simp)).trans (World.alloc_heap_new _ _)
          have HB2 := Lib.hid (below_then (below_alloc _ _) h2)
          clear h2
          obtain ⟨l0, l1, l2, l3⟩ := heap4N hb2
          go_wp2
          go_ret
          exact ⟨ret_intN HZ.out, HB2.out⟩
        · have HNM2 := Lib.hid (fun W => HNM.out true hnm W)
          cases wi
          · have HZ := Lib.hid (show (0 : Int) = r by rw [← hr]; unfold sgl; simp [textsK, numsK, partsK, hn0, hp0, ht0, hnm])
            clear hr
            clear hnm HWD HNM
            go_enter Tryz.func84, Tryz.ntmps84
            go_wp2_with (first | (go_at_call 78; refine (texts_any 4 true (by decide) _).mono ?_; rintro e5 w5 ⟨rfl, rfl⟩) | (go_at_call 79; refine (numbers_any 4 false (by decide) _).mono ?_; rintro e5 w5 ⟨rfl, rfl⟩) | (go_at_call 80; refine (parts_any 4 false (by decide) _).mono ?_; rintro e5 w5 ⟨rfl, rfl⟩))
            refine (HNM2.out _).mono ?_
            rintro e' w2 ⟨rfl, h2⟩
            have hb2 := (h2.block w.heap.size (by simp)).trans (World.alloc_heap_new _ _)
            have HB2 := Lib.hid (below_then (below_alloc _ _) h2)
            clear h2
            obtain ⟨l0, l1, l2, l3⟩ := heap4N hb2
            go_wp2
            go_ret
            exact ⟨ret_intN HZ.out, HB2.out⟩
          · have HZ := Lib.hid (show (12 : Int) = r by rw [← hr]; unfold sgl; simp [textsK, numsK, partsK, hn0, hp0, ht0, hnm])
            clear hr
            clear hnm HWD HNM
            go_enter Tryz.func84, Tryz.ntmps84
            go_wp2_with (first | (go_at_call 78; refine (texts_any 4 true (by decide) _).mono ?_; rintro e5 w5 ⟨rfl, rfl⟩) | (go_at_call 79; refine (numbers_any 4 false (by decide) _).mono ?_; rintro e5 w5 ⟨rfl, rfl⟩) | (go_at_call 80; refine (parts_any 4 false (by decide) _).mono ?_; rintro e5 w5 ⟨rfl, rfl⟩))
            refine (HNM2.out _).mono ?_
            rintro e' w2 ⟨rfl, h2⟩
            have hb2 := (h2.block w.heap.size (by simp)).trans (World.alloc_heap_new _ _)
            have HB2 := Lib.hid (below_then (below_alloc _ _) h2)
            clear h2
            obtain ⟨l0, l1, l2, l3⟩ := heap4N hb2
            go_wp2
            go_ret
            exact ⟨ret_intN HZ.out, HB2.out⟩
      · have hpp : 0 < pl := by omega
        have qp : ((pl : Int) == 0) = false := by rw [beq_eq_false_iff_ne]; omega
        have qp2 : decide ((0 : Int) < (pl : Int)) = true := decide_eq_true (by omega)
        have HZ := Lib.hid (show (8 : Int) = r by rw [← hr]; unfold sgl; simp [textsK, numsK, partsK, hn0, hp0, ht0])
        clear hr
        go_enter Tryz.func84, Tryz.ntmps84
        go_wp2
        go_ret
        exact ⟨ret_intN HZ.out, below_alloc _ _⟩
    · have qn : (n == 0) = false := by simpa using hn0
      by_cases hp0 : pl = 0
      · have qp : ((pl : Int) == 0) = true := by simp [hp0]
        have HZ := Lib.hid (show (8 : Int) = r by rw [← hr]; unfold sgl; simp [textsK, numsK, partsK, hn0, hp0, ht0])
        clear hr
        go_enter Tryz.func84, Tryz.ntmps84
        go_wp2
        go_ret
        exact ⟨ret_intN HZ.out, below_alloc _ _⟩
      · have hpp : 0 < pl := by omega
        have qp : ((pl : Int) == 0) = false := by rw [beq_eq_false_iff_ne]; omega
        have qp2 : decide ((0 : Int) < (pl : Int)) = true := decide_eq_true (by omega)
        have HZ := Lib.hid (show (8 : Int) = r by rw [← hr]; unfold sgl; simp [textsK, numsK, partsK, hn0, hp0, ht0])
        clear hr
        go_enter Tryz.func84, Tryz.ntmps84
        go_wp2
        go_ret
        exact ⟨ret_intN HZ.out, below_alloc _ _⟩
set_option maxHeartbeats 4000000 in
theorem single_5 (t : Bs) (n : Int) (sa : Option Addr) (pl sc : Nat) (b wi : Bool) (r : Int) (hr : sgl 5 t n (decide (pl = 0)) b wi = r) (ht : t.length ≤ maxLen) (w : World) :
    Calls Tryz.prog 84 #[.agg #[intV 5, sV t, intV n, .slice sa pl sc], .bool b, .bool wi] w fun e w' => e = .returned (intV r) ∧ Below w.heap.size w w' := by
  have htl := baL_tl t
  have HNM := Lib.hid (fun nb hnb W => nameN_at t nb hnb ht W)
  have HWD := Lib.hid (fun z hz W => R01.refWord_at (baL t) z hz W)
  by_cases ht0 : t = []
  · subst ht0
    have hte : ([] : Bs).isEmpty = true := by rfl
    by_cases hn0 : n = 0
    · have qn : (n == 0) = true := by simp [hn0]
      by_cases hp0 : pl = 0
      · have qp : ((pl : Int) == 0) = true := by simp [hp0]
        have HZ := Lib.hid (show (0 : Int) = r by rw [← hr]; unfold sgl; simp [textsK, numsK, partsK, hn0, hp0, show nameB [] = false from by decide, show wordB [] = false from by decide])
        clear hr
        go_enter Tryz.func84, Tryz.ntmps84
        go_wp2
        go_ret
        exact ⟨ret_intN HZ.out, below_alloc _ _⟩
      · have hpp : 0 < pl := by omega
        have qp : ((pl : Int) == 0) = false := by rw [beq_eq_false_iff_ne]; omega
        have qp2 : decide ((0 : Int) < (pl : Int)) = true := decide_eq_true (by omega)
        have HZ := Lib.hid (show (8 : Int) = r by rw [← hr]; unfold sgl; simp [textsK, numsK, partsK, hn0, hp0, show nameB [] = false from by decide, show wordB [] = false from by decide])
        clear hr
        go_enter Tryz.func84, Tryz.ntmps84
        go_wp2
        go_ret
        exact ⟨ret_intN HZ.out, below_alloc _ _⟩
    · have qn : (n == 0) = false := by simpa using hn0
      by_cases hp0 : pl = 0
      · have qp : ((pl : Int) == 0) = true := by simp [hp0]
        have HZ := Lib.hid (show (8 : Int) = r by rw [← hr]; unfold sgl; simp [textsK, numsK, partsK, hn0, hp0, show nameB [] = false from by decide, show wordB [] = false from by decide])
        clear hr
        go_enter Tryz.func84, Tryz.ntmps84
        go_wp2
        go_ret
        exact ⟨ret_intN HZ.out, below_alloc _ _⟩
      · have hpp : 0 < pl := by omega
        have qp : ((pl : Int) == 0) = false := by rw [beq_eq_false_iff_ne]; omega
        have qp2 : decide ((0 : Int) < (pl : Int)) = true := decide_eq_true (by omega)
        have HZ := Lib.hid (show (8 : Int) = r by rw [← hr]; unfold sgl; simp [textsK, numsK, partsK, hn0, hp0, show nameB [] = false from by decide, show wordB [] = false from by decide])
        clear hr
        go_enter Tryz.func84, Tryz.ntmps84
        go_wp2
        go_ret
        exact ⟨ret_intN HZ.out, below_alloc _ _⟩
  · have hte : t.isEmpty = false := by cases t with | nil => exact absurd rfl ht0 | cons c l => rfl
    by_cases hn0 : n = 0
    · have qn : (n == 0) = true := by simp [hn0]
      by_cases hp0 : pl = 0
      · have qp : ((pl : Int) == 0) = true := by simp [hp0]
        have HZ := Lib.hid (show (8 : Int) = r by rw [← hr]; unfold sgl; simp [textsK, numsK, partsK, hn0, hp0, ht0])
        clear hr
        go_enter Tryz.func84, Tryz.ntmps84
        go_wp2
        go_ret
        exact ⟨ret_intN HZ.out, below_alloc _ _⟩
      · have hpp : 0 < pl := by omega
        have qp : ((pl : Int) == 0) = false := by rw [beq_eq_false_iff_ne]; omega
        have qp2 : decide ((0 : Int) < (pl : Int)) = true := decide_eq_true (by omega)
        have HZ := Lib.hid (show (8 : Int) = r by rw [← hr]; unfold sgl; simp [textsK, numsK, partsK, hn0, hp0, ht0])
        clear hr
        go_enter Tryz.func84, Tryz.ntmps84
        go_wp2
        go_ret
        exact ⟨ret_intN HZ.out, below_alloc _ _⟩
    · have qn : (n == 0) = false := by simpa using hn0
      by_cases hp0 : pl = 0
      · have qp : ((pl : Int) == 0) = true := by simp [hp0]
        have HZ := Lib.hid (show (8 : Int) = r by rw [← hr]; unfold sgl; simp [textsK, numsK, partsK, hn0, hp0, ht0])
        clear hr
        go_enter Tryz.func84, Tryz.ntmps84
        go_wp2
        go_ret
        exact ⟨ret_intN HZ.out, below_alloc _ _⟩
      · have hpp : 0 < pl := by omega
        have qp : ((pl : Int) == 0) = false := by rw [beq_eq_false_iff_ne]; omega
        have qp2 : decide ((0 : Int) < (pl : Int)) = true := decide_eq_true (by omega)
        have HZ := Lib.hid (show (8 : Int) = r by rw [← hr]; unfold sgl; simp [textsK, numsK, partsK, hn0, hp0, ht0])
        clear hr
        go_enter Tryz.func84, Tryz.ntmps84
        go_wp2
        go_ret
        exact ⟨ret_intN HZ.out, below_alloc _ _⟩
set_option maxHeartbeats 4000000 in
theorem single_6 (t : Bs) (n : Int) (sa : Option Addr) (pl sc : Nat) (b wi : Bool) (r : Int) (hr : sgl 6 t n (decide (pl = 0)) b wi = r) (ht : t.length ≤ maxLen) (w : World) :
    Calls Tryz.prog 84 #[.agg #[intV 6, sV t, intV n, .slice sa pl sc], .bool b, .bool wi] w fun e w' => e = .returned (intV r) ∧ Below w.heap.size w w' := by
  have htl := baL_tl t
  have HNM := Lib.hid (fun nb hnb W => nameN_at t nb hnb ht W)
  have HWD := Lib.hid (fun z hz W => R01.refWord_at (baL t) z hz W)
  by_cases ht0 : t = []
  · subst ht0
    have hte : ([] : Bs).isEmpty = true := by rfl
    by_cases hn0 : n = 0
    · have qn : (n == 0) = true := by simp [hn0]
      by_cases hp0 : pl = 0
      · have qp : ((pl : Int) == 0) = true := by simp [hp0]
        have h1 : n < 1 := by omega
        have q1 : decide (n < 1) = true := decide_eq_true h1
        have HZ := Lib.hid (show (2 : Int) = r by rw [← hr]; unfold sgl; simp [textsK, numsK, partsK, hn0, hp0, show nameB [] = false from by decide, show wordB [] = false from by decide, h1])
        clear hr
        go_enter Tryz.func84, Tryz.ntmps84
        go_wp2
        go_ret
        exact ⟨ret_intN HZ.out, below_alloc _ _⟩
      · have hpp : 0 < pl := by omega
        have qp : ((pl : Int) == 0) = false := by rw [beq_eq_false_iff_ne]; omega
        have qp2 : decide ((0 : Int) < (pl : Int)) = true := decide_eq_true (by omega)
        have HZ := Lib.hid (show (8 : Int) = r by rw [← hr]; unfold sgl; simp [textsK, numsK, partsK, hn0, hp0, show nameB [] = false from by decide, show wordB [] = false from by decide])
        clear hr
        go_enter Tryz.func84, Tryz.ntmps84
        go_wp2
        go_ret
        exact ⟨ret_intN HZ.out, below_alloc _ _⟩
    · have qn : (n == 0) = false := by simpa using hn0
      by_cases hp0 : pl = 0
      · have qp : ((pl : Int) == 0) = true := by simp [hp0]
        by_cases h1 : n < 1
        · have q1 : decide (n < 1) = true := decide_eq_true h1
          have HZ := Lib.hid (show (2 : Int) = r by rw [← hr]; unfold sgl; simp [textsK, numsK, partsK, hn0, hp0, show nameB [] = false from by decide, show wordB [] = false from by decide, h1])
          clear hr
          go_enter Tryz.func84, Tryz.ntmps84
          go_wp2
          go_ret
          exact ⟨ret_intN HZ.out, below_alloc _ _⟩
        · have q1 : decide (n < 1) = false := decide_eq_false h1
          by_cases h2 : 64 < n
          · have q2 : decide (64 < n) = true := decide_eq_true h2
            have HZ := Lib.hid (show (2 : Int) = r by rw [← hr]; unfold sgl; simp [textsK, numsK, partsK, hn0, hp0, show nameB [] = false from by decide, show wordB [] = false from by decide, h1, h2])
            clear hr
            go_enter Tryz.func84, Tryz.ntmps84
            go_wp2
            go_ret
            exact ⟨ret_intN HZ.out, below_alloc _ _⟩
          · have q2 : decide (64 < n) = false := decide_eq_false h2
            have HZ := Lib.hid (show (0 : Int) = r by rw [← hr]; unfold sgl; simp [textsK, numsK, partsK, hn0, hp0, show nameB [] = false from by decide, show wordB [] = false from by decide, h1, h2])
            clear hr
            go_enter Tryz.func84, Tryz.ntmps84
            go_wp2
            go_ret
            exact ⟨ret_intN HZ.out, below_alloc _ _⟩
      · have hpp : 0 < pl := by omega
        have qp : ((pl : Int) == 0) = false := by rw [beq_eq_false_iff_ne]; omega
        have qp2 : decide ((0 : Int) < (pl : Int)) = true := decide_eq_true (by omega)
        have HZ := Lib.hid (show (8 : Int) = r by rw [← hr]; unfold sgl; simp [textsK, numsK, partsK, hn0, hp0, show nameB [] = false from by decide, show wordB [] = false from by decide])
        clear hr
        go_enter Tryz.func84, Tryz.ntmps84
        go_wp2
        go_ret
        exact ⟨ret_intN HZ.out, below_alloc _ _⟩
  · have hte : t.isEmpty = false := by cases t with | nil => exact absurd rfl ht0 | cons c l => rfl
    by_cases hn0 : n = 0
    · have qn : (n == 0) = true := by simp [hn0]
      by_cases hp0 : pl = 0
      · have qp : ((pl : Int) == 0) = true := by simp [hp0]
        have HZ := Lib.hid (show (8 : Int) = r by rw [← hr]; unfold sgl; simp [textsK, numsK, partsK, hn0, hp0, ht0])
        clear hr
        go_enter Tryz.func84, Tryz.ntmps84
        go_wp2
        go_ret
        exact ⟨ret_intN HZ.out, below_alloc _ _⟩
      · have hpp : 0 < pl := by omega
        have qp : ((pl : Int) == 0) = false := by rw [beq_eq_false_iff_ne]; omega
        have qp2 : decide ((0 : Int) < (pl : Int)) = true := decide_eq_true (by omega)
        have HZ := Lib.hid (show (8 : Int) = r by rw [← hr]; unfold sgl; simp [textsK, numsK, partsK, hn0, hp0, ht0])
        clear hr
        go_enter Tryz.func84, Tryz.ntmps84
        go_wp2
        go_ret
        exact ⟨ret_intN HZ.out, below_alloc _ _⟩
    · have qn : (n == 0) = false := by simpa using hn0
      by_cases hp0 : pl = 0
      · have qp : ((pl : Int) == 0) = true := by simp [hp0]
        have HZ := Lib.hid (show (8 : Int) = r by rw [← hr]; unfold sgl; simp [textsK, numsK, partsK, hn0, hp0, ht0])
        clear hr
        go_enter Tryz.func84, Tryz.ntmps84
        go_wp2
        go_ret
        exact ⟨ret_intN HZ.out, below_alloc _ _⟩
      · have hpp : 0 < pl := by omega
        have qp : ((pl : Int) == 0) = false := by rw [beq_eq_false_iff_ne]; omega
        have qp2 : decide ((0 : Int) < (pl : Int)) = true := decide_eq_true (by omega)
        have HZ := Lib.hid (show (8 : Int) = r by rw [← hr]; unfold sgl; simp [textsK, numsK, partsK, hn0, hp0, ht0])
        clear hr
        go_enter Tryz.func84, Tryz.ntmps84
        go_wp2
        go_ret
        exact ⟨ret_intN HZ.out, below_alloc _ _⟩
set_option maxHeartbeats 4000000 in
theorem single_7 (t : Bs) (n : Int) (sa : Option Addr) (pl sc : Nat) (b wi : Bool) (r : Int) (hr : sgl 7 t n (decide (pl = 0)) b wi = r) (ht : t.length ≤ maxLen) (w : World) :
    Calls Tryz.prog 84 #[.agg #[intV 7, sV t, intV n, .slice sa pl sc], .bool b, .bool wi] w fun e w' => e = .returned (intV r) ∧ Below w.heap.size w w' := by
  have htl := baL_tl t
  have HNM := Lib.hid (fun nb hnb W => nameN_at t nb hnb ht W)
  have HWD := Lib.hid (fun z hz W => R01.refWord_at (baL t) z hz W)
  by_cases ht0 : t = []
  · subst ht0
    have hte : ([] : Bs).isEmpty = true := by rfl
    by_cases hn0 : n = 0
    · have qn : (n == 0) = true := by simp [hn0]
      by_cases hp0 : pl = 0
      · have qp : ((pl : Int) == 0) = true := by simp [hp0]
        have HZ := Lib.hid (show (5 : Int) = r by rw [← hr]; unfold sgl; simp [textsK, numsK, partsK, hn0, hp0, show nameB [] = false from by decide, show wordB [] = false from by decide])
        clear hr
        go_enter Tryz.func84, Tryz.ntmps84
        go_wp2
        go_ret
        exact ⟨ret_intN HZ.out, below_alloc _ _⟩
      · have hpp : 0 < pl := by omega
        have qp : ((pl : Int) == 0) = false := by rw [beq_eq_false_iff_ne]; omega
        have qp2 : decide ((0 : Int) < (pl : Int)) = true := decide_eq_true (by omega)
        have HZ := Lib.hid (show (0 : Int) = r by rw [← hr]; unfold sgl; simp [textsK, numsK, partsK, hn0, hp0, show nameB [] = false from by decide, show wordB [] = false from by decide])
        clear hr
        go_enter Tryz.func84, Tryz.ntmps84
        go_wp2
        go_ret
        exact ⟨ret_intN HZ.out, below_alloc _ _⟩
    · have qn : (n == 0) = false := by simpa using hn0
      by_cases hp0 : pl = 0
      · have qp : ((pl : Int) == 0) = true := by simp [hp0]
        have HZ := Lib.hid (show (8 : Int) = r by rw [← hr]; unfold sgl; simp [textsK, numsK, partsK, hn0, hp0, show nameB [] = false from by decide, show wordB [] = false from by decide])
        clear hr
        go_enter Tryz.func84, Tryz.ntmps84
        go_wp2
        go_ret
        exact ⟨ret_intN HZ.out, below_alloc _ _⟩
      · have hpp : 0 < pl := by omega
        have qp : ((pl : Int) == 0) = false := by rw [beq_eq_false_iff_ne]; omega
        have qp2 : decide ((0 : Int) < (pl : Int)) = true := decide_eq_true (by omega)
        have HZ := Lib.hid (show (8 : Int) = r by rw [← hr]; unfold sgl; simp [textsK, numsK, partsK, hn0, hp0, show nameB [] = false from by decide, show wordB [] = false from by decide])
        clear hr
        go_enter Tryz.func84, Tryz.ntmps84
        go_wp2
        go_ret
        exact ⟨ret_intN HZ.out, below_alloc _ _⟩
  · have hte : t.isEmpty = false := by cases t with | nil => exact absurd rfl ht0 | cons c l => rfl
    by_cases hn0 : n = 0
    · have qn : (n == 0) = true := by simp [hn0]
      by_cases hp0 : pl = 0
      · have qp : ((pl : Int) == 0) = true := by simp [hp0]
        have HZ := Lib.hid (show (8 : Int) = r by rw [← hr]; unfold sgl; simp [textsK, numsK, partsK, hn0, hp0, ht0])
        clear hr
        go_enter Tryz.func84, Tryz.ntmps84
        go_wp2
        go_ret
        exact ⟨ret_intN HZ.out, below_alloc _ _⟩
      · have hpp : 0 < pl := by omega
        have qp : ((pl : Int) == 0) = false := by rw [beq_eq_false_iff_ne]; omega
        have qp2 : decide ((0 : Int) < (pl : Int)) = true := decide_eq_true (by omega)
        have HZ := Lib.hid (show (8 : Int) = r by rw [← hr]; unfold sgl; simp [textsK, numsK, partsK, hn0, hp0, ht0])
        clear hr
        go_enter Tryz.func84, Tryz.ntmps84
        go_wp2
        go_ret
        exact ⟨ret_intN HZ.out, below_alloc _ _⟩
    · have qn : (n == 0) = false := by simpa using hn0
      by_cases hp0 : pl = 0
      · have qp : ((pl : Int) == 0) = true := by simp [hp0]
        have HZ := Lib.hid (show (8 : Int) = r by rw [← hr]; unfold sgl; simp [textsK, numsK, partsK, hn0, hp0, ht0])
        clear hr
        go_enter Tryz.func84, Tryz.ntmps84
        go_wp2
        go_ret
        exact ⟨ret_intN HZ.out, below_alloc _ _⟩
      · have hpp : 0 < pl := by omega
        have qp : ((pl : Int) == 0) = false := by rw [beq_eq_false_iff_ne]; omega
        have qp2 : decide ((0 : Int) < (pl : Int)) = true := decide_eq_true (by omega)
        have HZ := Lib.hid (show (8 : Int) = r by rw [← hr]; unfold sgl; simp [textsK, numsK, partsK, hn0, hp0, ht0])
        clear hr
        go_enter Tryz.func84, Tryz.ntmps84
        go_wp2
        go_ret
        exact ⟨ret_intN HZ.out, below_alloc _ _⟩
set_option maxHeartbeats 4000000 in
theorem single_8 (t : Bs) (n : Int) (sa : Option Addr) (pl sc : Nat) (b wi : Bool) (r : Int) (hr : sgl 8 t n (decide (pl = 0)) b wi = r) (ht : t.length ≤ maxLen) (w : World) :
    Calls Tryz.prog 84 #[.agg #[intV 8, sV t, intV n, .slice sa pl sc], .bool b, .bool wi] w fun e w' => e = .returned (intV r) ∧ Below w.heap.size w w' := by
  have htl := baL_tl t
  have HNM := Lib.hid (fun nb hnb W => nameN_at t nb hnb ht W)
  have HWD := Lib.hid (fun z hz W => R01.refWord_at (baL t) z hz W)
  by_cases ht0 : t = []
  · subst ht0
    have hte : ([] : Bs).isEmpty = true := by rfl
    by_cases hn0 : n = 0
    · have qn : (n == 0) = true := by simp [hn0]
      by_cases hp0 : pl = 0
      · have qp : ((pl : Int) == 0) = true := by simp [hp0]
        have HZ := Lib.hid (show (5 : Int) = r by rw [← hr]; unfold sgl; simp [textsK, numsK, partsK, hn0, hp0, show nameB [] = false from by decide, show wordB [] = false from by decide])
        clear hr
        go_enter Tryz.func84, Tryz.ntmps84
        go_wp2
        go_ret
        exact ⟨ret_intN HZ.out, below_alloc _ _⟩
      · have hpp : 0 < pl := by omega
        have qp : ((pl : Int) == 0) = false := by rw [beq_eq_false_iff_ne]; omega
        have qp2 : decide ((0 : Int) < (pl : Int)) = true := decide_eq_true (by omega)
        have h1 : n < 1 := by omega
        have q1 : decide (n < 1) = true := decide_eq_true h1
        have HZ := Lib.hid (show (2 : Int) = r by rw [← hr]; unfold sgl; simp [textsK, numsK, partsK, hn0, hp0, show nameB [] = false from by decide, show wordB [] = false from by decide, h1])
        clear hr
        go_enter Tryz.func84, Tryz.ntmps84
        go_wp2
        go_ret
        exact ⟨ret_intN HZ.out, below_alloc _ _⟩
    · have qn : (n == 0) = false := by simpa using hn0
      by_cases hp0 : pl = 0
      · have qp : ((pl : Int) == 0) = true := by simp [hp0]
        have HZ := Lib.hid (show (5 : Int) = r by rw [← hr]; unfold sgl; simp [textsK, numsK, partsK, hn0, hp0, show nameB [] = false from by decide, show wordB [] = false from by decide])
        clear hr
        go_enter Tryz.func84, Tryz.ntmps84
        go_wp2
        go_ret
        exact ⟨ret_intN HZ.out, below_alloc _ _⟩
      · have hpp : 0 < pl := by omega
        have qp : ((pl : Int) == 0) = false := by rw [beq_eq_false_iff_ne]; omega
        have qp2 : decide ((0 : Int) < (pl : Int)) = true := decide_eq_true (by omega)
        by_cases h1 : n < 1
        · have q1 : decide (n < 1) = true := decide_eq_true h1
          have HZ := Lib.hid (show (2 : Int) = r by rw [← hr]; unfold sgl; simp [textsK, numsK, partsK, hn0, hp0, show nameB [] = false from by decide, show wordB [] = false from by decide, h1])
          clear hr
          go_enter Tryz.func84, Tryz.ntmps84
          go_wp2
          go_ret
          exact ⟨ret_intN HZ.out, below_alloc _ _⟩
        · have q1 : decide (n < 1) = false := decide_eq_false h1
          by_cases h2 : 8 < n
          · have q2 : decide (8 < n) = true := decide_eq_true h2
            have HZ := Lib.hid (show (2 : Int) = r by rw [← hr]; unfold sgl; simp [textsK, numsK, partsK, hn0, hp0, show nameB [] = false from by decide, show wordB [] = false from by decide, h1, h2])
            clear hr
            go_enter Tryz.func84, Tryz.ntmps84
            go_wp2
            go_ret
            exact ⟨ret_intN HZ.out, below_alloc _ _⟩
          · have q2 : decide (8 < n) = false := decide_eq_false h2
            have HZ := Lib.hid (show (0 : Int) = r by rw [← hr]; unfold sgl; simp [textsK, numsK, partsK, hn0, hp0, show nameB [] = false from by decide, show wordB [] = false from by decide, h1, h2])
            clear hr
            go_enter Tryz.func84, Tryz.ntmps84
            go_wp2
            go_ret
            exact ⟨ret_intN HZ.out, below_alloc _ _⟩
  · have hte : t.isEmpty = false := by cases t with | nil => exact absurd rfl ht0 | cons c l => rfl
    by_cases hn0 : n = 0
    · have qn : (n == 0) = true := by simp [hn0]
      by_cases hp0 : pl = 0
      · have qp : ((pl : Int) == 0) = true := by simp [hp0]
        have HZ := Lib.hid (show (8 : Int) = r by rw [← hr]; unfold sgl; simp [textsK, numsK, partsK, hn0, hp0, ht0])
        clear hr
        go_enter Tryz.func84, Tryz.ntmps84
        go_wp2
        go_ret
        exact ⟨ret_intN HZ.out, below_alloc _ _⟩
      · have hpp : 0 < pl := by omega
        have qp : ((pl : Int) == 0) = false := by rw [beq_eq_false_iff_ne]; omega
        have qp2 : decide ((0 : Int) < (pl : Int)) = true := decide_eq_true (by omega)
        have HZ := Lib.hid (show (8 : Int) = r by rw [← hr]; unfold sgl; simp [textsK, numsK, partsK, hn0, hp0, ht0])
        clear hr
        go_enter Tryz.func84, Tryz.ntmps84
        go_wp2
        go_ret
        exact ⟨ret_intN HZ.out, below_alloc _ _⟩
    · have qn : (n == 0) = false := by simpa using hn0
      by_cases hp0 : pl = 0
      · have qp : ((pl : Int) == 0) = true := by simp [hp0]
        have HZ := Lib.hid (show (8 : Int) = r by rw [← hr]; unfold sgl; simp [textsK, numsK, partsK, hn0, hp0, ht0])
        clear hr
        go_enter Tryz.func84, Tryz.ntmps84
        go_wp2
        go_ret
        exact ⟨ret_intN HZ.out, below_alloc _ _⟩
      · have hpp : 0 < pl := by omega
        have qp : ((pl : Int) == 0) = false := by rw [beq_eq_false_iff_ne]; omega
        have qp2 : decide ((0 : Int) < (pl : Int)) = true := decide_eq_true (by omega)
        have HZ := Lib.hid (show (8 : Int) = r by rw [← hr]; unfold sgl; simp [textsK, numsK, partsK, hn0, hp0, ht0])
        clear hr
        go_enter Tryz.func84, Tryz.ntmps84
        go_wp2
        go_ret
        exact ⟨ret_intN HZ.out, below_alloc _ _⟩
set_option maxHeartbeats 4000000 in
theorem single_9 (t : Bs) (n : Int) (sa : Option Addr) (pl sc : Nat) (b wi : Bool) (r : Int) (hr : sgl 9 t n (decide (pl = 0)) b wi = r) (ht : t.length ≤ maxLen) (w : World) :
    Calls Tryz.prog 84 #[.agg #[intV 9, sV t, intV n, .slice sa pl sc], .bool b, .bool wi] w fun e w' => e = .returned (intV r) ∧ Below w.heap.size w w' := by
  have htl := baL_tl t
  have HNM := Lib.hid (fun nb hnb W => nameN_at t nb hnb ht W)
  have HWD := Lib.hid (fun z hz W => R01.refWord_at (baL t) z hz W)
  by_cases ht0 : t = []
  · subst ht0
    have hte : ([] : Bs).isEmpty = true := by rfl
    by_cases hn0 : n = 0
    · have qn : (n == 0) = true := by simp [hn0]
      by_cases hp0 : pl = 0
      · have qp : ((pl : Int) == 0) = true := by simp [hp0]
        have HZ := Lib.hid (show (5 : Int) = r by rw [← hr]; unfold sgl; simp [textsK, numsK, partsK, hn0, hp0, show nameB [] = false from by decide, show wordB [] = false from by decide])
        clear hr
        go_enter Tryz.func84, Tryz.ntmps84
        go_wp2
        go_ret
        exact ⟨ret_intN HZ.out, below_alloc _ _⟩
      · have hpp : 0 < pl := by omega
        have qp : ((pl : Int) == 0) = false := by rw [beq_eq_false_iff_ne]; omega
        have qp2 : decide ((0 : Int) < (pl : Int)) = true := decide_eq_true (by omega)
        have h1 : n < 1 := by omega
        have q1 : decide (n < 1) = true := decide_eq_true h1
        have HZ := Lib.hid (show (2 : Int) = r by rw [← hr]; unfold sgl; simp [textsK, numsK, partsK, hn0, hp0, show nameB [] = false from by decide, show wordB [] = false from by decide, h1])
        clear hr
        go_enter Tryz.func84, Tryz.ntmps84
        go_wp2
        go_ret
        exact ⟨ret_intN HZ.out, below_alloc _ _⟩
    · have qn : (n == 0) = false := by simpa using hn0
      by_cases hp0 : pl = 0
      · have qp : ((pl : Int) == 0) = true := by simp [hp0]
        have HZ := Lib.hid (show (5 : Int) = r by rw [← hr]; unfold sgl; simp [textsK, numsK, partsK, hn0, hp0, show nameB [] = false from by decide, show wordB [] = false from by decide])
        clear hr
        go_enter Tryz.func84, Tryz.ntmps84
        go_wp2
        go_ret
        exact ⟨ret_intN HZ.out, below_alloc _ _⟩
      · have hpp : 0 < pl := by omega
        have qp : ((pl : Int) == 0) = false := by rw [beq_eq_false_iff_ne]; omega
        have qp2 : decide ((0 : Int) < (pl : Int)) = true := decide_eq_true (by omega)
        by_cases h1 : n < 1
        · have q1 : decide (n < 1) = true := decide_eq_true h1
          have HZ := Lib.hid (show (2 : Int) = r by rw [← hr]; unfold sgl; simp [textsK, numsK, partsK, hn0, hp0, show nameB [] = false from by decide, show wordB [] = false from by decide, h1])
          clear hr
          go_enter Tryz.func84, Tryz.ntmps84
          go_wp2
          go_ret
          exact ⟨ret_intN HZ.out, below_alloc _ _⟩
        · have q1 : decide (n < 1) = false := decide_eq_false h1
          by_cases h2 : 8 < n
          · have q2 : decide (8 < n) = true := decide_eq_true h2
            have HZ := Lib.hid (show (2 : Int) = r by rw [← hr]; unfold sgl; simp [textsK, numsK, partsK, hn0, hp0, show nameB [] = false from by decide, show wordB [] = false from by decide, h1, h2])
            clear hr
            go_enter Tryz.func84, Tryz.ntmps84
            go_wp2
            go_ret
            exact ⟨ret_intN HZ.out, below_alloc _ _⟩
          · have q2 : decide (8 < n) = false := decide_eq_false h2
            have HZ := Lib.hid (show (0 : Int) = r by rw [← hr]; unfold sgl; simp [textsK, numsK, partsK, hn0, hp0, show nameB [] = false from by decide, show wordB [] = false from by decide, h1, h2])
            clear hr
            go_enter Tryz.func84, Tryz.ntmps84
            go_wp2
            go_ret
            exact ⟨ret_intN HZ.out, below_alloc _ _⟩
  · have hte : t.isEmpty = false := by cases t with | nil => exact absurd rfl ht0 | cons c l => rfl
    by_cases hn0 : n = 0
    · have qn : (n == 0) = true := by simp [hn0]
      by_cases hp0 : pl = 0
      · have qp : ((pl : Int) == 0) = true := by simp [hp0]
        have HZ := Lib.hid (show (8 : Int) = r by rw [← hr]; unfold sgl; simp [textsK, numsK, partsK, hn0, hp0, ht0])
        clear hr
        go_enter Tryz.func84, Tryz.ntmps84
        go_wp2
        go_ret
        exact ⟨ret_intN HZ.out, below_alloc _ _⟩
      · have hpp : 0 < pl := by omega
        have qp : ((pl : Int) == 0) = false := by rw [beq_eq_false_iff_ne]; omega
        have qp2 : decide ((0 : Int) < (pl : Int)) = true := decide_eq_true (by omega)
        have HZ := Lib.hid (show (8 : Int) = r by rw [← hr]; unfold sgl; simp [textsK, numsK, partsK, hn0, hp0, ht0])
        clear hr
        go_enter Tryz.func84, Tryz.ntmps84
        go_wp2
        go_ret
        exact ⟨ret_intN HZ.out, below_alloc _ _⟩
    · have qn : (n == 0) = false := by simpa using hn0
      by_cases hp0 : pl = 0
      · have qp : ((pl : Int) == 0) = true := by simp [hp0]
        have HZ := Lib.hid (show (8 : Int) = r by rw [← hr]; unfold sgl; simp [textsK, numsK, partsK, hn0, hp0, ht0])
        clear hr
        go_enter Tryz.func84, Tryz.ntmps84
        go_wp2
        go_ret
        exact ⟨ret_intN HZ.out, below_alloc _ _⟩
      · have hpp : 0 < pl := by omega
        have qp : ((pl : Int) == 0) = false := by rw [beq_eq_false_iff_ne]; omega
        have qp2 : decide ((0 : Int) < (pl : Int)) = true := decide_eq_true (by omega)
        have HZ := Lib.hid (show (8 : Int) = r by rw [← hr]; unfold sgl; simp [textsK, numsK, partsK, hn0, hp0, ht0])
        clear hr
        go_enter Tryz.func84, Tryz.ntmps84
        go_wp2
        go_ret
        exact ⟨ret_intN HZ.out, below_alloc _ _⟩
set_option maxHeartbeats 4000000 in
theorem single_10 (t : Bs) (n : Int) (sa : Option Addr) (pl sc : Nat) (b wi : Bool) (r : Int) (hr : sgl 10 t n (decide (pl = 0)) b wi = r) (ht : t.length ≤ maxLen) (w : World) :
    Calls Tryz.prog 84 #[.agg #[intV 10, sV t, intV n, .slice sa pl sc], .bool b, .bool wi] w fun e w' => e = .returned (intV r) ∧ Below w.heap.size w w' := by
  have htl := baL_tl t
  have HNM := Lib.hid (fun nb hnb W => nameN_at t nb hnb ht W)
  have HWD := Lib.hid (fun z hz W => R01.refWord_at (baL t) z hz W)
  by_cases ht0 : t = []
  · subst ht0
    have hte : ([] : Bs).isEmpty = true := by rfl
    by_cases hn0 : n = 0
    · have qn : (n == 0) = true := by simp [hn0]
      by_cases hp0 : pl = 0
      · have qp : ((pl : Int) == 0) = true := by simp [hp0]
        have HZ := Lib.hid (show (5 : Int) = r by rw [← hr]; unfold sgl; simp [textsK, numsK, partsK, hn0, hp0, show nameB [] = false from by decide, show wordB [] = false from by decide])
        clear hr
        go_enter Tryz.func84, Tryz.ntmps84
        go_wp2
        go_ret
        exact ⟨ret_intN HZ.out, below_alloc _ _⟩
      · have hpp : 0 < pl := by omega
        have qp : ((pl : Int) == 0) = false := by rw [beq_eq_false_iff_ne]; omega
        have qp2 : decide ((0 : Int) < (pl : Int)) = true := decide_eq_true (by omega)
        have HWD2 := Lib.hid (fun W => HWD.out false (by decide) W)
        have HZ := Lib.hid (show (14 : Int) = r by rw [← hr]; unfold sgl; simp [textsK, numsK, partsK, hn0, hp0, show nameB [] = false from by decide, show wordB [] = false from by decide])
        clear hr
        clear HWD HNM
        go_enter Tryz.func84, Tryz.ntmps84
        go_wp2_with (first | (go_at_call 78; refine (texts_any 10 true (by decide) _).mono ?_; rintro e5 w5 ⟨rfl, rfl⟩) | (go_at_call 79; refine (numbers_any 10 false (by decide) _).mono ?_; rintro e5 w5 ⟨rfl, rfl⟩) | (go_at_call 80; refine (parts_any 10 true (by decide) _).mono ?_; rintro e5 w5 ⟨rfl, rfl⟩))
        refine (HWD2.out _).mono ?_
        rintro e' w2 ⟨rfl, h2⟩
        have hb2 := (h2.block w.heap.size (by simp)).trans (World.alloc_heap_new _ _)
        have HB2 := Lib.hid (below_then (below_alloc _ _) h2)
        clear h2
        obtain ⟨l0, l1, l2, l3⟩ := heap4N hb2
        go_wp2
        go_ret
        exact ⟨ret_intN HZ.out, HB2.out⟩
    · have qn : (n == 0) = false := by simpa using hn0
      by_cases hp0 : pl = 0
      · have qp : ((pl : Int) == 0) = true := by simp [hp0]
        have HZ := Lib.hid (show (8 : Int) = r by rw [← hr]; unfold sgl; simp [textsK, numsK, partsK, hn0, hp0, show nameB [] = false from by decide, show wordB [] = false from by decide])
        clear hr
        go_enter Tryz.func84, Tryz.ntmps84
        go_wp2
        go_ret
        exact ⟨ret_intN HZ.out, below_alloc _ _⟩
      · have hpp : 0 < pl := by omega
        have qp : ((pl : Int) == 0) = false := by rw [beq_eq_false_iff_ne]; omega
        have qp2 : decide ((0 : Int) < (pl : Int)) = true := decide_eq_true (by omega)
        have HZ := Lib.hid (show (8 : Int) = r by rw [← hr]; unfold sgl; simp [textsK, numsK, partsK, hn0, hp0, show nameB [] = false from by decide, show wordB [] = false from by decide])
        clear hr
        go_enter Tryz.func84, Tryz.ntmps84
        go_wp2
        go_ret
        exact ⟨ret_intN HZ.out, below_alloc _ _⟩
  · have hte : t.isEmpty = false := by cases t with | nil => exact absurd rfl ht0 | cons c l => rfl
    by_cases hn0 : n = 0
    · have qn : (n == 0) = true := by simp [hn0]
      by_cases hp0 : pl = 0
      · have qp : ((pl : Int) == 0) = true := by simp [hp0]
        have HZ := Lib.hid (show (5 : Int) = r by rw [← hr]; unfold sgl; simp [textsK, numsK, partsK, hn0, hp0, ht0])
        clear hr
        go_enter Tryz.func84, Tryz.ntmps84
        go_wp2
        go_ret
        exact ⟨ret_intN HZ.out, below_alloc _ _⟩
      · have hpp : 0 < pl := by omega
        have qp : ((pl : Int) == 0) = false := by rw [beq_eq_false_iff_ne]; omega
        have qp2 : decide ((0 : Int) < (pl : Int)) = true := decide_eq_true (by omega)
        cases hwd : wordB t
        · have HWD2 := Lib.hid (fun W => HWD.out false hwd W)
          have HZ := Lib.hid (show (14 : Int) = r by rw [← hr]; unfold sgl; simp [textsK, numsK, partsK, hn0, hp0, ht0, hwd])
          clear hr
          clear hwd HNM
          go_enter Tryz.func84, Tryz.ntmps84
          go_wp2_with (first | (go_at_call 78; refine (texts_any 10 true (by decide) _).mono ?_; rintro e5 w5 ⟨rfl, rfl⟩) | (go_at_call 79; refine (numbers_any 10 false (by decide) _).mono ?_; rintro e5 w5 ⟨rfl, rfl⟩) | (go_at_call 80; refine (parts_any 10 true (by decide) _).mono ?_; rintro e5 w5 ⟨rfl, rfl⟩))
          refine (HWD2.out _).mono ?_
          rintro e' w2 ⟨rfl, h2⟩
          have hb2 := (h2.block w.heap.size (by simp)).trans (World.alloc_heap_new _ _)
          have HB2 := Lib.hid (below_then (below_alloc _ _) h2)
          clear h2
          obtain ⟨l0, l1, l2, l3⟩ := heap4N hb2
          go_wp2
          go_ret
          exact ⟨ret_intN HZ.out, HB2.out⟩
        · have HWD2 := Lib.hid (fun W => HWD.out true hwd W)
          have HZ := Lib.hid (show (0 : Int) = r by rw [← hr]; unfold sgl; simp [textsK, numsK, partsK, hn0, hp0, ht0, hwd])
          clear hr
          clear hwd HNM
          go_enter Tryz.func84, Tryz.ntmps84
          go_wp2_with (first | (go_at_call 78; refine (texts_any 10 true (by decide) _).mono ?_; rintro e5 w5 ⟨rfl, rfl⟩) | (go_at_call 79; refine (numbers_any 10 false (by decide) _).mono ?_; rintro e5 w5 ⟨rfl, rfl⟩) | (go_at_call 80; refine (parts_any 10 true (by decide) _).mono ?_; rintro e5 w5 ⟨rfl, rfl⟩))
          refine (HWD2.out _).mono ?_
          rintro e' w2 ⟨rfl, h2⟩
          have hb2 := (h2.block w.heap.size (by simp)).trans (World.alloc_heap_new _ _)
          have HB2 := Lib.hid (below_then (below_alloc _ _) h2)
          clear h2
          obtain ⟨l0, l1, l2, l3⟩ := heap4N hb2
          go_wp2
          go_ret
          exact ⟨ret_intN HZ.out, HB2.out⟩
    · have qn : (n == 0) = false := by simpa using hn0
      by_cases hp0 : pl = 0
      · have qp : ((pl : Int) == 0) = true := by simp [hp0]
        have HZ := Lib.hid (show (8 : Int) = r by rw [← hr]; unfold sgl; simp [textsK, numsK, partsK, hn0, hp0, ht0])
        clear hr
        go_enter Tryz.func84, Tryz.ntmps84
        go_wp2
        go_ret
        exact ⟨ret_intN HZ.out, below_alloc _ _⟩
      · have hpp : 0 < pl := by omega
        have qp : ((pl : Int) == 0) = false := by rw [beq_eq_false_iff_ne]; omega
        have qp2 : decide ((0 : Int) < (pl : Int)) = true := decide_eq_true (by omega)
        have HZ := Lib.hid (show (8 : Int) = r by rw [← hr]; unfold sgl; simp [textsK, numsK, partsK, hn0, hp0, ht0])
        clear hr
        go_enter Tryz.func84, Tryz.ntmps84
        go_wp2
        go_ret
        exact ⟨ret_intN HZ.out, below_alloc _ _⟩
set_option maxHeartbeats 4000000 in
theorem single_11 (t : Bs) (n : Int) (sa : Option Addr) (pl sc : Nat) (b wi : Bool) (r : Int) (hr : sgl 11 t n (decide (pl = 0)) b wi = r) (ht : t.length ≤ maxLen) (w : World) :
    Calls Tryz.prog 84 #[.agg #[intV 11, sV t, intV n, .slice sa pl sc], .bool b, .bool wi] w fun e w' => e = .returned (intV r) ∧ Below w.heap.size w w' := by
  have htl := baL_tl t
  have HNM := Lib.hid (fun nb hnb W => nameN_at t nb hnb ht W)
  have HWD := Lib.hid (fun z hz W => R01.refWord_at (baL t) z hz W)
  by_cases ht0 : t = []
  · subst ht0
    have hte : ([] : Bs).isEmpty = true := by rfl
    by_cases hn0 : n = 0
    · have qn : (n == 0) = true := by simp [hn0]
      by_cases hp0 : pl = 0
      · have qp : ((pl : Int) == 0) = true := by simp [hp0]
        have HZ := Lib.hid (show (5 : Int) = r by rw [← hr]; unfold sgl; simp [textsK, numsK, partsK, hn0, hp0, show nameB [] = false from by decide, show wordB [] = false from by decide])
        clear hr
        go_enter Tryz.func84, Tryz.ntmps84
        go_wp2
        go_ret
        exact ⟨ret_intN HZ.out, below_alloc _ _⟩
      · have hpp : 0 < pl := by omega
        have qp : ((pl : Int) == 0) = false := by rw [beq_eq_false_iff_ne]; omega
        have qp2 : decide ((0 : Int) < (pl : Int)) = true := decide_eq_true (by omega)
        have HNM2 := Lib.hid (fun W => HNM.out false (by decide) W)
        have HZ := Lib.hid (show (14 : Int) = r by rw [← hr]; unfold sgl; simp [textsK, numsK, partsK, hn0, hp0, show nameB [] = false from by decide, show wordB [] = false from by decide])
        clear hr
        clear HWD HNM
        go_enter Tryz.func84, Tryz.ntmps84
        go_wp2_with (first | (go_at_call 78; refine (texts_any 11 true (by decide) _).mono ?_; rintro e5 w5 ⟨rfl, rfl⟩) | (go_at_call 79; refine (numbers_any 11 false (by decide) _).mono ?_; rintro e5 w5 ⟨rfl, rfl⟩) | (go_at_call 80; refine (parts_any 11 true (by decide) _).mono ?_; rintro e5 w5 ⟨rfl, rfl⟩))
        refine (HNM2.out _).mono ?_
        rintro e' w2 ⟨rfl, h2⟩
        have hb2 := (h2.block w.heap.size (by simp)).trans (World.alloc_heap_new _ _)
        have HB2 := Lib.hid (below_then (below_alloc _ _) h2)
        clear h2
        obtain ⟨l0, l1, l2, l3⟩ := heap4N hb2
        go_wp2
        go_ret
        exact ⟨ret_intN HZ.out, HB2.out⟩
    · have qn : (n == 0) = false := by simpa using hn0
      by_cases hp0 : pl = 0
      · have qp : ((pl : Int) == 0) = true := by simp [hp0]
        have HZ := Lib.hid (show (8 : Int) = r by rw [← hr]; unfold sgl; simp [textsK, numsK, partsK, hn0, hp0, show nameB [] = false from by decide, show wordB [] = false from by decide])
        clear hr
        go_enter Tryz.func84, Tryz.ntmps84
        go_wp2
        go_ret
        exact ⟨ret_intN HZ.out, below_alloc _ _⟩
      · have hpp : 0 < pl := by omega
        have qp : ((pl : Int) == 0) = false := by rw [beq_eq_false_iff_ne]; omega
        have qp2 : decide ((0 : Int) < (pl : Int)) = true := decide_eq_true (by omega)
        have HZ := Lib.hid (show (8 : Int) = r by rw [← hr]; unfold sgl; simp [textsK, numsK, partsK, hn0, hp0, show nameB [] = false from by decide, show wordB [] = false from by decide])
        clear hr
        go_enter Tryz.func84, Tryz.ntmps84
        go_wp2
        go_ret
        exact ⟨ret_intN HZ.out, below_alloc _ _⟩
  · have hte : t.isEmpty = false := by cases t with | nil => exact absurd rfl ht0 | cons c l => rfl
    by_cases hn0 : n = 0
    · have qn : (n == 0) = true := by simp [hn0]
      by_cases hp0 : pl = 0
      · have qp : ((pl : Int) == 0) = true := by simp [hp0]
        have HZ := Lib.hid (show (5 : Int) = r by rw [← hr]; unfold sgl; simp [textsK, numsK, partsK, hn0, hp0, ht0])
        clear hr
        go_enter Tryz.func84, Tryz.ntmps84
        go_wp2
        go_ret
        exact ⟨ret_intN HZ.out, below_alloc _ _⟩
      · have hpp : 0 < pl := by omega
        have qp : ((pl : Int) == 0) = false := by rw [beq_eq_false_iff_ne]; omega
        have qp2 : decide ((0 : Int) < (pl : Int)) = true := decide_eq_true (by omega)
        cases hnm : nameB t
        · have HNM2 := Lib.hid (fun W => HNM.out false hnm W)
          have HZ := Lib.hid (show (14 : Int) = r by rw [← hr]; unfold sgl; simp [textsK, numsK, partsK, hn0, hp0, ht0, hnm])
          clear hr
          clear hnm HWD HNM
          go_enter Tryz.func84, Tryz.ntmps84
          go_wp2_with (first | (go_at_call 78; refine (texts_any 11 true (by decide) _).mono ?_; rintro e5 w5 ⟨rfl, rfl⟩) | (go_at_call 79; refine (numbers_any 11 false (by decide) _).mono ?_; rintro e5 w5 ⟨rfl, rfl⟩) | (go_at_call 80; refine (parts_any 11 true (by decide) _).mono ?_; rintro e5 w5 ⟨rfl, rfl⟩))
          refine (HNM2.out _).mono ?_
          rintro e' w2 ⟨rfl, h2⟩
          have hb2 := (h2.block w.heap.size (by simp)).trans (World.alloc_heap_new _ _)
          have HB2 := Lib.hid (below_then (below_alloc _ _) h2)
          clear h2
          obtain ⟨l0, l1, l2, l3⟩ := heap4N hb2
          go_wp2
          go_ret
          exact ⟨ret_intN HZ.out, HB2.out⟩
        · have HNM2 := Lib.hid (fun W => HNM.out true hnm W)
          cases wi
          · have HZ := Lib.hid (show (0 : Int) = r by rw [← hr]; unfold sgl; simp [textsK, numsK, partsK, hn0, hp0, ht0, hnm])
            clear hr
            clear hnm HWD HNM
            go_enter Tryz.func84, Tryz.ntmps84
            go_wp2_with (first | (go_at_call 78; refine (texts_any 11 true (by decide) _).mono ?_; rintro e5 w5 ⟨rfl, rfl⟩) | (go_at_call 79; refine (numbers_any 11 false (by decide) _).mono ?_; rintro e5 w5 ⟨rfl, rfl⟩) | (go_at_call 80; refine (parts_any 11 true (by decide) _).mono ?_; rintro e5 w5 ⟨rfl, rfl⟩))
            refine (HNM2.out _).mono ?_
            rintro e' w2 ⟨rfl, h2⟩
            have hb2 := (h2.block w.heap.size (by simp)).trans (World.alloc_heap_new _ _)
            have HB2 := Lib.hid (below_then (below_alloc _ _) h2)
            clear h2
            obtain ⟨l0, l1, l2, l3⟩ := heap4N hb2
            go_wp2
            go_ret
            exact ⟨ret_intN HZ.out, HB2.out⟩
          · have HZ := Lib.hid (show (0 : Int) = r by rw [← hr]; unfold sgl; simp [textsK, numsK, partsK, hn0, hp0, ht0, hnm])
            clear hr
            clear hnm HWD HNM
            go_enter Tryz.func84, Tryz.ntmps84
            go_wp2_with (first | (go_at_call 78; refine (texts_any 11 true (by decide) _).mono ?_; rintro e5 w5 ⟨rfl, rfl⟩) | (go_at_call 79; refine (numbers_any 11 false (by decide) _).mono ?_; rintro e5 w5 ⟨rfl, rfl⟩) | (go_at_call 80; refine (parts_any 11 true (by decide) _).mono ?_; rintro e5 w5 ⟨rfl, rfl⟩))
            refine (HNM2.out _).mono ?_
            rintro e' w2 ⟨rfl, h2⟩
            have hb2 := (h2.block w.heap.size (by simp)).trans (World.alloc_heap_new _ _)
            have HB2 := Lib.hid (below_then (below_alloc _ _) h2)
            clear h2
            obtain ⟨l0, l1, l2, l3⟩ := heap4N hb2
            go_wp2
            go_ret
            exact ⟨ret_intN HZ.out, HB2.out⟩
    · have qn : (n == 0) = false := by simpa using hn0
      by_cases hp0 : pl = 0
      · have qp : ((pl : Int) == 0) = true := by simp [hp0]
        have HZ := Lib.hid (show (8 : Int) = r by rw [← hr]; unfold sgl; simp [textsK, numsK, partsK, hn0, hp0, ht0])
        clear hr
        go_enter Tryz.func84, Tryz.ntmps84
        go_wp2
        go_ret
        exact ⟨ret_intN HZ.out, below_alloc _ _⟩
      · have hpp : 0 < pl := by omega
        have qp : ((pl : Int) == 0) = false := by rw [beq_eq_false_iff_ne]; omega
        have qp2 : decide ((0 : Int) < (pl : Int)) = true := decide_eq_true (by omega)
        have HZ := Lib.hid (show (8 : Int) = r by rw [← hr]; unfold sgl; simp [textsK, numsK, partsK, hn0, hp0, ht0])
        clear hr
        go_enter Tryz.func84, Tryz.ntmps84
        go_wp2
        go_ret
        exact ⟨ret_intN HZ.out, below_alloc _ _⟩
end Go.Proofs.YtmfcepfagbkceaaGreatDoor
