/- Of and Complement of layer 4's own code. -/
import Derived.Test.YtdplcpnahahkaaaIsOps
namespace Go.Proofs.Ytdplcpnahahkaaa
set_option linter.unusedSimpArgs false
set_option linter.unusedVariables false
set_option maxRecDepth 100000
open Go.RowKit Go.Shelf

set_option maxHeartbeats 2000000 in
theorem of_any (xs : List Int) (r : List Int × Int) (hr : ofR xs = r) (v : Value) (w : World) (hv : IntsAt w v xs) (hl : xs.length ≤ 1000000) :
    Calls Try.prog 14 #[v] w (ListPost r w) := by
  have HV := Lib.hid hv
  obtain ⟨a, cap, rfl, hc⟩ := hv
  have HC := Lib.hid hc
  have HR := Lib.hid hr
  clear hc hr
  go_enter Try.func14, Try.ntmps14
  go_wp2
  go_loop [8] (fun i => ∃ k : Nat, k ≤ xs.length ∧ i = .int .i64 k ∧ InR (xs.take k)) (fun i => xs.length - (intOf i).toNat)
  case atStart => exact ⟨0, Nat.zero_le _, rfl, by simp [InR]⟩
  case round =>
    obtain ⟨k, hk, rfl, hR⟩ := hrel
    by_cases hlt : k < xs.length
    · obtain ⟨b, off, rfl, hbb, hcs⟩ := HC.out (by omega)
      have hcell := hcs k hlt
      clear hcs
      have HT := Lib.hid (List.take_succ_eq_append_getElem hlt)
      have HM := Lib.hid (List.getElem_mem hlt)
      obtain ⟨x, hx⟩ : ∃ x, xs[k] = x := ⟨_, rfl⟩
      rw [hx] at hcell HT HM
      have HI := Lib.hid hR
      clear hx hR
      by_cases h1 : x < 0 ∨ 63 < x
      · have HRR := Lib.hid (show r = ([], 2) by rw [← HR.out, ofR, if_pos ⟨x, HM.out, h1⟩])
        have HQ := Lib.hid (show decide (0 ≤ x ∧ x < 64) = false by rw [decide_eq_false_iff_not]; omega)
        clear h1 HV HC HI HT HM
        go_wp2_with fail
        refine (member_any x false HQ.out _).mono ?_
        rintro e w1 ⟨rfl, rfl⟩
        go_wp2
        go_ret2
        exact ListPost.bad HRR.out (Below.refl _ _)
      · have HQ := Lib.hid (show decide (0 ≤ x ∧ x < 64) = true by rw [decide_eq_true_eq]; omega)
        go_wp2_with fail
        refine (member_any x true HQ.out _).mono ?_
        rintro e w1 ⟨rfl, rfl⟩
        go_wp2
        go_round
        case rel =>
          refine ⟨k + 1, by omega, by go_num, ?_⟩
          rw [HT.out]
          intro y hy
          rcases List.mem_append.1 hy with h | h
          · exact HI.out y h
          · simp at h; omega
        case measure => simp [intOf]; omega
    · obtain rfl : k = xs.length := by omega
      rw [List.take_length] at hR
      have HRR := Lib.hid (show r = (sel 64 fun i => (mask xs).testBit i, 0) by
        rw [← HR.out, ofR, if_neg (by rintro ⟨x, hx, h⟩; have := hR x hx; omega)]
        exact congrArg (fun l => (l, (0 : Int))) (sel_congr fun i _ => (mask_bit hR i).symm))
      have HM := Lib.hid (mark_any xs hR _ w HV.out hl)
      have hm := mask_lt hR
      obtain ⟨m, hm'⟩ : ∃ m, mask xs = m := ⟨_, rfl⟩
      rw [hm'] at HRR HM hm
      clear hm' hR HV HC HR
      go_wp2_with fail
      refine HM.out.mono ?_
      rintro e w1 ⟨rfl, rfl⟩
      clear HM
      go_wp2_with fail
      have HP : Picks w 45 #[u64V m] #[] 64 (fun i => m.testBit i) := fun W' hW i hi => (has_any m hm i hi W').mono fun e w' ⟨h1, h2⟩ => ⟨h1, 0, h2.symm⟩
      refine (listOf_any 64 (Nat.le_refl _) _ _ _ _ Try.call45 w HP).mono ?_
      rintro e w2 ⟨v, rfl, h1, h2⟩
      have H1 := Lib.hid h1
      have H2 := Lib.hid h2
      obtain ⟨a, cap, rfl, _⟩ := id h1
      clear HP h1 h2
      go_wp2
      go_ret2
      exact ListPost.good HRR.out H1.out H2.out

set_option maxHeartbeats 1000000 in
theorem comp1_any (b1 : Nat) (m1 : Nat) (h1 : m1 < 18446744073709551616) (i : Nat) (hi : i < 64) (w : World) (c1 : w.cell? ⟨b1, 0, none⟩ = some (u64V m1)) :
    Calls Try.prog 51 #[intV i, .pointer (some ⟨b1, 0, none⟩)] w fun e w' => e = .returned (.bool (!m1.testBit i)) ∧ ∃ m, w' = w.drewN m := by
  go_enter Try.func51, Try.ntmps51
  go_wp2_with fail
  refine (has_any m1 h1 i hi _).mono ?_
  rintro e w1 ⟨rfl, rfl⟩
  go_wp2
  go_ret
  exact ⟨rfl, 0, rfl⟩
theorem comp_fits (n : Nat) (hn : n ≤ 64) (l : List Int) (hR : InR l) : (∀ i, i < 64 → (mask l).testBit i = true → (2 ^ n - 1).testBit i = true) ↔ ¬ ∃ x ∈ l, (n : Int) ≤ x := by
  constructor
  · rintro h ⟨x, hx, hnx⟩
    have h0 := hR x hx
    have e : ((x.toNat : Nat) : Int) = x := by omega
    have := h x.toNat (by omega) (by rw [mask_bit hR, has, e]; simpa using hx)
    rw [ones_bit] at this
    simp at this
    omega
  · intro h i hi hb
    rw [mask_bit hR, has, decide_eq_true_eq] at hb
    rw [ones_bit, decide_eq_true_eq]
    exact Classical.byContradiction fun hc => h ⟨_, hb, by omega⟩

set_option maxHeartbeats 2000000 in
theorem comp_any (n : Int) (xs : List Int) (r : List Int × Int) (hr : compR n xs = r) (v : Value) (w : World) (hv : IntsAt w v xs) (hl : xs.length ≤ 1000000) :
    Calls Try.prog 16 #[intV n, v] w (ListPost r w) := by
  have HV := Lib.hid hv
  obtain ⟨a, cap, rfl, _⟩ := hv
  have HR := Lib.hid hr
  clear hr
  by_cases hn : n < 0 ∨ 64 < n
  · have HRR := Lib.hid (show r = ([], 2) by rw [← HR.out, compR, if_pos hn])
    have HS := Lib.hid (size_any n false (by rw [decide_eq_false_iff_not]; omega))
    clear HV HR hn
    go_enter Try.func16, Try.ntmps16
    go_wp2_with fail
    refine (HS.out _).mono ?_
    rintro e w1 ⟨rfl, rfl⟩
    go_wp2
    go_ret2
    exact ListPost.bad HRR.out (Below.refl _ _)
  · have HS := Lib.hid (size_any n true (by rw [decide_eq_true_eq]; omega))
    by_cases he : errL xs = 0
    · have hR := ((err_iff _).1 he).2
      obtain ⟨n, rfl⟩ : ∃ k : Nat, n = k := ⟨n.toNat, by omega⟩
      have hn' : n ≤ 64 := by omega
      have HI := Lib.hid (isSet_any xs true (by simpa using he) _ w HV.out hl)
      have HM := Lib.hid (mark_any xs hR _ w HV.out hl)
      have hm := mask_lt hR
      have hr2 : r = if ∃ x ∈ xs, (n : Int) ≤ x then ([], 2) else (sel n fun i => !has xs i, 0) := by
        rw [← HR.out, compR, if_neg hn, if_neg (by simpa using he)]; rfl
      have hfit := comp_fits n hn' xs hR
      have hsel : (sel n fun i => !has xs i) = sel n fun i => !(mask xs).testBit i := sel_congr fun i _ => by rw [mask_bit hR]
      rw [hsel] at hr2
      obtain ⟨m, hm'⟩ : ∃ m, mask xs = m := ⟨_, rfl⟩
      rw [hm'] at HM hm hfit hr2
      have HF := Lib.hid (first_any n hn')
      have hB : Below w.heap.size w (w.alloc (.cells #[u64V m] 53)) := (Below.refl _ _).alloc (Nat.le_refl _) _
      have c1 := cell_new1 w (u64V m) 53
      have HC := Lib.hid c1
      have hsz : (w.alloc (.cells #[u64V m] 53)).heap.size = w.heap.size + 1 := by simp
      have HZ := Lib.hid hsz
      have HB := Lib.hid hB
      clear hm' hR HR he hn hsel hB hsz
      by_cases hb : ∃ x ∈ xs, (n : Int) ≤ x
      · rw [if_pos hb] at hr2
        have HRR := Lib.hid hr2
        have HW := Lib.hid (within_m m (2 ^ n - 1) hm (ones_lt hn') false (by rw [hfit]; simp only [Bool.false_eq_true, false_iff, Classical.not_not]; exact hb))
        clear hb hr2 hfit HV
        go_enter Try.func16, Try.ntmps16
        go_wp2_with fail
        refine (HS.out _).mono ?_
        rintro e w1 ⟨rfl, rfl⟩
        go_wp2_with fail
        refine HI.out.mono ?_
        rintro e w1 ⟨rfl, rfl⟩
        go_wp2_with fail
        refine HM.out.mono ?_
        rintro e w1 ⟨rfl, rfl⟩
        clear HS HI HM
        go_wp2_with fail
        go_quiet (first
          | (go_at_call 50; exact quiet_id (HF.out _))
          | (go_at_call 49; exact quiet_id (HW.out _)))
        go_wp2
        go_ret2
        exact ListPost.bad HRR.out (HB.out.trans (below_drewN_n _ _ _))
      · rw [if_neg hb] at hr2
        have HRR := Lib.hid hr2
        have HW := Lib.hid (within_m m (2 ^ n - 1) hm (ones_lt hn') true (by rw [hfit]; simpa using hb))
        clear hb hr2 hfit HV
        go_enter Try.func16, Try.ntmps16
        go_wp2_with fail
        refine (HS.out _).mono ?_
        rintro e w1 ⟨rfl, rfl⟩
        go_wp2_with fail
        refine HI.out.mono ?_
        rintro e w1 ⟨rfl, rfl⟩
        go_wp2_with fail
        refine HM.out.mono ?_
        rintro e w1 ⟨rfl, rfl⟩
        clear HS HI HM
        go_wp2_with fail
        go_quiet (first
          | (go_at_call 50; exact quiet_id (HF.out _))
          | (go_at_call 49; exact quiet_id (HW.out _)))
        clear c1
        go_wp2_with fail
        obtain ⟨w2, hw2⟩ : ∃ w2, (w.alloc (.cells #[u64V m] 53)).drewN nq = w2 := ⟨_, rfl⟩
        rw [hw2]
        have hz2 : w2.heap.size = w.heap.size + 1 := by rw [← hw2]; exact HZ.out
        have HB2 := Lib.hid (show Below w.heap.size w w2 by rw [← hw2]; exact HB.out.trans (below_drewN_n _ _ _))
        have HP : Picks w2 51 #[] #[.pointer (some ⟨w.heap.size, 0, none⟩)] n (fun i => !m.testBit i) := fun W' hW i hi =>
          comp1_any _ m hm i (by omega) W' ((hW.cell (p := ⟨w.heap.size, 0, none⟩) (by show w.heap.size < _; omega)).trans (by rw [← hw2]; exact HC.out))
        refine (listOf_any n hn' _ _ _ _ Try.call51 w2 HP).mono ?_
        rintro e w3 ⟨v, rfl, h1, h2⟩
        have H1 := Lib.hid h1
        have H2 := Lib.hid (below_then HB2.out h2)
        obtain ⟨a, cap, rfl, _⟩ := id h1
        clear HP h1 h2 hw2
        go_wp2
        go_ret2
        exact ListPost.good HRR.out H1.out H2.out
    · have HI := Lib.hid (isSet_any xs false (by simpa using he) _ w HV.out hl)
      have HRR := Lib.hid (show r = ([], 1) by rw [← HR.out, compR, if_neg hn, if_pos he])
      clear HR HV he hn
      go_enter Try.func16, Try.ntmps16
      go_wp2_with fail
      refine (HS.out _).mono ?_
      rintro e w1 ⟨rfl, rfl⟩
      go_wp2_with fail
      refine HI.out.mono ?_
      rintro e w1 ⟨rfl, rfl⟩
      go_wp2
      go_ret2
      exact ListPost.bad HRR.out (Below.refl _ _)
end Go.Proofs.Ytdplcpnahahkaaa
