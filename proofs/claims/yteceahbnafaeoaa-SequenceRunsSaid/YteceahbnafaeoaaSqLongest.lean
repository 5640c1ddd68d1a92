/- SequenceLongest: the law's walk. -/
import Derived.Test.YteceahbnafaeoaaSqAwake
import Derived.Test.YteceahbnafaeoaaSqRises
import Derived.Deep.Cut
namespace Go.Proofs.Yteceahbnafaeoaa
set_option linter.unusedSimpArgs false
set_option linter.unusedVariables false
set_option maxRecDepth 100000
open Go.RowKit Go.Deep

theorem lex_cmp : ∀ a b : List Int, lexL a b = true → lexI a b ≤ 0
  | [], [], _ => by decide
  | [], b :: r, _ => by rw [lexI_nil]; split <;> decide
  | _ :: _, [], h => by simp [lexL] at h
  | x :: a, y :: b, h => by
    rw [lexL, Bool.or_eq_true, decide_eq_true_eq, Bool.and_eq_true, decide_eq_true_eq] at h
    rw [lexI]
    rcases h with h | ⟨rfl, h⟩
    · rw [cmpZ, if_pos h, if_pos (by decide)]; decide
    · have e : cmpZ x x = 0 := by unfold cmpZ; rw [if_neg (by omega), if_neg (by omega)]
      rw [e, if_neg (by decide)]
      exact lex_cmp a b h
/-- the closure that looks for an index outside -/
theorem out_any (l : List Int) (x : Int) (bx : Nat) (a : Option Addr) (cap : Nat) (W : World) (hc : W.cell? ⟨bx, 0, none⟩ = some (.slice a l.length cap)) (hx : inB l x = true) :
    Calls Try.prog 33 #[intV x, .pointer (some ⟨bx, 0, none⟩)] W fun e w' => e = .returned (.bool false) ∧ ∃ m, w' = W.drewN m := by
  unfold inB at hx
  rw [Bool.and_eq_true, decide_eq_true_eq, decide_eq_true_eq] at hx
  have h1 : decide (x < 0) = false := decide_eq_false (by omega)
  have h2 : decide ((l.length : Int) ≤ x) = false := decide_eq_false (by omega)
  clear hx
  go_enter Try.func33, Try.ntmps33
  go_wp2
  go_ret
  exact ⟨rfl, 0, rfl⟩
theorem incB_in {l c : List Int} (h : incB l c = true) {i : Nat} (hi : i < c.length) : inB l c[i] = true := by
  have := (List.all_eq_true.1 h) i (by simpa using hi)
  unfold okU at this
  rw [Bool.and_eq_true, ix_get _ _ hi] at this
  exact this.1
theorem inB_nat {l : List Int} {x : Int} (h : inB l x = true) : ∃ q : Nat, x = q ∧ q < l.length := by
  unfold inB at h
  rw [Bool.and_eq_true, decide_eq_true_eq, decide_eq_true_eq] at h
  exact ⟨x.toNat, by omega, by omega⟩
theorem incB_step {l c : List Int} (h : incB l c = true) {i : Nat} (hi : i + 1 < c.length) : c[i] < c[i + 1] ∧ at0 l c[i] < at0 l c[i + 1] := by
  have := (List.all_eq_true.1 h) (i + 1) (by simpa using hi)
  unfold okU at this
  rw [Bool.and_eq_true, Bool.or_eq_true, decide_eq_true_eq, Bool.and_eq_true, decide_eq_true_eq, decide_eq_true_eq, Nat.add_sub_cancel, ix_get _ _ hi, ix_get _ _ (show i < c.length by omega)] at this
  rcases this.2 with h0 | h0
  · omega
  · exact h0
set_option maxHeartbeats 4000000 in
theorem longest_law (H : SqOk) (l : List Int) (v : Value) (w : World) (m : Nat) (hm : m < 65536) (hv : IntsAt w v l) (hr : R64 l) (hl : l.length ≤ maxLen) :
    Calls Try.prog 5 #[v, .int .u16 m] w fun e w' => e = .returned (.bool true) ∧ Below w.heap.size w w' := by
  obtain ⟨a, cap, rfl⟩ := hv.slice
  obtain ⟨w0, hw0⟩ : ∃ x, w.alloc (.cells #[Value.slice a l.length cap] 22) = x := ⟨_, rfl⟩
  have hA : Below w.heap.size w w0 := by rw [← hw0]; exact alloc_below w _
  have hbx : w0.cell? ⟨w.heap.size, 0, none⟩ = some (.slice a l.length cap) := by rw [← hw0]; simp
  have hbz : w.heap.size < w0.heap.size := by rw [← hw0]; simp
  have HV := Lib.hid (hv.below hA)
  have B0 := Lib.hid hA
  have HW0 := Lib.hid hw0
  clear hA hw0
  by_cases h12 : 12 < l.length
  · clear hv hr
    have hb : decide ((12 : Int) < (l.length : Int)) = true := decide_eq_true (by omega)
    unfold maxLen at hl
    go_enter Try.func5, Try.ntmps5
    go_upto_region 1 with fail
    rw [HW0.out]
    go_wp2_with fail
    refine (awake_any H w0).mono ?_
    rintro e w1 ⟨rfl, h1⟩
    have B := Lib.hid (below_seq B0.out h1 B0.out.size)
    clear h1
    go_wp2
    go_ret
    exact ⟨rfl, B.out⟩
  · have hb : decide ((12 : Int) < (l.length : Int)) = false := decide_eq_false (by omega)
    have e1 : incE l = (incR l, 0) := by unfold incE; rw [if_neg (by omega)]
    have C1 := Lib.hid (fun W h => H.incr l (.slice a l.length cap) W h hr hl)
    rw [e1] at C1
    have hinc : incB l (incR l) = true := inc_ok l (ones l)
    have hal : (incR l).length ≤ 12 := by have := lis_le l; rw [inc_len]; omega
    have CR := Lib.hid (fun W h => rises_any l m hm (by omega) (.slice a l.length cap) W h)
    have HCH := Lib.hid (fun h => choice_long m l h)
    have hcl : (chosen m l.length).length ≤ 12 := by have := chosen_len m l.length; omega
    obtain ⟨A, hAA⟩ : ∃ A, incR l = A := ⟨_, rfl⟩
    obtain ⟨C, hCC⟩ : ∃ C, chosen m l.length = C := ⟨_, rfl⟩
    rw [hAA] at C1 hinc hal HCH
    rw [hCC] at CR HCH hcl
    have HINC := Lib.hid hinc
    have HL12 := Lib.hid h12
    clear hv hr e1 hl hAA hCC hinc h12
    go_enter Try.func5, Try.ntmps5
    go_upto_region 1 with fail
    rw [HW0.out]
    go_wp2_with fail
    refine (C1.out w0 HV.out).mono ?_
    rintro e w1 ⟨va, rfl, hi1, h1⟩
    have HI1 := Lib.hid hi1
    have hbx1 := (h1.cell (p := ⟨w.heap.size, 0, none⟩) hbz).trans hbx
    have B1 := Lib.hid (below_seq B0.out h1 B0.out.size)
    have B01 := Lib.hid h1
    clear hi1 h1 C1
    have hz : ((0 : Int) != 0) = false := rfl
    simp only at HI1
    go_wp2_with fail
    have hcall := containsF_any A (fun _ => false) 33 #[.pointer (some ⟨w.heap.size, 0, none⟩)] (fun args W => Try.call33 args W) false (by simp) va w1 HI1.out (by omega) (fun q x hx => by
      obtain ⟨i, hi, rfl⟩ := List.getElem_of_mem hx
      exact (out_any l A[i] w.heap.size a cap (w1.drewN q) hbx1 (incB_in HINC.out hi)).mono fun e w' ⟨h1, m, h2⟩ => ⟨h1, q + m, by rw [h2, World.drewN_drewN]⟩)
    refine hcall.mono ?_
    rintro e w2 ⟨rfl, q2, hq2⟩
    have hbx2 : w2.cell? ⟨w.heap.size, 0, none⟩ = some (.slice a l.length cap) := by rw [hq2]; exact hbx1
    have B12 := Lib.hid (show Below w1.heap.size w1 w2 by rw [hq2]; exact below_drewN _ _)
    have hbz1 : w.heap.size < w1.heap.size := Nat.lt_of_lt_of_le hbz B01.out.size
    obtain ⟨aa, ca, rfl⟩ := HI1.out.slice
    clear hq2 hcall
    go_wp2
    go_loopw [28] (fun i wr => ∃ k : Nat, k ≤ A.length ∧ i = .int .i64 k ∧ Below w1.heap.size w1 wr) (fun i _ => A.length - (intOf i).toNat)
    case atStart => exact ⟨0, Nat.zero_le _, rfl, B12.out⟩
    case round =>
      obtain ⟨k, hk, rfl, hB⟩ := hrel
      obtain ⟨wk, rfl⟩ : ∃ x, x = wr := ⟨_, rfl⟩
      have HBK := Lib.hid hB
      have hbxk : wk.cell? ⟨w.heap.size, 0, none⟩ = some (.slice a l.length cap) := (hB.cell (p := ⟨w.heap.size, 0, none⟩) hbz1).trans hbx1
      by_cases hlt : k < A.length
      · by_cases h0 : k = 0
        · subst h0
          have hg : decide ((0 : Int) < ((0 : Nat) : Int)) = false := by decide
          clear hB hbx hbx1 hbx2
          go_wp2_with fail
          go_quiet (fail)
          go_wp2
          go_roundw
          case rel => exact ⟨1, by omega, rfl, HBK.out.trans (below_drewN_n _ _ _)⟩
          case measure => simp [intOf]; omega
        · obtain ⟨j, rfl⟩ : ∃ j, k = j + 1 := ⟨k - 1, by omega⟩
          have hj : j < A.length := by omega
          obtain ⟨s1, s2⟩ := incB_step HINC.out hlt
          obtain ⟨p, hp, hpl⟩ := inB_nat (incB_in HINC.out hlt)
          obtain ⟨q, hq, hql⟩ := inB_nat (incB_in HINC.out hj)
          obtain ⟨g, go, rfl, hgb, c1⟩ := HI1.out.elem hlt
          obtain ⟨g', go', e', _, c2⟩ := HI1.out.elem hj
          cases e'
          obtain ⟨b, off, rfl, hbb, c3⟩ := HV.out.elem hpl
          obtain ⟨b', off', e', _, c4⟩ := HV.out.elem hql
          cases e'
          have d1 := (hB.cell (p := ⟨g, go + (j + 1), none⟩) hgb).trans c1
          have d2 := (hB.cell (p := ⟨g, go + j, none⟩) hgb).trans c2
          have hBB := B01.out.trans (hB.mono B01.out.size)
          have d3 := (hBB.cell (p := ⟨b, off + p, none⟩) hbb).trans c3
          have d4 := (hBB.cell (p := ⟨b, off + q, none⟩) hbb).trans c4
          rw [hp] at d1 s1 s2
          rw [hq] at d2 s1 s2
          rw [at0_get l p hpl, at0_get l q hql] at s2
          obtain ⟨x, hx⟩ : ∃ x, l[p] = x := ⟨_, rfl⟩
          obtain ⟨y, hy⟩ : ∃ y, l[q] = y := ⟨_, rfl⟩
          rw [hx] at d3 s2
          rw [hy] at d4 s2
          obtain ⟨i, hi⟩ : ∃ i, j + 1 = i := ⟨_, rfl⟩
          have HI := Lib.hid hi
          have hg : 0 < i := by omega
          have hwr : IntKind.i64.wrap ((i : Int) - 1) = (j : Int) := by rw [show (i : Int) - 1 = j by omega]; exact IntWalk.i64_in _ (by omega)
          have t1 : decide (p ≤ q) = false := decide_eq_false (by omega)
          have t2 : decide (x ≤ y) = false := decide_eq_false (by omega)
          have b1 : (0 : Int) ≤ (i : Int) := by omega
          have b2 : (i : Int) < (A.length : Int) := by omega
          have b3 : (0 : Int) ≤ (j : Int) := by omega
          have b4 : (j : Int) < (A.length : Int) := by omega
          have b5 : (0 : Int) ≤ (p : Int) := by omega
          have b6 : (p : Int) < (l.length : Int) := by omega
          have b7 : (0 : Int) ≤ (q : Int) := by omega
          have b8 : (q : Int) < (l.length : Int) := by omega
          have HLT := Lib.hid hlt
          rw [hi] at d1 ⊢
          clear hB hbx hbx1 hbx2 s1 s2 hp hq hpl hql c1 c2 c3 c4 hBB hx hy hi hlt h0 hj hgb hbb hk
          go_wp2_with fail
          go_quiet (fail)
          go_wp2
          go_roundw
          case rel => exact ⟨i + 1, by have := HLT.out; have := HI.out; omega, by go_num, HBK.out.trans (below_drewN_n _ _ _)⟩
          case measure => have := HLT.out; have := HI.out; simp [intOf]; omega
      · obtain rfl : k = A.length := by omega
        have BK := Lib.hid (below_seq B1.out HBK.out B1.out.size)
        have BV := Lib.hid (B01.out.trans (HBK.out.mono B01.out.size))
        clear hB hbx hbx1 hbx2
        go_wp2_with fail
        refine (CR.out wk (HV.out.below BV.out)).mono ?_
        rintro e w3 ⟨u, rfl, hu, h3⟩
        have HU := Lib.hid hu
        have B3 := Lib.hid (below_then BK.out h3)
        have BA := Lib.hid (HBK.out.trans (h3.mono HBK.out.size))
        clear hu h3 hbxk
        obtain ⟨r, hr⟩ : ∃ r, incB l C = r := ⟨_, rfl⟩
        rw [hr] at HU HCH ⊢
        have HR := Lib.hid hr
        clear hr
        cases r with
        | false =>
          go_wp2_with fail
          refine (awake_any H w3).mono ?_
          rintro e w4 ⟨rfl, h4⟩
          have B4 := Lib.hid (below_then B3.out h4)
          clear h4
          go_wp2
          go_ret
          exact ⟨rfl, B4.out⟩
        | true =>
          have hui := HU.out rfl
          obtain ⟨l1, l2⟩ := HCH.out rfl
          have HUI := Lib.hid hui
          obtain ⟨au, cu, rfl⟩ := hui.slice
          clear hui
          by_cases hlen : C.length < A.length
          · go_wp2_with fail
            refine (awake_any H w3).mono ?_
            rintro e w4 ⟨rfl, h4⟩
            have B4 := Lib.hid (below_then B3.out h4)
            clear h4
            go_wp2
            go_ret
            exact ⟨rfl, B4.out⟩
          · have hlq : C.length = A.length := by omega
            obtain ⟨z, hz⟩ : ∃ z, lexI A C = z := ⟨_, rfl⟩
            have hz0 : z ≤ 0 := by rw [← hz]; exact lex_cmp _ _ (l2 hlq)
            have CC := Lib.hid (compare_any A C z hz _ _ w3 (HI1.out.below BA.out) HUI.out (by omega) (by omega))
            have hql : ((C.length : Int) == (A.length : Int)) = true := by rw [hlq]; simp
            clear hz l1 l2 hlq
            go_wp2_with fail
            refine CC.out.mono ?_
            rintro e w4 ⟨rfl, rfl⟩
            go_wp2_with fail
            refine (awake_any H w3).mono ?_
            rintro e w4 ⟨rfl, h4⟩
            have B4 := Lib.hid (below_then B3.out h4)
            clear h4
            go_wp2
            go_ret
            exact ⟨rfl, B4.out⟩
end Go.Proofs.Yteceahbnafaeoaa
