/- The law DagPotentials. -/
import Derived.Test.YtipcelgoachjjaaDgLaw
namespace Go.Proofs.Ytipcelgoachjjaa
set_option linter.unusedSimpArgs false
set_option linter.unusedVariables false
set_option maxRecDepth 100000
open Go.RowKit Go.Deep

set_option maxHeartbeats 4000000 in
theorem dagPotentials_any (w : World) (n : Int) (v : Value) (ls : List LkV) (t : Int) (hn : (Lit.int .i64 n).wf = true) (hv : LinksAt w v ls) (hl : ls.length ≤ maxLen) (ht : (Lit.int .u8 t).wf = true) :
    Calls Try.prog 6 #[intV n, v, u8V t] w fun e w' => e = .returned (.bool true) ∧ Below w.heap.size w w' := by
  have ht := wf_u8 ht
  have HV := Lib.hid hv
  cases hok : okR n ls with
  | false =>
    have HF := Lib.hid (fine_no n ls t t ht ht v w hv hl hok)
    obtain ⟨av, cv, rfl⟩ := hv.slice
    clear hn hv hl ht hok
    go_enter Try.func6, Try.ntmps6
    go_wp2_with fail
    refine HF.out.mono ?_
    rintro e w1 ⟨rfl, b1⟩
    have B1 := Lib.hid b1
    clear b1
    go_wp2_with fail
    refine (awake_any _).mono ?_
    rintro e w2 ⟨rfl, b2⟩
    have B2 := Lib.hid (below_then B1.out b2)
    clear b2
    go_wp2
    go_ret
    exact ⟨rfl, B2.out⟩
  | true =>
    have HF := Lib.hid (fine_yes n ls t t ht ht v w hv hl hok)
    obtain ⟨hgr, hc⟩ := okR_spec hok
    have hb := node_of hc ht
    obtain ⟨av, cv, rfl⟩ := hv.slice
    obtain ⟨m, rfl, hs⟩ := small_of hgr hc
    obtain ⟨k, hk, hkm⟩ := nat_of hb
    rw [hk] at hb HF
    have HP := Lib.hid (pot_ok hc hb)
    rw [Int.toNat_natCast] at HP
    have HGR := Lib.hid hgr
    have HC := Lib.hid hc
    have HB := Lib.hid hb
    have HG := Lib.hid hs.g
    have hm8 := hs.n8
    clear hn hv hl ht hok hgr hc hs hb hk
    go_enter Try.func6, Try.ntmps6
    go_wp2_with fail
    refine HF.out.mono ?_
    rintro e w1 ⟨rfl, b1⟩
    have B1 := Lib.hid b1
    clear b1
    go_wp2_with fail
    refine (Potentials_any m ls k _ w1 (HV.out.below B1.out) HGR.out _ HP.out).mono ?_
    rintro e w2 ⟨v2, rfl, i2, b2⟩
    have B2 := Lib.hid (below_then B1.out b2)
    have I2 := Lib.hid i2
    obtain ⟨a2, c2, rfl⟩ := i2.slice
    have hlt : (tab m (least ls k)).length = m := tab_len _ _
    clear b2 i2
    rw [hlt] at *
    go_wp2_with fail
    go_loopw [46] (fun i wr => ∃ q : Nat, q ≤ m ∧ i = .int .i64 q ∧ Below w2.heap.size w2 wr) (fun i _ => m - (intOf i).toNat)
    case atStart => exact ⟨0, Nat.zero_le _, rfl, Below.refl _ _⟩
    case round =>
      obtain ⟨q, hq, rfl, hB⟩ := hrel
      obtain ⟨wq, rfl⟩ : ∃ x, x = wr := ⟨_, rfl⟩
      have HBQ := Lib.hid hB
      by_cases hqm : q < m
      · obtain ⟨b, off, rfl, hbb, q1⟩ := I2.out.elem (j := q) (by rw [tab_len]; exact hqm)
        rw [tab_get] at q1
        have c1 := (hB.cell (p := ⟨b, off + q, none⟩) hbb).trans q1
        have HS := Lib.hid (sho_ok HC.out (s := (q : Int)) ⟨by omega, by omega⟩ HB.out)
        obtain ⟨x, hx⟩ : ∃ x, least ls k q = x := ⟨_, rfl⟩
        rw [hx] at c1 HS
        have hq0 : (0 : Int) ≤ (q : Int) := by omega
        have hq1 : (q : Int) < (m : Int) := by omega
        have BQ := Lib.hid (below_then B2.out hB)
        clear q1 hB hx
        by_cases h1 : x = -1
        · subst h1
          go_wp2_with fail
          refine (Shortest_any m ls q k _ wq (HV.out.below BQ.out) HGR.out ([], 0, 6) (by first | (rw [HS.out]; rfl) | (rw [HS.out, if_pos rfl]) | simp [HS.out])).mono ?_
          rintro e w3 ⟨v3, rfl, i3, b3⟩
          have B3 := Lib.hid (below_then HBQ.out b3)
          obtain ⟨a3, c3, rfl⟩ := i3.slice
          clear b3 i3
          go_wp2
          go_roundw
          case rel => exact ⟨q + 1, by omega, by go_num, B3.out⟩
          case measure => simp [intOf]; omega
        · have hx1 : (x == -1) = false := by simpa using h1
          have HX := Lib.hid h1
          clear h1
          go_wp2_with fail
          refine (Shortest_any m ls q k _ wq (HV.out.below BQ.out) HGR.out (toI (first ls k q), x, 0) (by rw [HS.out, if_neg HX.out])).mono ?_
          rintro e w3 ⟨v3, rfl, i3, b3⟩
          have B3 := Lib.hid (below_then HBQ.out b3)
          obtain ⟨a3, c3, rfl⟩ := i3.slice
          clear b3 i3
          go_wp2
          go_roundw
          case rel => exact ⟨q + 1, by omega, by go_num, B3.out⟩
          case measure => simp [intOf]; omega
      · obtain rfl : q = m := by omega
        have BQ := Lib.hid (below_then B2.out hB)
        clear hB
        go_wp2_with fail
        refine (awake_any _).mono ?_
        rintro e w3 ⟨rfl, b3⟩
        have B3 := Lib.hid (below_then BQ.out b3)
        clear b3
        go_wp2
        go_ret
        exact ⟨rfl, B3.out⟩
end Go.Proofs.Ytipcelgoachjjaa
