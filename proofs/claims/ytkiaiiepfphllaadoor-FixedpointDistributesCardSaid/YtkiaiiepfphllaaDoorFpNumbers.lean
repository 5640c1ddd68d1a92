/- The walk of FixedpointNumbers. -/
import Derived.Test.YtkiaiiepfphllaaDoorFpAdds
namespace Go.Proofs.YtkiaiiepfphllaaDoor
set_option linter.unusedSimpArgs false
set_option linter.unusedVariables false
set_option maxRecDepth 100000
open Go.RowKit

theorem ints_of_row {w : World} {a : Option Addr} {len cap : Nat} {zs : List Int} (h : RowIn .i64 w a len cap zs) : IntsAt w (.slice a len cap) (zs.take len) ∧ (zs.take len).length = len ∧ len ≤ 9223372036854775807 := by
  rcases h with ⟨rfl, rfl, rfl, rfl⟩ | ⟨x, rfl, hlc, hcm, hzl, hcell, -⟩
  · exact ⟨IntsAt.none, rfl, by omega⟩
  · have hl : (zs.take len).length = len := by rw [List.length_take]; omega
    unfold maxLen at hcm
    refine ⟨?_, hl, by omega⟩
    rcases Nat.eq_zero_or_pos len with h0 | h0
    · subst h0; exact ⟨_, _, rfl, fun h => absurd h (by simp)⟩
    · have hc0 := hcell 0 (by omega)
      have hsp := World.cell?_spot hc0
      obtain ⟨b, off, sp⟩ := x
      have hs : sp = none := by simpa [Addr.add] using hsp
      subst hs
      refine ⟨some ⟨b, off, none⟩, cap, by rw [hl], fun _ => ⟨b, off, rfl, ?_, fun j hj => ?_⟩⟩
      · have := cell_lt hc0; rwa [add_block] at this
      · have := hcell j (by omega)
        rw [show (⟨b, off, none⟩ : Addr).add j = ⟨b, off + j, none⟩ by unfold Addr.add; split <;> simp_all] at this
        rw [this, List.getElem_take, List.getD_eq_getElem?_getD, List.getElem?_eq_getElem (by omega)]
        rfl
theorem great_at (zs : List Int) (r : Bool) (h : greatL zs.length = r) (v : Value) (w : World) (hv : IntsAt w v zs) :
    Calls Tryd.prog 17 #[v] w fun e w' => e = .returned (.bool r) ∧ w = w' := by subst h; exact refGreat_any zs v w hv
theorem distR_len (total : Int) (zs : List Int) : (distR total zs).1.length ≤ zs.length := by
  rw [distR]
  split
  · exact Nat.zero_le _
  · split
    · split
      · split
        · split
          · exact Nat.zero_le _
          · exact Nat.le_of_eq (distL_len _ _ _ _)
        · exact Nat.zero_le _
      · exact Nat.zero_le _
    · exact Nat.zero_le _
theorem refSum_at (zs : List Int) (r : Int × Int) (h : sumR zs = r) (v : Value) (w : World) (hv : IntsAt w v zs) (hl : zs.length ≤ 9223372036854775807) :
    Calls Tryd.prog 19 #[v] w fun e w' => e = .returned (pairV r) ∧ w = w' := by subst h; exact refSum_any zs v w hv hl
theorem refDist_at (total : Int) (zs : List Int) (r : List Int × Int) (h : distR total zs = r) (v : Value) (w : World) (hv : IntsAt w v zs) (hl : zs.length ≤ 9223372036854775807) :
    Calls Tryd.prog 23 #[.int .i64 total, v] w (ListPost r w) := by subst h; exact refDist_any total zs v w hv hl
theorem refScale_at (n num den : Int) (r : Int × Int) (h : scaleR n num den = r) (w : World) :
    Calls Tryd.prog 21 #[.int .i64 n, .int .i64 num, .int .i64 den] w fun e w' => e = .returned (pairV r) ∧ Below w.heap.size w w' := by
  subst h; exact (refScale_any n num den w).mono fun e w' ⟨h1, q, h2⟩ => ⟨h1, by rw [h2]; exact below_drewN w q⟩
theorem refBad_at (c t r : Int) (h : badR c t = r) (w : World) :
    Calls Tryd.prog 26 #[.int .i64 c, .int .i64 t] w fun e w' => e = .returned (.int .i64 r) ∧ Below w.heap.size w w' := by subst h; exact refBad_any c t w

set_option maxHeartbeats 4000000 in
theorem numbers_walk (X : List Int) (v : Value) (a b c : Int) (w : World) (hv : IntsAt w v X) (hl : X.length ≤ 9223372036854775807) (hT : Tab w) :
    Calls Tryd.prog 4 #[v, .int .i64 a, .int .i64 b, .int .i64 c] w fun e w' => e = .returned (.bool true) ∧ Below w.heap.size w w' := by
  have HT := Lib.hid hT
  have HV := Lib.hid hv
  obtain ⟨gr, hgr⟩ : ∃ r, greatL X.length = r := ⟨_, rfl⟩
  have G := Lib.hid (great_at X gr hgr v w hv)
  clear hgr
  cases gr with
  | true =>
    clear hv hT
    go_enter Tryd.func4, Tryd.ntmps4
    go_wp2_with fail
    refine G.out.mono ?_
    rintro e w1 ⟨rfl, rfl⟩
    go_wp2_with fail
    refine (awake_any _ HT.out).mono ?_
    rintro e w9 ⟨rfl, q9⟩
    have B9 := Lib.hid q9
    clear q9
    go_wp2
    go_ret
    exact ⟨rfl, B9.out⟩
  | false =>
    obtain ⟨⟨s1, s2⟩, hs⟩ : ∃ r, sumR X = r := ⟨_, rfl⟩
    obtain ⟨⟨u1, u2⟩, hu⟩ : ∃ r, scaleR a b c = r := ⟨_, rfl⟩
    obtain ⟨⟨D, d2⟩, hd⟩ : ∃ r, distR a X = r := ⟨_, rfl⟩
    have hDl : D.length ≤ 9223372036854775807 := by have := distR_len a X; rw [hd] at this; exact Nat.le_trans this hl
    obtain ⟨bb, hbb⟩ : ∃ r, badR a b = r := ⟨_, rfl⟩
    have C1 := Lib.hid (sum_at X (s1, s2) hs v w hv hl)
    have C2 := Lib.hid (refSum_at X (s1, s2) hs v w hv hl)
    have C3 := Lib.hid (scale_at a b c (u1, u2) hu)
    have C4 := Lib.hid (refScale_at a b c (u1, u2) hu)
    have C5 := Lib.hid (fun w (hv : IntsAt w v X) => dist_at a X (D, d2) hd v w hv hl)
    have C6 := Lib.hid (fun w (hv : IntsAt w v X) => refDist_at a X (D, d2) hd v w hv hl)
    have C7 := Lib.hid (bad_at a b bb hbb)
    have C8 := Lib.hid (refBad_at a b bb hbb)
    have HDL := Lib.hid hDl
    clear hs hu hd hbb hv hT hDl hl
    go_enter Tryd.func4, Tryd.ntmps4
    go_wp2_with fail
    refine G.out.mono ?_
    rintro e w1 ⟨rfl, rfl⟩
    go_wp2_with fail
    refine C1.out.mono ?_
    rintro e w2 ⟨rfl, rfl⟩
    go_wp2_with fail
    refine C2.out.mono ?_
    rintro e w3 ⟨rfl, rfl⟩
    go_wp2_with fail
    refine (C3.out _).mono ?_
    rintro e w4 ⟨rfl, rfl⟩
    go_wp2_with fail
    refine (C4.out _).mono ?_
    rintro e w5 ⟨rfl, q⟩
    have B5 := Lib.hid q
    clear q
    go_wp2_with fail
    refine (C5.out _ (HV.out.below B5.out)).mono ?_
    rintro e w6 ⟨v6, rfl, hv6, q⟩
    have B6 := Lib.hid (below_seq B5.out q (Nat.le_refl _))
    have V6 := Lib.hid hv6
    clear q hv6
    go_wp2_with fail
    refine (C6.out _ (HV.out.below B6.out)).mono ?_
    rintro e w7 ⟨v7, rfl, hv7, q⟩
    have B7 := Lib.hid (below_seq B6.out q (Nat.le_refl _))
    have V67 := Lib.hid (V6.out.below q)
    have V7 := Lib.hid hv7
    clear q hv7
    go_wp2_with fail
    refine (equal_at true (by simp) V67.out V7.out HDL.out HDL.out).mono ?_
    rintro e w8 ⟨rfl, q⟩
    have B8 := Lib.hid (below_seq B7.out q (Nat.le_refl _))
    clear q
    go_wp2_with fail
    refine (C7.out _).mono ?_
    rintro e w9 ⟨rfl, q⟩
    have B9 := Lib.hid (below_seq B8.out q (Nat.le_refl _))
    clear q
    go_wp2_with fail
    refine (C8.out _).mono ?_
    rintro e w10 ⟨rfl, q⟩
    have B10 := Lib.hid (below_seq B9.out q (Nat.le_refl _))
    clear q
    go_wp2_with fail
    refine (awake_any _ (HT.out.below B10.out)).mono ?_
    rintro e w11 ⟨rfl, q⟩
    have B11 := Lib.hid (below_seq B10.out q (Nat.le_refl _))
    clear q
    go_wp2
    go_ret
    exact ⟨rfl, B11.out⟩
theorem numbers_law (a : Option Addr) (len cap : Nat) (z : List Int) (a1 a2 a3 : Int) (w : World) (hr : RowIn .i64 w a len cap z) (_w1 : (Lit.int .i64 a1).wf = true) (_w2 : (Lit.int .i64 a2).wf = true) (_w3 : (Lit.int .i64 a3).wf = true) (hT : Tab w) :
    Calls Tryd.prog 4 #[.slice a len cap, .int .i64 a1, .int .i64 a2, .int .i64 a3] w fun e w' => e = .returned (.bool true) ∧ Below w.heap.size w w' := by
  obtain ⟨h1, h2, h3⟩ := ints_of_row hr
  exact numbers_walk (z.take len) _ a1 a2 a3 w h1 (by omega) hT
end Go.Proofs.YtkiaiiepfphllaaDoor
