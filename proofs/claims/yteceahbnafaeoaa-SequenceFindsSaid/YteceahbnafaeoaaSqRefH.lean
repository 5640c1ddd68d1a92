/- The reference's heaviest. -/
import Derived.Test.YteceahbnafaeoaaSqRefPerm
import Derived.Test.YteceahbnafaeoaaSqLongest
import Derived.Test.YteceahbnafaeoaaSqIts
namespace Go.Proofs.Yteceahbnafaeoaa
set_option linter.unusedSimpArgs false
set_option linter.unusedVariables false
set_option maxRecDepth 100000
open Go.RowKit Go.Deep

theorem fr_bound (l ws : List Int) (hl : l.length ≤ 12) (hlen : l.length = ws.length) (hw : ∀ x ∈ ws, 0 ≤ x ∧ x ≤ 1048576) (i : Nat) (hi : i < l.length) : fr l ws i ≤ 13 * 1048576 := by
  have h1 := best_wt ((its 0 l (toW ws)).drop (i + 1)) (some (at0 l i))
  have h2 := wt_drop (its 0 l (toW ws)) (i + 1)
  have h3 := wt_its 1048576 0 l (toW ws) (fun x hx => by
    obtain ⟨y, hy, rfl⟩ := List.mem_map.1 hx
    have := hw y hy; omega)
  have h4 := hw ws[i] (List.getElem_mem (by omega))
  have h5 : ws.getD i 0 = ws[i] := by rw [List.getD_eq_getElem?_getD, List.getElem?_eq_getElem (by omega)]; rfl
  unfold fr
  rw [h5]
  have h6 : 1048576 * l.length ≤ 1048576 * 12 := Nat.mul_le_mul_left _ hl
  omega
/-- a step of the inner loop -/
theorem best_step (x : Int) (c : It) (z : List It) (b : Nat) :
    max (if decide (x < c.v) && decide (b < c.w + best (some c.v) z) then c.w + best (some c.v) z else b) (best (some x) z) = max b (best (some x) (c :: z)) := by
  have e : best (some x) (c :: z) = if gt (some x) c.v then max (c.w + best (some c.v) z) (best (some x) z) else best (some x) z := rfl
  rw [e]
  by_cases h : x < c.v
  · rw [show gt (some x) c.v = true by simpa [gt] using h, decide_eq_true h, Bool.true_and]
    by_cases h2 : b < c.w + best (some c.v) z
    · rw [decide_eq_true h2]; simp only [if_true]; omega
    · rw [decide_eq_false h2]; simp only [if_true]
      rw [if_neg (by decide)]; omega
  · rw [show gt (some x) c.v = false by simpa [gt] using h, decide_eq_false h, Bool.false_and, if_neg (by decide), if_neg (by decide)]
set_option maxHeartbeats 8000000 in
theorem heaviest_any (l ws : List Int) (hl : l.length ≤ 12) (hlen : l.length = ws.length) (hw : ∀ x ∈ ws, 0 ≤ x ∧ x ≤ 1048576) (v u : Value) (w : World) (hv : IntsAt w v l) (hu : IntsAt w u ws) :
    Calls Try.prog 69 #[v, u] w fun e w' => ∃ R cap, e = .returned (.slice (some ⟨R, 0, none⟩) l.length cap) ∧ RowN w' R 3 l.length (fun j => intV (fr l ws j)) ∧ w.heap.size ≤ R ∧ Below w.heap.size w w' := by
  have HV := Lib.hid hv
  have HU := Lib.hid hu
  obtain ⟨a, cap, rfl⟩ := hv.slice
  obtain ⟨au, cu, rfl⟩ := hu.slice
  have HLEN := Lib.hid hlen
  have HW := Lib.hid hw
  have hmk := run_make_row' (P := Try.prog) 22 3 (intV 0) 8 rfl info_int rfl
  have hmk1 := fun W => hmk .i64 .i64 l.length (by omega) (by omega) W
  have HFB := Lib.hid (fun i hi => fr_bound l ws hl hlen hw i hi)
  clear hv hu hmk hlen hw
  go_enter Try.func69, Try.ntmps69
  go_wp2_with fail
  clear hmk1
  have hrow := RowN.of_row (World.rowIs_made w (intV 0) l.length 3)
  obtain ⟨wa, hwa⟩ : ∃ x, w.alloc (.cells (madeCells #[intV 0] l.length) 3) = x := ⟨_, rfl⟩
  have hBa : Below w.heap.size w wa := by rw [← hwa]; exact (Below.refl _ _).alloc (Nat.le_refl _) _
  rw [hwa] at hrow
  try rw [hwa]
  have HROW0 := Lib.hid hrow
  have HB0 := Lib.hid hBa
  obtain ⟨R, hR⟩ : ∃ R, w.heap.size = R := ⟨_, rfl⟩
  rw [hR] at HROW0
  try rw [hR]
  have HRW := Lib.hid hR
  clear hwa hrow hBa hR
  have hRw : w.heap.size ≤ R := Nat.le_of_eq HRW.out
  go_loopw [6] (fun i wr => ∃ n : Nat, n ≤ l.length ∧ i = .int .i64 ((n : Int) - 1) ∧ Below w.heap.size w wr ∧ RowN wr R 3 l.length (fun j => if n ≤ j then intV (fr l ws j) else intV 0)) (fun i _ => (intOf i + 1).toNat)
  case atStart => exact ⟨l.length, Nat.le_refl _, by go_num, HB0.out, HROW0.out.congr fun j hj => by rw [if_neg (by omega)]⟩
  case round =>
    obtain ⟨n, hn, rfl, hB, hrow⟩ := hrel
    obtain ⟨wk, rfl⟩ : ∃ x, x = wr := ⟨_, rfl⟩
    have HB := Lib.hid hB
    have HROW := Lib.hid hrow
    by_cases h0 : n = 0
    · subst h0
      clear hB hrow
      go_wp2
      go_ret
      exact ⟨R, l.length, rfl, HROW.out.congr fun j _ => by rw [if_pos (Nat.zero_le _)], Nat.le_of_eq HRW.out, by first | exact HB.out | (rw [← HRW.out]; exact HB.out)⟩
    · obtain ⟨m, rfl⟩ : ∃ m, n = m + 1 := ⟨n - 1, by omega⟩
      have hm1 : ((m + 1 : Nat) : Int) - 1 = (m : Int) := by omega
      rw [hm1]
      have hml : m < l.length := by omega
      obtain ⟨b, off, rfl, hbb, c0⟩ := HV.out.elem hml
      obtain ⟨b2, off2, rfl, hbb2, c2⟩ := HU.out.elem (show m < ws.length by have := HLEN.out; omega)
      have HX := Lib.hid (show at0 l m = l[m] from at0_get l m hml)
      have hwm := HW.out ws[m] (List.getElem_mem (by have := HLEN.out; omega))
      have HFR := Lib.hid (show fr l ws m = (ws[m]'(by have := HLEN.out; omega)).toNat + best (some (at0 l m)) ((its 0 l (toW ws)).drop (m + 1)) by
        unfold fr
        rw [List.getD_eq_getElem?_getD, List.getElem?_eq_getElem (by have := HLEN.out; omega)]; rfl)
      obtain ⟨x, hx⟩ : ∃ x, l[m] = x := ⟨_, rfl⟩
      obtain ⟨y, hy⟩ : ∃ y, ws[m]'(by have := HLEN.out; omega) = y := ⟨_, rfl⟩
      rw [hx] at c0 HX
      rw [hy] at c2 HFR hwm
      rw [HX.out] at HFR
      obtain ⟨T, hT⟩ : ∃ T, best (some x) ((its 0 l (toW ws)).drop (m + 1)) = T := ⟨_, rfl⟩
      rw [hT] at HFR
      have HTT := Lib.hid hT
      have HFM := Lib.hid (HFB.out m hml)
      have HC := Lib.hid (And.intro hbb c0)
      have HC2 := Lib.hid (And.intro hbb2 c2)
      have hm0 : (0 : Int) ≤ (m : Int) := by omega
      have hm2 : (m : Int) < (l.length : Int) := by omega
      have hm3 : (m : Int) < (ws.length : Int) := by have := HLEN.out; omega
      have HN1 := Lib.hid hm1
      clear hB hrow c0 c2 hbb hbb2 hx hy hT hn h0 hm1
      go_wp2
      go_loopw [7, 8] (fun bv kv wr => ∃ k bb : Nat, m + 1 ≤ k ∧ k ≤ l.length ∧ kv = .int .i64 k ∧ bv = .int .i64 bb ∧ max bb (best (some x) ((its 0 l (toW ws)).drop k)) = T ∧ bb ≤ 13631488 ∧ Below wk.heap.size wk wr) (fun _ kv _ => l.length - (intOf kv).toNat)
      case atStart => exact ⟨m + 1, 0, Nat.le_refl _, by omega, by go_num, rfl, by rw [HTT.out]; omega, by omega, Below.refl _ _⟩
      case round =>
        obtain ⟨k, bb, hmk, hk, rfl, rfl, hmx, hbb, hBi⟩ := hrel
        obtain ⟨wi, rfl⟩ : ∃ x, x = wr := ⟨_, rfl⟩
        have HBI := Lib.hid hBi
        have HMX := Lib.hid hmx
        have BQ := Lib.hid (HB.out.trans (hBi.mono HB.out.size))
        by_cases hlt : k < l.length
        · obtain ⟨b', off', e', hb', c1⟩ := HV.out.elem hlt
          cases e'
          obtain ⟨c, d1, d2, d3, d4⟩ := drop_its l ws HLEN.out k hlt
          have hst := best_step x c ((its 0 l (toW ws)).drop (k + 1)) bb
          rw [← d1, hmx, d4, d3, at0_get l k hlt] at hst
          have hro := (HROW.out.below hBi).cell hlt
          rw [if_pos (by omega)] at hro
          have h1 := (BQ.out.cell (p := ⟨b, off + m, none⟩) HC.out.1).trans HC.out.2
          have h2 := (BQ.out.cell (p := ⟨b, off + k, none⟩) hb').trans c1
          have hfb := HFB.out k hlt
          obtain ⟨z, hz⟩ : ∃ z, l[k] = z := ⟨_, rfl⟩
          obtain ⟨q, hq⟩ : ∃ q, fr l ws k = q := ⟨_, rfl⟩
          rw [hz] at h2 hst
          rw [hq] at hro hst hfb
          have HST := Lib.hid hst
          have k0 : (0 : Int) ≤ (k : Int) := by omega
          have k1 : (k : Int) < (l.length : Int) := by omega
          clear hBi hmx c1 d1 d2 d3 d4 hst hz hq hb'
          by_cases hxz : x < z
          · have t1 : decide (x < z) = true := decide_eq_true hxz
            by_cases hbq : bb < q
            · have t2 : decide (bb < q) = true := decide_eq_true hbq
              have HSS := Lib.hid (show max q (best (some x) ((its 0 l (toW ws)).drop (k + 1))) = T by have := HST.out; rw [decide_eq_true hxz, decide_eq_true hbq] at this; simpa using this)
              go_wp2_with fail
              go_quiet (fail)
              have hro2 : (wi.drewN nq).cell? ⟨R, k, none⟩ = some (intV q) := hro
              go_wp2
              go_roundw
              case rel => exact ⟨k + 1, q, by omega, by omega, by go_num, rfl, HSS.out, by omega, HBI.out.trans (below_drewN_n _ _ _)⟩
              case measure => simp [intOf]; omega
            · have t2 : decide (bb < q) = false := decide_eq_false hbq
              have HSS := Lib.hid (show max bb (best (some x) ((its 0 l (toW ws)).drop (k + 1))) = T by have := HST.out; rw [decide_eq_true hxz, decide_eq_false hbq] at this; simpa using this)
              go_wp2_with fail
              go_quiet (fail)
              clear hro h1 h2
              go_wp2
              go_roundw
              case rel => exact ⟨k + 1, bb, by omega, by omega, by go_num, rfl, HSS.out, by omega, HBI.out.trans (below_drewN_n _ _ _)⟩
              case measure => simp [intOf]; omega
          · have t1 : decide (x < z) = false := decide_eq_false hxz
            have HSS := Lib.hid (show max bb (best (some x) ((its 0 l (toW ws)).drop (k + 1))) = T by have := HST.out; rw [decide_eq_false hxz] at this; simpa using this)
            go_wp2_with fail
            go_quiet (fail)
            clear hro h1 h2
            go_wp2
            go_roundw
            case rel => exact ⟨k + 1, bb, by omega, by omega, by go_num, rfl, HSS.out, by omega, HBI.out.trans (below_drewN_n _ _ _)⟩
            case measure => simp [intOf]; omega
        · obtain rfl : k = l.length := by omega
          have hdl : (its 0 l (toW ws)).drop l.length = [] := List.drop_eq_nil_of_le (by rw [its_len 0 l (toW ws) (by rw [toWlen]; exact HLEN.out)]; exact Nat.le_refl _)
          have HBT := Lib.hid (show bb = T by have := HMX.out; rw [hdl] at this; simpa [best] using this)
          have c2 := (BQ.out.cell (p := ⟨b2, off2 + m, none⟩) HC2.out.1).trans HC2.out.2
          have hrow := HROW.out.below hBi
          have hc := hrow.cell hml
          have hf := hrow.frozen m
          obtain ⟨y', rfl⟩ : ∃ y' : Nat, y = y' := ⟨y.toNat, by omega⟩
          have hyb : y' ≤ 1048576 := by omega
          have HSET := Lib.hid (hrow.set m (intV ((y' : Int) + (bb : Int))))
          have HBS := Lib.hid (BQ.out.setCell (p := ⟨R, m, none⟩) hRw (intV ((y' : Int) + (bb : Int))))
          have hsum : IntKind.i64.wrap ((y' : Int) + (bb : Int)) = ((y' + bb : Nat) : Int) := by rw [show (y' : Int) + (bb : Int) = ((y' + bb : Nat) : Int) by omega]; exact IntWalk.i64_in _ (by omega)
          clear hBi hmx hdl hrow hwm
          go_wp2
          go_roundw
          case rel =>
            refine ⟨m, by omega, rfl, HBS.out, HSET.out.congr fun j hj => ?_⟩
            by_cases e : j = m
            · subst e
              rw [if_pos rfl, if_pos (Nat.le_refl _), HFR.out, ← HBT.out]
              simp
            · rw [if_neg e]
              by_cases h : m + 1 ≤ j
              · rw [if_pos h, if_pos (by omega)]
              · rw [if_neg h, if_neg (by omega)]
          case measure => simp [intOf]
end Go.Proofs.Yteceahbnafaeoaa
