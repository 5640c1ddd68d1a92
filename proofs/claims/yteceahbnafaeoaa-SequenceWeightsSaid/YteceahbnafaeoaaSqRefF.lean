/- The reference's first. -/
import Derived.Test.YteceahbnafaeoaaSqRefH
namespace Go.Proofs.Yteceahbnafaeoaa
set_option linter.unusedSimpArgs false
set_option linter.unusedVariables false
set_option maxRecDepth 100000
open Go.RowKit Go.Deep

/-- the value of the last index -/
def lastV (l o : List Int) : Option Int := if o.length = 0 then none else some (at0 l (ix o (o.length - 1)))
theorem lastV_snoc (l o : List Int) (i : Int) : lastV l (o ++ [i]) = some (at0 l i) := by
  unfold lastV
  rw [if_neg (by simp), show (o ++ [i]).length - 1 = o.length by simp, ix_get _ _ (by simp)]
  simp
theorem item_w (l ws : List Int) (h : l.length = ws.length) (k : Nat) (hk : k < ws.length) (c : It) (r : List It) (e : (its 0 l (toW ws)).drop k = c :: r) : c.w = ws[k].toNat := by
  have hw : l.length = (toW ws).length := by rw [toWlen]; exact h
  have hlen := its_len 0 l (toW ws) hw
  have hk2 : k < (its 0 l (toW ws)).length := by omega
  rw [List.drop_eq_getElem_cons hk2] at e
  obtain ⟨e1, _⟩ := List.cons.inj e
  rw [← e1, (its_get 0 l (toW ws) k hk2 hw).2.2, List.getD_eq_getElem?_getD]
  simp [toW, hk]
theorem pk_step (b : Option Int) (left : Nat) (c : It) (z : List It) (h0 : left ≠ 0) : pk b left (c :: z) = if gt b c.v = true ∧ c.w + best (some c.v) z = left then c :: pk (some c.v) (left - c.w) z else pk b left z := by
  rw [pk, if_neg h0]
set_option maxHeartbeats 8000000 in
theorem first_any (l ws : List Int) (hl : l.length ≤ 12) (hlen : l.length = ws.length) (hw : ∀ x ∈ ws, 0 ≤ x ∧ x ≤ 1048576) (v u : Value) (w : World) (hv : IntsAt w v l) (hu : IntsAt w u ws) :
    Calls Try.prog 49 #[v, u] w fun e w' => ∃ x, e = .returned (.tuple #[x, intV (mostR l (toW ws))]) ∧ IntsAt w' x (firstR l (toW ws)) ∧ Below w.heap.size w w' := by
  have HV := Lib.hid hv
  have HU := Lib.hid hu
  have HH := Lib.hid (heaviest_any l ws hl hlen hw v u w hv hu)
  obtain ⟨i0, hi, hz0, hz1, hz2⟩ := info_parts info_int
  obtain ⟨a, cap, rfl⟩ := hv.slice
  obtain ⟨au, cu, rfl⟩ := hu.slice
  have HLEN := Lib.hid hlen
  have HW := Lib.hid hw
  have HFB := Lib.hid (fun i hi => fr_bound l ws hl hlen hw i hi)
  obtain ⟨Z, hZ⟩ : ∃ Z, its 0 l (toW ws) = Z := ⟨_, rfl⟩
  have hZl : Z.length = l.length := by rw [← hZ]; exact its_len 0 l (toW ws) (by rw [toWlen]; exact hlen)
  have HDI := Lib.hid (fun k hk => drop_its l ws hlen k hk)
  have HIW := Lib.hid (fun k hk c r e => item_w l ws hlen k hk c r e)
  rw [hZ] at HDI HIW
  have HM := Lib.hid (show mostR l (toW ws) = best none Z by unfold mostR; rw [hZ])
  have HF := Lib.hid (show firstR l (toW ws) = idx (pk none (best none Z) Z) by unfold firstR firstZ; rw [hZ])
  have hMb : best none Z ≤ 13631488 := by
    have h1 := best_wt Z none
    have h3 := wt_its 1048576 0 l (toW ws) (fun x hx => by
      obtain ⟨y, hy, rfl⟩ := List.mem_map.1 hx
      have := hw y hy; omega)
    rw [hZ] at h3
    have h6 : 1048576 * l.length ≤ 1048576 * 12 := Nat.mul_le_mul_left _ hl
    omega
  obtain ⟨M, hMM⟩ : ∃ M, best none Z = M := ⟨_, rfl⟩
  rw [hMM] at HM HF hMb
  have HMM := Lib.hid hMM
  have HZL := Lib.hid hZl
  clear hv hu hlen hw hZ hZl hMM
  go_enter Try.func49, Try.ntmps49
  go_wp2_with fail
  refine HH.out.mono ?_
  rintro e w1 ⟨R, cr, rfl, hrow, hR, h1⟩
  have HROW := Lib.hid hrow
  have B1 := Lib.hid h1
  have HRL := Lib.hid (And.intro hR hrow.lt)
  clear hrow hR h1 HH
  go_wp2
  go_loopw [7, 8] (fun mv iv wr => ∃ i mo : Nat, i ≤ l.length ∧ iv = .int .i64 i ∧ mv = .int .i64 mo ∧ max mo (best none (Z.drop i)) = M ∧ wr = w1) (fun _ iv _ => l.length - (intOf iv).toNat)
  case atStart => exact ⟨0, 0, Nat.zero_le _, rfl, rfl, by rw [List.drop_zero, HMM.out]; omega, rfl⟩
  case round =>
    obtain ⟨i, mo, hil, rfl, rfl, hmx, rfl⟩ := hrel
    have HMX := Lib.hid hmx
    by_cases hlt : i < l.length
    · obtain ⟨c, d1, d2, d3, d4⟩ := HDI.out i hlt
      have e1 : best none (Z.drop i) = max (fr l ws i) (best none (Z.drop (i + 1))) := by
        rw [d1, ← d4]; rfl
      rw [e1] at hmx
      have hc := HROW.out.cell hlt
      have hfb := HFB.out i hlt
      obtain ⟨q, hq⟩ : ∃ q, fr l ws i = q := ⟨_, rfl⟩
      rw [hq] at hmx hc hfb
      have HMX2 := Lib.hid hmx
      have k0 : (0 : Int) ≤ (i : Int) := by omega
      have k1 : (i : Int) < (l.length : Int) := by omega
      clear d1 d2 d3 d4 e1 hq hmx
      by_cases hmq : mo < q
      · have t2 : decide (mo < q) = true := decide_eq_true hmq
        go_wp2
        go_roundw
        case rel => exact ⟨i + 1, q, by omega, by go_num, rfl, by have := HMX2.out; omega, trivial⟩
        case measure => simp [intOf]; omega
      · have t2 : decide (mo < q) = false := decide_eq_false hmq
        go_wp2
        go_roundw
        case rel => exact ⟨i + 1, mo, by omega, by go_num, rfl, by have := HMX2.out; omega, trivial⟩
        case measure => simp [intOf]; omega
    · obtain rfl : i = l.length := by omega
      have hdl : Z.drop l.length = [] := List.drop_eq_nil_of_le (by rw [HZL.out]; exact Nat.le_refl _)
      rw [hdl] at hmx
      obtain rfl : mo = M := by simpa [best] using hmx
      clear hdl hmx
      have hM0 : mo ≤ 13631488 := hMb
      obtain ⟨wA, rfl⟩ : ∃ x, x = wr := ⟨_, rfl⟩
      go_wp2
      obtain ⟨w2, hw2⟩ : ∃ x, wA.alloc (.cells #[] 3) = x := ⟨_, rfl⟩
      try rw [hw2]
      have HOW := Lib.hid (show w2.ownsRow wA.heap.size 3 1 (.slice (some ⟨wA.heap.size, 0, none⟩) 0 0) 0 [] by rw [← hw2]; exact World.ownsRow_lit (base := wA.heap.size) (e := 3) (size := 1) wA #[] 0 (Nat.le_refl _) (Nat.zero_le _) rfl)
      have HB2 := Lib.hid (show Below wA.heap.size wA w2 by rw [← hw2]; exact alloc_below wA _)
      obtain ⟨N1, hN1⟩ : ∃ N, wA.heap.size = N := ⟨_, rfl⟩
      rw [hN1] at HOW HB2 HRL ⊢
      have HN1 := Lib.hid hN1
      clear hw2 hN1
      go_loopw [9, 10, 11] (fun ov lv iv wq => ∃ (i left : Nat) (o : List Int), i ≤ l.length ∧ iv = .int .i64 i ∧ lv = .int .i64 left ∧ left ≤ mo ∧ wq.ownsRow N1 3 1 ov o.length (o.map intV) ∧ o ++ idx (pk (lastV l o) left (Z.drop i)) = idx (pk none mo Z) ∧ (∀ x ∈ o, inB l x = true) ∧ o.length ≤ i ∧ Below N1 wA wq) (fun _ _ iv _ => l.length - (intOf iv).toNat)
      case atStart => exact ⟨0, mo, [], Nat.zero_le _, rfl, rfl, Nat.le_refl _, HOW.out, rfl, by simp, Nat.le_refl _, HB2.out⟩
      case round =>
        obtain ⟨i, left, o, hil, rfl, rfl, hlm, hown, ho, hin, hoi, hB⟩ := hrel
        obtain ⟨wq, rfl⟩ : ∃ x, x = wr := ⟨_, rfl⟩
        have HB := Lib.hid hB
        have HO := Lib.hid hown
        have HIN := Lib.hid hin
        by_cases hlt : i < l.length
        · by_cases h0 : left = 0
          · have HOF := Lib.hid (show o = idx (pk none mo Z) by rw [← ho, h0, pk_nil]; simp [idx])
            have hg : ¬ 0 < left := by omega
            clear hB hown ho hin h0
            go_wp2
            go_ret2
            exact ⟨_, by rw [HM.out]; rfl, by rw [HF.out, ← HOF.out]; exact IntsAt.of_own HO.out, B1.out.trans (HB.out.mono (by rw [← HN1.out]; exact B1.out.size))⟩
          · have hg : 0 < left := by omega
            obtain ⟨c, d1, d2, d3, d4⟩ := HDI.out i hlt
            have HPK := Lib.hid (show pk (lastV l o) left (Z.drop i) = if gt (lastV l o) c.v = true ∧ c.w + best (some c.v) (Z.drop (i + 1)) = left then c :: pk (some c.v) (left - c.w) (Z.drop (i + 1)) else pk (lastV l o) left (Z.drop (i + 1)) by rw [d1, pk_step _ _ _ _ h0])
            obtain ⟨b, off, rfl, hbb, c0⟩ := HV.out.elem hlt
            obtain ⟨b2, off2, rfl, hbb2, c2⟩ := HU.out.elem (show i < ws.length by have := HLEN.out; omega)
            have hwi := HW.out ws[i] (List.getElem_mem (by have := HLEN.out; omega))
            have hcw := HIW.out i (by have := HLEN.out; omega) c _ d1
            obtain ⟨wi, hwi2⟩ : ∃ wi : Nat, ws[i]'(by have := HLEN.out; omega) = wi := ⟨(ws[i]'(by have := HLEN.out; omega)).toNat, by omega⟩
            rw [hwi2] at c2 hwi hcw
            rw [Int.toNat_natCast] at hcw
            have HCW := Lib.hid hcw
            have HCV := Lib.hid d3
            have HCI := Lib.hid d2
            have HC2 := Lib.hid (And.intro hbb2 c2)
            have HINI := Lib.hid (show inB l i = true by unfold inB; rw [decide_eq_true (by omega), decide_eq_true (by omega)]; rfl)
            have BQ := Lib.hid (B1.out.trans (hB.mono (by rw [← HN1.out]; exact B1.out.size)))
            have h1 := (BQ.out.cell (p := ⟨b, off + i, none⟩) hbb).trans c0
            have hr1 := (HROW.out.below (show Below wA.heap.size wA wq by rw [HN1.out]; exact hB)).cell hlt
            have HFQ := Lib.hid (d4.symm)
            obtain ⟨q, hq⟩ : ∃ q, fr l ws i = q := ⟨_, rfl⟩
            have hqb := HFB.out i hlt
            rw [hq] at hr1 HFQ hqb
            have hcvx := d3
            rw [at0_get l i hlt] at hcvx
            obtain ⟨x, hx⟩ : ∃ x, l[i] = x := ⟨_, rfl⟩
            rw [hx] at h1 hcvx
            have k0 : (0 : Int) ≤ (i : Int) := by omega
            have k1 : (i : Int) < (l.length : Int) := by omega
            have k2 : (i : Int) < (ws.length : Int) := by have := HLEN.out; omega
            have hwq : wi ≤ q := by have := HFQ.out; omega
            have hws := IntsAt.of_own hown
            have HO1 := Lib.hid (fun n => own_keep HO.out (below_drewN wq n))
            have HB1 := Lib.hid (fun n => HB.out.trans (below_drewN_n N1 wq n))
            have hol : o.length ≤ 12 := by omega
            have HC0 := Lib.hid hbb
            clear hB hown d1 d2 d3 d4 c0 c2 hbb hbb2 hwi2 hcw hq hx h0 hwi
            by_cases ho0 : o.length = 0
            · obtain rfl : o = [] := List.length_eq_zero_iff.1 ho0
              obtain ⟨so, sc, rfl⟩ := hws.slice
              have HGT := Lib.hid (show gt (lastV l []) c.v = true from rfl)
              simp only [List.length_nil] at HO HO1
              rw [List.length_nil]
              clear hws hcvx ho0
              by_cases hql : q = left
              · have HQ := Lib.hid (show c.w + best (some c.v) (Z.drop (i + 1)) = left by rw [← HFQ.out]; exact hql)
                have hwl : IntKind.i64.wrap ((left : Int) - (wi : Int)) = ((left - wi : Nat) : Int) := by rw [show (left : Int) - (wi : Int) = ((left - wi : Nat) : Int) by omega]; exact IntWalk.i64_in _ (by omega)
                subst hql
                rw [HPK.out, if_pos ⟨HGT.out, HQ.out⟩] at ho
                have HO3 := Lib.hid ho
                clear ho
                go_wp2_with fail
                go_quiet (fail)
                clear h1 hr1
                go_wp2_with (at_builtin; refine wpList_append_own _ rfl _ _ 22 rfl N1 3 i0 (.int .i64 0) 1 8 Try.underlying22 hi hz0 hz1 hz2 rfl (by decide) _ _ _ rfl ((HO1.out _).alloc _) ⟨wq.heap.size, 0, none⟩ 1 1 [.int .i64 _] rfl rfl (int_news _ _ _ _ rfl) (by simp [Value.oneCell']) (by unfold maxLen; omega) (by omega) (by have := HB.out.size; have := HN1.out; simp; omega) ?_; intro v' w5 hown' hgrow hnn; clear hnn; have HO2 := Lib.hid hown'; have HB2 := Lib.hid (own_below (HB1.out _) (by have := HB.out.size; have := HN1.out; show N1 ≤ wq.heap.size; omega) (HO1.out _) hgrow); have hcw := ((B1.out.trans (HB2.out.mono (by rw [← HN1.out]; exact B1.out.size))).cell (p := ⟨b2, off2 + i, none⟩) HC2.out.1).trans HC2.out.2; clear hown' hgrow)
                (try clear hcw)
                go_roundw
                case rel => exact ⟨i + 1, q - wi, [] ++ [(i : Int)], by omega, by go_num, rfl, by omega, by simpa using HO2.out, by have h9 := HO3.out; rw [HCV.out, HCW.out] at h9; rw [lastV_snoc]; simpa [idx, HCI.out] using h9, fun x hx => by
                  rcases List.mem_append.1 hx with hx | hx
                  · exact HIN.out x hx
                  · simp at hx; rw [hx]; exact HINI.out, by simp <;> omega, HB2.out⟩
                case measure => simp [intOf]; omega
              · have t1 : ((q : Int) == (left : Int)) = false := by rw [beq_eq_false_iff_ne]; omega
                rw [HPK.out, if_neg (fun h => hql (HFQ.out.trans h.2))] at ho
                have HO3 := Lib.hid ho
                clear ho
                go_wp2_with fail
                go_quiet (fail)
                clear h1 hr1
                go_wp2
                go_roundw
                case rel => exact ⟨i + 1, left, [], by omega, by go_num, rfl, by omega, HO1.out _, HO3.out, HIN.out, by omega, HB1.out _⟩
                case measure => simp [intOf]; omega
            · obtain ⟨n, hn⟩ : ∃ n, o.length = n + 1 := ⟨o.length - 1, by omega⟩
              have hp : n < o.length := by omega
              obtain ⟨p, hpp, hpl⟩ := inB_nat (hin _ (List.getElem_mem hp))
              obtain ⟨so, sc, rfl⟩ := hws.slice
              obtain ⟨g, go, rfl, hgb, hgc⟩ := hws.elem hp
              rw [hpp] at hgc
              obtain ⟨b', off', e', hb', c1⟩ := HV.out.elem hpl
              cases e'
              have h2 := (BQ.out.cell (p := ⟨b, off + p, none⟩) HC0.out).trans c1
              have hlv : lastV l o = some (at0 l p) := by
                unfold lastV
                rw [if_neg ho0, hn, Nat.add_sub_cancel, ix_get _ _ hp, hpp]
              rw [at0_get l p hpl] at hlv
              obtain ⟨y, hy⟩ : ∃ y, l[p] = y := ⟨_, rfl⟩
              rw [hy] at h2 hlv
              have hge : gt (lastV l o) c.v = decide (y < x) := by rw [hlv, hcvx]; rfl
              have HGE := Lib.hid hge
              obtain ⟨ol, hol9⟩ : ∃ ol, o.length = ol := ⟨_, rfl⟩
              have hz0 : ((ol : Int) == 0) = false := by rw [beq_eq_false_iff_ne]; omega
              have hwr : IntKind.i64.wrap ((ol : Int) - 1) = (n : Int) := by rw [show ((ol : Int) - 1) = n by omega]; exact IntWalk.i64_in _ (by omega)
              have b1 : (0 : Int) ≤ (n : Int) := by omega
              have b2' : (n : Int) < (ol : Int) := by omega
              have b3 : (0 : Int) ≤ (p : Int) := by omega
              have b4 : (p : Int) < (l.length : Int) := by omega
              have HON := Lib.hid hol9
              have HOI := Lib.hid hoi
              rw [hol9] at HO1 HO hol
              rw [hol9]
              clear hws hcvx ho0 hp hpp hpl hgb hb' c1 hlv hy hge hn hin hoi hol9
              by_cases hyx : y < x
              · have t0 : decide (y < x) = true := decide_eq_true hyx
                have HGT := Lib.hid (HGE.out.trans t0)
                by_cases hql : q = left
                · have HQ := Lib.hid (show c.w + best (some c.v) (Z.drop (i + 1)) = left by rw [← HFQ.out]; exact hql)
                  have hwl : IntKind.i64.wrap ((left : Int) - (wi : Int)) = ((left - wi : Nat) : Int) := by rw [show (left : Int) - (wi : Int) = ((left - wi : Nat) : Int) by omega]; exact IntWalk.i64_in _ (by omega)
                  subst hql
                  rw [HPK.out, if_pos ⟨HGT.out, HQ.out⟩] at ho
                  have HO3 := Lib.hid ho
                  clear ho
                  go_wp2_with fail
                  go_quiet (fail)
                  clear h1 hr1 h2 hgc hwr b1 b2' b3 b4 hz0 t0
                  go_wp2_with (at_builtin; refine wpList_append_own _ rfl _ _ 22 rfl N1 3 i0 (.int .i64 0) 1 8 Try.underlying22 hi hz0 hz1 hz2 rfl (by decide) _ _ _ rfl ((HO1.out _).alloc _) ⟨wq.heap.size, 0, none⟩ 1 1 [.int .i64 _] rfl rfl (int_news _ _ _ _ rfl) (by simp [Value.oneCell']) (by unfold maxLen; omega) (by omega) (by have := HB.out.size; have := HN1.out; simp; omega) ?_; intro v' w5 hown' hgrow hnn; clear hnn; have HO2 := Lib.hid hown'; have HB2 := Lib.hid (own_below (HB1.out _) (by have := HB.out.size; have := HN1.out; show N1 ≤ wq.heap.size; omega) (HO1.out _) hgrow); have hcw := ((B1.out.trans (HB2.out.mono (by rw [← HN1.out]; exact B1.out.size))).cell (p := ⟨b2, off2 + i, none⟩) HC2.out.1).trans HC2.out.2; clear hown' hgrow)
                  (try clear hcw)
                  go_roundw
                  case rel => exact ⟨i + 1, q - wi, o ++ [(i : Int)], by omega, by go_num, rfl, by omega, by have h9 := HO2.out; have h8 := HON.out; simpa [h8] using h9, by have h9 := HO3.out; rw [HCV.out, HCW.out] at h9; rw [lastV_snoc]; simpa [idx, HCI.out] using h9, fun x hx => by
                    rcases List.mem_append.1 hx with hx | hx
                    · exact HIN.out x hx
                    · simp at hx; rw [hx]; exact HINI.out, by have := HOI.out; simp <;> omega, HB2.out⟩
                  case measure => simp [intOf]; omega
                · have t1 : ((q : Int) == (left : Int)) = false := by rw [beq_eq_false_iff_ne]; omega
                  rw [HPK.out, if_neg (fun h => hql (HFQ.out.trans h.2))] at ho
                  have HO3 := Lib.hid ho
                  clear ho
                  go_wp2_with fail
                  go_quiet (fail)
                  clear h1 hr1 h2 hgc hwr b1 b2' b3 b4 hz0 t0 t1
                  go_wp2
                  go_roundw
                  case rel => exact ⟨i + 1, left, o, by omega, by go_num, rfl, by omega, by rw [HON.out]; exact HO1.out _, HO3.out, HIN.out, by have := HOI.out; omega, HB1.out _⟩
                  case measure => simp [intOf]; omega
              · have t0 : decide (y < x) = false := decide_eq_false hyx
                rw [HPK.out, if_neg (fun h => by rw [HGE.out, decide_eq_false hyx] at h; exact absurd h.1 (by decide))] at ho
                have HO3 := Lib.hid ho
                clear ho
                go_wp2_with fail
                go_quiet (fail)
                clear h1 hr1 h2 hgc hwr b1 b2' b3 b4 hz0 t0
                go_wp2
                go_roundw
                case rel => exact ⟨i + 1, left, o, by omega, by go_num, rfl, by omega, by rw [HON.out]; exact HO1.out _, HO3.out, HIN.out, by have := HOI.out; omega, HB1.out _⟩
                case measure => simp [intOf]; omega
        · obtain rfl : i = l.length := by omega
          have hdl : Z.drop l.length = [] := List.drop_eq_nil_of_le (by rw [HZL.out]; exact Nat.le_refl _)
          have HOF := Lib.hid (show o = idx (pk none mo Z) by rw [← ho, hdl]; simp [idx, pk])
          clear hB hown ho hin hdl
          go_wp2
          go_ret2
          exact ⟨_, by rw [HM.out]; rfl, by rw [HF.out, ← HOF.out]; exact IntsAt.of_own HO.out, B1.out.trans (HB.out.mono (by rw [← HN1.out]; exact B1.out.size))⟩
end Go.Proofs.Yteceahbnafaeoaa
