/- Stage 10 (transcript): TrSame, put together by merge10.py. -/
import Derived.Test.YtmfcepfagbkceaaGreatDoorOh
import Derived.Deep.RegionHeld3
import Derived.Deep.QuietTactic
import Derived.BigQuiet
namespace Go.Proofs.YtmfcepfagbkceaaGreatDoor
set_option linter.unusedSimpArgs false
set_option linter.unusedVariables false
set_option maxRecDepth 100000
open Go.RowKit Go.Deep
theorem below_drew1S {N : Nat} (w : World) : Below N w w.drew := ⟨rfl, rfl, rfl, Nat.le_refl _, fun _ _ => rfl⟩
theorem baL_tl (s : Bs) : (baL s).toList = s := by rw [ByteArray.toList_eq]; rfl
theorem nd_eq {x y : Nd} : x = y ↔ x.kd = y.kd ∧ x.tx = y.tx ∧ x.nm = y.nm ∧ x.ps = y.ps := by
  obtain ⟨k, t, n, p⟩ := x
  obtain ⟨k2, t2, n2, p2⟩ := y
  constructor
  · intro h; cases h; exact ⟨rfl, rfl, rfl, rfl⟩
  · rintro ⟨h1, h2, h3, h4⟩
    have h1 : k = k2 := h1
    have h2 : t = t2 := h2
    have h3 : n = n2 := h3
    have h4 : p = p2 := h4
    rw [h1, h2, h3, h4]
set_option maxHeartbeats 4000000 in
theorem same_any : ∀ (N : Nat) (l : List Nd), tots l ≤ N → tots l ≤ 100000 → ∀ (m : List Nd) (r : Bool), (r = true ↔ l = m) → ∀ (v u : Value) (P Q : Nat → Prop) (w : World), VsAt w P v l → VsAt w Q u m →
    Calls Tryz.prog 14 #[v, u] w fun e w' => e = .returned (.bool r) ∧ Below w.heap.size w w' := by
  intro N
  induction N using Nat.strongRecOn with
  | _ N ih =>
    intro l hN hM m r hr v u P Q w hv hu
    have HV := Lib.hid hv
    have HU := Lib.hid hu
    obtain ⟨a, c, rfl, _⟩ := hv
    obtain ⟨a2, c2, rfl, _⟩ := hu
    have IH := Lib.hid ih
    have HR := Lib.hid hr
    have hll := len_tots l
    clear ih hr
    by_cases hlen : l.length = m.length
    · have q0 : ((l.length : Int) != (m.length : Int)) = false := by rw [hlen]; simp
      have q0' : ((l.length : Int) == (m.length : Int)) = true := by rw [hlen]; simp
      have HLEN := Lib.hid hlen
      clear hlen
      go_enter Tryz.func14, Tryz.ntmps14
      go_wp2
      go_loopw [5] (fun iv wr => ∃ j : Nat, j ≤ l.length ∧ iv = .int .i64 j ∧ Hid (l.take j = m.take j) ∧ Below w.heap.size w wr) (fun iv _ => l.length - (intOf iv).toNat)
      case atStart => exact ⟨0, Nat.zero_le _, rfl, Lib.hid (by simp), Below.refl _ _⟩
      case round =>
        obtain ⟨j, hj, rfl, HT, hB⟩ := hrel
        obtain ⟨wk, rfl⟩ : ∃ x, x = wr := ⟨_, rfl⟩
        have HB := Lib.hid hB
        by_cases hlt : j < l.length
        · have hlt2 : j < m.length := by have := HLEN.out; omega
          obtain ⟨b, off, sa, sc, rfl, _, hbb, c1, c2, c3, c4, hx⟩ := HV.out.elem' hlt
          obtain ⟨b2, off2, sa2, sc2, rfl, _, hbb2, e1, e2, e3, e4, hy⟩ := HU.out.elem' hlt2
          have d1 := (hB.cell (p := ⟨b, off + j * 4, none⟩) hbb).trans c1
          have d2 := (hB.cell (p := ⟨b, off + j * 4 + 1, none⟩) hbb).trans c2
          have d3 := (hB.cell (p := ⟨b, off + j * 4 + 2, none⟩) hbb).trans c3
          have d4 := (hB.cell (p := ⟨b, off + j * 4 + 3, none⟩) hbb).trans c4
          have f1 := (hB.cell (p := ⟨b2, off2 + j * 4, none⟩) hbb2).trans e1
          have f2 := (hB.cell (p := ⟨b2, off2 + j * 4 + 1, none⟩) hbb2).trans e2
          have f3 := (hB.cell (p := ⟨b2, off2 + j * 4 + 2, none⟩) hbb2).trans e3
          have f4 := (hB.cell (p := ⟨b2, off2 + j * 4 + 3, none⟩) hbb2).trans e4
          have hvx := parts_at hx hB
          have hvy := parts_at hy hB
          have hmt := (tots_mem hlt).1
          have hxt := tot_ps l[j]
          have hno : l[j] ≠ m[j] → r = false := fun h => by
            cases hr : r
            · rfl
            · have e := HR.out.1 hr
              exact absurd (by simp only [e]) h
          have i0 : (0 : Int) ≤ (j : Int) := by omega
          have i1 : (j : Int) < (l.length : Int) := by omega
          have i2 : (j : Int) < (m.length : Int) := by omega
          have hstep : l[j] = m[j] → l.take (j + 1) = m.take (j + 1) := fun h => by
            rw [List.take_succ_eq_append_getElem hlt, List.take_succ_eq_append_getElem hlt2, HT.out, h]
          obtain ⟨x, hxj⟩ : ∃ x, l[j] = x := ⟨_, rfl⟩
          obtain ⟨y, hyj⟩ : ∃ y, m[j] = y := ⟨_, rfl⟩
          rw [hxj] at d1 d2 d3 d4 hvx hmt hxt hno hstep
          rw [hyj] at f1 f2 f3 f4 hvy hno hstep
          obtain ⟨xk, hxk⟩ : ∃ z, x.kd = z := ⟨_, rfl⟩
          obtain ⟨yk, hyk⟩ : ∃ z, y.kd = z := ⟨_, rfl⟩
          obtain ⟨xt, hxtt⟩ : ∃ z, x.tx = z := ⟨_, rfl⟩
          obtain ⟨yt, hytt⟩ : ∃ z, y.tx = z := ⟨_, rfl⟩
          obtain ⟨xn, hxn⟩ : ∃ z, x.nm = z := ⟨_, rfl⟩
          obtain ⟨yn, hyn⟩ : ∃ z, y.nm = z := ⟨_, rfl⟩
          rw [hxk] at d1
          rw [hyk] at f1
          rw [hxtt] at d2
          rw [hytt] at f2
          rw [hxn] at d3
          rw [hyn] at f3
          have t1 := baL_tl xt
          have t2 := baL_tl yt
          rw [nd_eq, hxk, hyk, hxtt, hytt, hxn, hyn] at hstep
          replace hno : ¬ (x.kd = y.kd ∧ x.tx = y.tx ∧ x.nm = y.nm ∧ x.ps = y.ps) → r = false := fun h => hno (fun e => h (nd_eq.1 e))
          rw [hxk, hyk, hxtt, hytt, hxn, hyn] at hno
          by_cases h1 : xk = yk
          · have q1 : (xk == yk) = true := by simp [h1]
            have q1' : (xk != yk) = false := by simp [h1]
            by_cases h2 : xt = yt
            · have q2 : (xt == yt) = true := by simp [h2]
              by_cases h3 : xn = yn
              · have q3 : (xn == yn) = true := by simp [h3]
                have q3' : (xn != yn) = false := by simp [h3]
                obtain ⟨s, hs⟩ : ∃ s : Bool, (s = true ↔ x.ps = y.ps) := by
                  by_cases e : x.ps = y.ps
                  · exact ⟨true, by simp [e]⟩
                  · exact ⟨false, by simp [e]⟩
                have hbk : b < wk.heap.size := Nat.lt_of_lt_of_le hbb hB.size
                have hbk2 : b2 < wk.heap.size := Nat.lt_of_lt_of_le hbb2 hB.size
                have HD := Lib.hid (show wk.drew.cell? ⟨b, off + j * 4, none⟩ = some (intV xk) ∧ wk.drew.cell? ⟨b, off + j * 4 + 1, none⟩ = some (sV xt) ∧ wk.drew.cell? ⟨b, off + j * 4 + 2, none⟩ = some (intV xn) ∧ wk.drew.cell? ⟨b, off + j * 4 + 3, none⟩ = some (.slice sa x.ps.length sc) ∧ wk.drew.cell? ⟨b2, off2 + j * 4, none⟩ = some (intV yk) ∧ wk.drew.cell? ⟨b2, off2 + j * 4 + 1, none⟩ = some (sV yt) ∧ wk.drew.cell? ⟨b2, off2 + j * 4 + 2, none⟩ = some (intV yn) ∧ wk.drew.cell? ⟨b2, off2 + j * 4 + 3, none⟩ = some (.slice sa2 y.ps.length sc2) from ⟨d1, d2, d3, d4, f1, f2, f3, f4⟩)
                have HC := Lib.hid (IH.out (tots x.ps) (by omega) x.ps (Nat.le_refl _) (by omega) y.ps s hs _ _ P Q wk.drew (hvx.below (below_drew1S _)) (hvy.below (below_drew1S _)))
                cases s
                · have HZ := Lib.hid (hno (fun e => by have := hs.2 e.2.2.2; cases this))
                  clear hno hstep hs h1 h2 h3
                  clear c1 c2 c3 c4 e1 e2 e3 e4 hx hy hvx hvy hB hxj hyj hmt hxt
                  clear d1 d2 d3 d4 f1 f2 f3 f4
                  go_wp2_with fail
                  go_region_held3 (fun w' => w'.cell? ⟨b, off + j * 4, none⟩ = some (intV xk) ∧ w'.cell? ⟨b, off + j * 4 + 1, none⟩ = some (sV xt) ∧ w'.cell? ⟨b, off + j * 4 + 2, none⟩ = some (intV xn) ∧ w'.cell? ⟨b, off + j * 4 + 3, none⟩ = some (.slice sa x.ps.length sc) ∧ w'.cell? ⟨b2, off2 + j * 4, none⟩ = some (intV yk) ∧ w'.cell? ⟨b2, off2 + j * 4 + 1, none⟩ = some (sV yt) ∧ w'.cell? ⟨b2, off2 + j * 4 + 2, none⟩ = some (intV yn) ∧ w'.cell? ⟨b2, off2 + j * 4 + 3, none⟩ = some (.slice sa2 y.ps.length sc2))
                    (first | exact HD.out | exact HS2.out)
                    (first | ((try go_simp); go_at_call 14; refine HC.out.mono ?_; rintro e' w6 ⟨rfl, h5⟩; have HB2 := Lib.hid h5; have HS2 := Lib.hid (And.intro ((h5.cell (p := ⟨b, off + j * 4, none⟩) hbk).trans HD.out.1) (And.intro ((h5.cell (p := ⟨b, off + j * 4 + 1, none⟩) hbk).trans HD.out.2.1) (And.intro ((h5.cell (p := ⟨b, off + j * 4 + 2, none⟩) hbk).trans HD.out.2.2.1) (And.intro ((h5.cell (p := ⟨b, off + j * 4 + 3, none⟩) hbk).trans HD.out.2.2.2.1) (And.intro ((h5.cell (p := ⟨b2, off2 + j * 4, none⟩) hbk2).trans HD.out.2.2.2.2.1) (And.intro ((h5.cell (p := ⟨b2, off2 + j * 4 + 1, none⟩) hbk2).trans HD.out.2.2.2.2.2.1) (And.intro ((h5.cell (p := ⟨b2, off2 + j * 4 + 2, none⟩) hbk2).trans HD.out.2.2.2.2.2.2.1) ((h5.cell (p := ⟨b2, off2 + j * 4 + 3, none⟩) hbk2).trans HD.out.2.2.2.2.2.2.2)))))))); clear h5))
                  have HB6 := Lib.hid (below_then (HB.out.trans (below_drew1S _)) HB2.out)
                  go_wp2
                  go_ret
                  exact ⟨by rw [HZ.out] <;> rfl, HB6.out⟩
                · have HS := Lib.hid (hstep ⟨h1, h2, h3, hs.1 rfl⟩)
                  clear hno hstep hs h1 h2 h3
                  clear c1 c2 c3 c4 e1 e2 e3 e4 hx hy hvx hvy hB hxj hyj hmt hxt
                  clear d1 d2 d3 d4 f1 f2 f3 f4
                  go_wp2_with fail
                  go_region_held3 (fun w' => w'.cell? ⟨b, off + j * 4, none⟩ = some (intV xk) ∧ w'.cell? ⟨b, off + j * 4 + 1, none⟩ = some (sV xt) ∧ w'.cell? ⟨b, off + j * 4 + 2, none⟩ = some (intV xn) ∧ w'.cell? ⟨b, off + j * 4 + 3, none⟩ = some (.slice sa x.ps.length sc) ∧ w'.cell? ⟨b2, off2 + j * 4, none⟩ = some (intV yk) ∧ w'.cell? ⟨b2, off2 + j * 4 + 1, none⟩ = some (sV yt) ∧ w'.cell? ⟨b2, off2 + j * 4 + 2, none⟩ = some (intV yn) ∧ w'.cell? ⟨b2, off2 + j * 4 + 3, none⟩ = some (.slice sa2 y.ps.length sc2))
                    (first | exact HD.out | exact HS2.out)
                    (first | ((try go_simp); go_at_call 14; refine HC.out.mono ?_; rintro e' w6 ⟨rfl, h5⟩; have HB2 := Lib.hid h5; have HS2 := Lib.hid (And.intro ((h5.cell (p := ⟨b, off + j * 4, none⟩) hbk).trans HD.out.1) (And.intro ((h5.cell (p := ⟨b, off + j * 4 + 1, none⟩) hbk).trans HD.out.2.1) (And.intro ((h5.cell (p := ⟨b, off + j * 4 + 2, none⟩) hbk).trans HD.out.2.2.1) (And.intro ((h5.cell (p := ⟨b, off + j * 4 + 3, none⟩) hbk).trans HD.out.2.2.2.1) (And.intro ((h5.cell (p := ⟨b2, off2 + j * 4, none⟩) hbk2).trans HD.out.2.2.2.2.1) (And.intro ((h5.cell (p := ⟨b2, off2 + j * 4 + 1, none⟩) hbk2).trans HD.out.2.2.2.2.2.1) (And.intro ((h5.cell (p := ⟨b2, off2 + j * 4 + 2, none⟩) hbk2).trans HD.out.2.2.2.2.2.2.1) ((h5.cell (p := ⟨b2, off2 + j * 4 + 3, none⟩) hbk2).trans HD.out.2.2.2.2.2.2.2)))))))); clear h5))
                  have HB6 := Lib.hid (below_then (HB.out.trans (below_drew1S _)) HB2.out)
                  go_wp2
                  go_roundw
                  case rel => exact ⟨j + 1, by omega, by go_num, HS, HB6.out⟩
                  case measure => simp [intOf]; omega
              · have q3 : (xn == yn) = false := by simpa using h3
                have q3' : (xn != yn) = true := by simpa using h3
                clear hstep
                have HZ := Lib.hid (hno (fun e => h3 e.2.2.1))
                clear h1 h2 h3
                clear c1 c2 c3 c4 e1 e2 e3 e4 hx hy hvx hvy hB hxj hyj hmt hxt
                clear hno
                go_wp2_with fail
                go_quiet (fail)
                clear d1 d2 d3 d4 f1 f2 f3 f4
                go_wp2
                go_ret
                exact ⟨by rw [HZ.out] <;> rfl, HB.out.trans (below_drewN_n _ _ _)⟩
            · have q2 : (xt == yt) = false := by simpa using h2
              clear hstep
              have HZ := Lib.hid (hno (fun e => h2 e.2.1))
              clear h1 h2
              clear c1 c2 c3 c4 e1 e2 e3 e4 hx hy hvx hvy hB hxj hyj hmt hxt
              clear hno
              go_wp2_with fail
              go_quiet (fail)
              clear d1 d2 d3 d4 f1 f2 f3 f4
              go_wp2
              go_ret
              exact ⟨by rw [HZ.out] <;> rfl, HB.out.trans (below_drewN_n _ _ _)⟩
          · have q1 : (xk == yk) = false := by simpa using h1
            have q1' : (xk != yk) = true := by simpa using h1
            clear hstep
            have HZ := Lib.hid (hno (fun e => h1 e.1))
            clear h1
            clear c1 c2 c3 c4 e1 e2 e3 e4 hx hy hvx hvy hB hxj hyj hmt hxt
            clear hno
            go_wp2_with fail
            go_quiet (fail)
            clear d1 d2 d3 d4 f1 f2 f3 f4
            go_wp2
            go_ret
            exact ⟨by rw [HZ.out] <;> rfl, HB.out.trans (below_drewN_n _ _ _)⟩
        · have HZ := Lib.hid (show r = true by
            have h1 := HT.out
            rw [List.take_of_length_le (by omega), List.take_of_length_le (by have := HLEN.out; omega)] at h1
            exact HR.out.2 h1)
          clear hB
          go_wp2
          go_ret
          exact ⟨by rw [HZ.out] <;> rfl, HB.out⟩
    · have q0 : ((l.length : Int) != (m.length : Int)) = true := by simp; omega
      have q0' : ((l.length : Int) == (m.length : Int)) = false := by rw [beq_eq_false_iff_ne]; omega
      have HZ := Lib.hid (show r = false by
        cases hr : r
        · rfl
        · exact absurd (congrArg List.length (HR.out.1 hr)) hlen)
      go_enter Tryz.func14, Tryz.ntmps14
      go_wp2
      go_ret
      exact ⟨by rw [HZ.out] <;> rfl, Below.refl _ _⟩
end Go.Proofs.YtmfcepfagbkceaaGreatDoor
