/- The program's areFeasible and Verify. -/
import Derived.Test.YtipcelgoachjjaaDgVer
namespace Go.Proofs.Ytipcelgoachjjaa
set_option linter.unusedSimpArgs false
set_option linter.unusedVariables false
set_option maxRecDepth 100000
open Go.RowKit Go.Deep

theorem feas_no {n : Int} {ls : List LkV} {t : Int} {pots : List Int} (h : ¬ ((pots.length : Int) = n ∧ (∀ p ∈ pots, -1 ≤ p) ∧ pt pots t = 0 ∧ ∀ x ∈ ls, linkOk pots x)) : feas n ls t pots = false := by
  unfold feas; rw [decide_eq_false_iff_not]; exact h
theorem lk_mem {ls : List LkV} {k : Nat} (h : k < ls.length) : lk ls k ∈ ls := by rw [lk_get h]; exact List.getElem_mem h
set_option maxHeartbeats 2000000 in
theorem feas_any (n : Nat) (ls : List LkV) (hg : Gr n ls) (t : Nat) (ht : t < n) (pots : List Int) (hpl : pots.length ≤ 1000000) (hpr : ∀ x ∈ pots, x ≤ 9223372036854775807) (r : Bool) (hr : feas n ls t pots = r) (v u : Value) (w : World) (hv : LinksAt w v ls) (hu : IntsAt w u pots) :
    Calls Try.prog 47 #[intV n, v, intV t, u] w fun e w' => e = .returned (.bool r) ∧ Below w.heap.size w w' := by
  have HV := Lib.hid hv
  have HU := Lib.hid hu
  have hlen := hg.len
  have hn2 := hg.n2
  obtain ⟨a, cap, rfl⟩ := hv.slice
  have HG := Lib.hid hg
  have HR := Lib.hid hr
  have HPR := Lib.hid hpr
  by_cases hl : pots.length = n
  · obtain ⟨bu, ou, cap2, rfl, hbu, c1⟩ : ∃ b off cap, u = .slice (some ⟨b, off, none⟩) pots.length cap ∧ b < w.heap.size ∧ w.cell? ⟨b, off + t, none⟩ = some (intV (pots[t]'(by omega))) := by
      obtain ⟨a, cap, rfl, hc⟩ := hu
      obtain ⟨b, off, rfl, hb, hcs⟩ := hc (by omega)
      exact ⟨b, off, cap, rfl, hb, hcs t (by omega)⟩
    have HMIN := Lib.hid (min_any pots (by omega) hpl _ w hu)
    have HPT := Lib.hid (pt_get (pots := pots) (k := t) (by omega))
    obtain ⟨pT, hpT⟩ : ∃ x, pots[t]'(by omega) = x := ⟨_, rfl⟩
    rw [hpT] at c1 HPT
    have hli : ((pots.length : Int) != (n : Int)) = false := by rw [hl]; simp
    have hti : (0 : Int) ≤ (t : Int) := by omega
    have htj : (t : Int) < (pots.length : Int) := by omega
    have HL := Lib.hid hl
    clear hv hu hg hr hpr hpT hl
    go_enter Try.func47, Try.ntmps47
    go_wp2_with fail
    refine HMIN.out.mono ?_
    rintro e w1 ⟨⟨m, rfl, hm⟩, rfl⟩
    have HM := Lib.hid hm
    clear hm HMIN
    by_cases h1 : m < -1
    · go_wp2_with fail
      go_ret
      exact ⟨ret_bool (by rw [← HR.out, eq_comm]; exact feas_no fun h => by have := h.2.1 _ HM.out.1; omega), Below.refl _ _⟩
    by_cases h2 : pT = 0
    · subst h2
      go_wp2_with fail
      go_loopw [31] (fun i wr => ∃ k : Nat, k ≤ ls.length ∧ i = .int .i64 k ∧ Below w.heap.size w wr ∧ ∀ j, j < k → linkOk pots (lk ls j)) (fun i _ => ls.length - (intOf i).toNat)
      case atStart => exact ⟨0, Nat.zero_le _, rfl, Below.refl _ _, fun j hj => absurd hj (Nat.not_lt_zero _)⟩
      case round =>
        obtain ⟨k, hk, rfl, hB, hok⟩ := hrel
        obtain ⟨wk, rfl⟩ : ∃ x, x = wr := ⟨_, rfl⟩
        have HOK := Lib.hid hok
        clear hok
        by_cases hlt : k < ls.length
        · obtain ⟨b, off, rfl, hbb, q1, q2, q3⟩ := HV.out.elem hlt
          have hk' := HG.out.lk hlt
          obtain ⟨f, hf⟩ : ∃ f : Nat, (lk ls k).f = f := ⟨(lk ls k).f.toNat, by have := hk'.f0; omega⟩
          obtain ⟨g, hgt⟩ : ∃ g : Nat, (lk ls k).t = g := ⟨(lk ls k).t.toNat, by have := hk'.t0; omega⟩
          obtain ⟨c, hc⟩ : ∃ c, (lk ls k).c = c := ⟨_, rfl⟩
          have hfn : f < pots.length := by have := hk'.lt; have := hk'.t1; have := HL.out; omega
          have hgn : g < pots.length := by have := hk'.t1; have := HL.out; omega
          have hc0 : 0 ≤ c := by have := hk'.c0; omega
          have hc1 : c ≤ 1073741824 := by have := hk'.c1; omega
          obtain ⟨b', off', e', _, p1⟩ := HU.out.elem hfn
          cases e'
          obtain ⟨b', off', e', _, p2⟩ := HU.out.elem hgn
          cases e'
          have HLK := Lib.hid (show linkOk pots (lk ls k) ↔ (pots[g] ≠ -1 → pots[f] ≠ -1 ∧ pots[f] - c ≤ pots[g]) by
            unfold linkOk
            rw [hf, hgt, hc, pt_get hfn, pt_get hgn])
          have hup := HPR.out _ (List.getElem_mem hfn)
          have hlo := HM.out.2 _ (List.getElem_mem hfn)
          obtain ⟨x, hx⟩ : ∃ x, pots[f] = x := ⟨_, rfl⟩
          obtain ⟨y, hy⟩ : ∃ y, pots[g] = y := ⟨_, rfl⟩
          rw [hx] at HLK p1 hup hlo
          rw [hy] at HLK p2
          obtain ⟨W1, hW1⟩ : ∃ W1, wk.alloc (.cells #[intV f, intV g, intV c] 52) = W1 := ⟨_, rfl⟩
          have hB1 : Below w.heap.size w W1 := by rw [← hW1]; exact hB.alloc hB.size _
          have c1' := (hB.cell (p := ⟨b, off + k * 3, none⟩) hbb).trans q1
          have c2' := (hB.cell (p := ⟨b, off + k * 3 + 1, none⟩) hbb).trans q2
          have c3' := (hB.cell (p := ⟨b, off + k * 3 + 2, none⟩) hbb).trans q3
          rw [hf] at c1'
          rw [hgt] at c2'
          rw [hc] at c3'
          have d1 : W1.cell? ⟨wk.heap.size, 0, none⟩ = some (intV f) := by rw [← hW1, World.cell?_alloc_new]; rfl
          have d2 : W1.cell? ⟨wk.heap.size, 1, none⟩ = some (intV g) := by rw [← hW1, World.cell?_alloc_new]; rfl
          have d3 : W1.cell? ⟨wk.heap.size, 2, none⟩ = some (intV c) := by rw [← hW1, World.cell?_alloc_new]; rfl
          have e1 := (hB1.cell (p := ⟨bu, ou + f, none⟩) hbu).trans p1
          have e2 := (hB1.cell (p := ⟨bu, ou + g, none⟩) hbu).trans p2
          have HB1 := Lib.hid hB1
          have HMEM := Lib.hid (lk_mem hlt)
          have hf0 : (0 : Int) ≤ (f : Int) := by omega
          have hf1 : (f : Int) < (pots.length : Int) := by omega
          have hg0 : (0 : Int) ≤ (g : Int) := by omega
          have hg1 : (g : Int) < (pots.length : Int) := by omega
          clear q1 q2 q3 p1 p2 hf hgt hc hx hy hk' hB hB1
          by_cases hy1 : y = -1
          · have hb1 : (y != -1) = false := by simpa using hy1
            have HY := Lib.hid hy1
            clear hy1
            go_wp2_with fail
            try rw [hW1]
            clear hW1
            go_quiet (fail)
            go_wp2
            go_roundw
            case rel =>
              refine ⟨k + 1, by omega, by go_num, HB1.out.trans (below_drewN_n _ _ _), fun j hj => ?_⟩
              rcases (show j < k ∨ j = k by omega) with h | rfl
              · exact HOK.out j h
              · exact HLK.out.2 fun h => absurd HY.out h
            case measure => simp [intOf]; omega
          · have hb1 : (y != -1) = true := by rw [bne_iff_ne]; exact hy1
            have HY := Lib.hid hy1
            clear hy1
            by_cases hx1 : x = -1
            · have hb2 : (x == -1) = true := by simpa using hx1
              have HX := Lib.hid hx1
              clear hx1
              go_wp2_with fail
              try rw [hW1]
              clear hW1
              go_quiet (fail)
              go_wp2
              go_ret
              refine ⟨ret_bool ?_, HB1.out.trans (below_drewN_n _ _ _)⟩
              rw [← HR.out, eq_comm]
              exact feas_no fun h => (HLK.out.1 (h.2.2.2 _ HMEM.out) HY.out).1 HX.out
            · have hb2 : (x == -1) = false := by simpa using hx1
              have HX := Lib.hid hx1
              have hwr : IntKind.i64.wrap (x - c) = x - c := IntWalk.i64_in _ (by omega)
              clear hx1
              by_cases hgt : x - c > y
              · go_wp2_with fail
                try rw [hW1]
                clear hW1
                go_quiet (fail)
                go_wp2
                go_ret
                refine ⟨ret_bool ?_, HB1.out.trans (below_drewN_n _ _ _)⟩
                rw [← HR.out, eq_comm]
                exact feas_no fun h => by have := (HLK.out.1 (h.2.2.2 _ HMEM.out) HY.out).2; omega
              · go_wp2_with fail
                try rw [hW1]
                clear hW1
                go_quiet (fail)
                go_wp2
                go_roundw
                case rel =>
                  refine ⟨k + 1, by omega, by go_num, HB1.out.trans (below_drewN_n _ _ _), fun j hj => ?_⟩
                  rcases (show j < k ∨ j = k by omega) with h | rfl
                  · exact HOK.out j h
                  · exact HLK.out.2 fun _ => ⟨HX.out, by omega⟩
                case measure => simp [intOf]; omega
        · obtain rfl : k = ls.length := by omega
          go_wp2
          go_ret
          refine ⟨ret_bool ?_, hB⟩
          rw [← HR.out, eq_comm, feas, decide_eq_true_eq]
          refine ⟨by rw [HL.out], fun p hp => by have := HM.out.2 p hp; omega, HPT.out, fun x hx => ?_⟩
          obtain ⟨j, hj, rfl⟩ := List.mem_iff_getElem.1 hx
          rw [← lk_get hj]; exact HOK.out j hj
    · have hb : (pT != 0) = true := by rw [bne_iff_ne]; exact h2
      have HN0 := Lib.hid h2
      clear h2
      go_wp2_with fail
      go_ret
      exact ⟨ret_bool (by rw [← HR.out, eq_comm]; exact feas_no fun h => HN0.out (by rw [← HPT.out]; exact h.2.2.1)), Below.refl _ _⟩
  · have hli : ((pots.length : Int) != (n : Int)) = true := by rw [bne_iff_ne]; omega
    obtain ⟨au, cu, rfl⟩ := hu.slice
    have HL := Lib.hid hl
    clear hv hu hg hr hpr hl
    go_enter Try.func47, Try.ntmps47
    go_wp2_with fail
    go_ret
    exact ⟨ret_bool (by rw [← HR.out, eq_comm]; exact feas_no fun h => HL.out (by have := h.1; omega)), Below.refl _ _⟩
end Go.Proofs.Ytipcelgoachjjaa
