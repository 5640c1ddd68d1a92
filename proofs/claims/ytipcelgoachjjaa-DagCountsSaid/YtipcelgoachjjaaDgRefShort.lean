/- The reference's Shortest. -/
import Derived.Test.YtipcelgoachjjaaDgShort
import Derived.Test.YtipcelgoachjjaaDgMathTwo
import Derived.Test.YtipcelgoachjjaaDgRefPL
namespace Go.Proofs.Ytipcelgoachjjaa
set_option linter.unusedSimpArgs false
set_option linter.unusedVariables false
set_option maxRecDepth 100000
open Go.RowKit Go.Deep

theorem own_heap {W W' : World} {b n : Nat} {t : TypeId} {v : Value} {xs : List Value} (h : W.ownsRow b t 1 v n xs) (e : W'.heap = W.heap) : W'.ownsRow b t 1 v n xs := by
  unfold World.ownsRow at h ⊢
  rw [e]; exact h
theorem own_ints {W : World} {base : Nat} {v : Value} {p : List Nat} (h : W.ownsRow base 3 1 v p.length (mapN p)) : IntsAt W v (toI p) := IntsAt.of_own (n := p.length) (e := 3) (base := base) (by rw [toI, List.map_map]; exact h)
theorem hit_none {ls : List LkV} {x : Int} {q : Nat} {p : Nat → Bool} (h : ∀ i ∈ selN q (lv ls x), p i = false) (hn : lv ls x q = true → p q = false) : ∀ i ∈ selN (q + 1) (lv ls x), p i = false := by
  intro i hi
  rw [selN_succ] at hi
  split at hi
  · rename_i hl
    rcases List.mem_append.1 hi with h' | h'
    · exact h i h'
    · rw [List.mem_singleton.1 h']; exact hn hl
  · exact h i hi
theorem find_sel {ls : List LkV} {x : Int} {q : Nat} {p : Nat → Bool} (hq : q < ls.length) (hl : lv ls x q = true) (h : ∀ i ∈ selN q (lv ls x), p i = false) (hp : p q = true) : (out ls x).find? p = some q := by
  have key : ∀ m, q < m → (selN m (lv ls x)).find? p = some q := by
    intro m
    induction m with
    | zero => intro h; omega
    | succ m ih =>
      intro hm
      rcases (show q < m ∨ q = m by omega) with h1 | rfl
      · rw [selN_succ]
        split
        · rw [List.find?_append, ih h1]; rfl
        · exact ih h1
      · rw [selN_succ, if_pos hl, List.find?_append, List.find?_eq_none.2 (fun i hi => by rw [h i hi]; simp)]
        simp [hp]
  exact key _ hq
set_option maxHeartbeats 8000000 in
theorem refShortest_any (n : Int) (ls : List LkV) (s t : Int) (v : Value) (w : World) (hv : LinksAt w v ls) (hgr : greatR n ls = false) (r : List Int × Int × Int) (hr : shoR n ls s t = r) :
    Calls Try.prog 14 #[intV n, v, intV s, intV t] w (PathPost r w) := by
  obtain ⟨i0, hi, hz0, hz1, hz2⟩ := info_parts info_int
  have HV := Lib.hid hv
  have hl := great_len hgr
  obtain ⟨q, hq⟩ : ∃ q, nodesR n ls [s, t] = q := ⟨_, rfl⟩
  have HC := Lib.hid (refNodes_any n ls s t v _ hv (by unfold maxLen; omega) q hq)
  obtain ⟨av, cv, rfl⟩ := hv.slice
  rw [shoR, hq] at hr
  have HR := Lib.hid hr
  clear hv hr
  by_cases h0 : q = 0
  · subst h0
    obtain ⟨hc, hin⟩ := nodes_zero hq
    obtain ⟨m, rfl, hs⟩ := small_of hgr hc
    obtain ⟨k, rfl, hk⟩ := nat_of (hin t (by simp))
    obtain ⟨j, rfl, hj⟩ := nat_of (hin s (by simp))
    have HS := Lib.hid hs
    have hm8 := hs.n8
    clear hq hc hin hs hgr
    go_enter Try.func14, Try.ntmps14
    go_wp2_with fail
    refine HC.out.mono ?_
    rintro e w1 ⟨rfl, hB⟩
    have HB1 := Lib.hid hB
    clear hB
    go_wp2_with fail
    refine (to_any m ls HS.out k hk false _ w1 (HV.out.below HB1.out)).mono ?_
    rintro e w2 ⟨u, rfl, h1, hB⟩
    have H1 := Lib.hid (show IntsAt w2 u (tab m (least ls k)) from h1)
    have HB2 := Lib.hid (below_then HB1.out hB)
    obtain ⟨ar, cr, rfl⟩ := h1.slice
    obtain ⟨br, or, rfl, hbr, c1⟩ := h1.elem (j := j) (by rw [tab_len]; exact hj)
    rw [tab_get] at c1
    replace c1 : w2.cell? ⟨br, or + j, none⟩ = some (intV (least ls k j)) := c1
    rw [tab_len] at *
    clear hB h1
    by_cases hL : least ls k j = -1
    · rw [hL] at c1
      go_wp2
      refine bodyPost_ret (v := .tuple #[_, _, _]) (by simp [results, Try.results14, go_sem]; exact ⟨rfl, rfl, rfl⟩) rfl ?_
      exact PathPost.mk' (HR.out.symm.trans (by rw [if_neg (by decide), if_pos hL])) (IntsAt.empty _ _ _) (HB2.out.alloc HB2.out.size _)
    · have hLow := (HS.out.low (s := j) (t := k) (by omega) (by omega) hL).1
      obtain ⟨L, hLL⟩ : ∃ L, least ls k j = L := ⟨_, rfl⟩
      have HL := Lib.hid hLL
      have HNE := Lib.hid hL
      have hjk := (first_mem HS.out.g k j hL).1
      have hjk2 : j ≤ k := by
        have := P_le HS.out.g (t := k) (s := j) (fun h => by rw [h] at hjk; cases hjk)
        omega
      rw [hLL] at c1 hLow
      have hLn : ¬ L < 0 := by omega
      have hj0 : (0 : Int) ≤ (j : Int) := by omega
      have hj1 : (j : Int) < (m : Int) := by omega
      clear hL hLL hjk
      go_wp2_with fail
      clear c1
      go_loopw [2, 13] (fun sx o wr => ∃ (x : Nat) (pre : List Nat), sx = intV x ∧ x ≤ k ∧ least ls k x ≠ -1 ∧ pre ++ first ls k x = first ls k j ∧ pre.length ≤ x ∧ wr.ownsRow w2.heap.size 3 1 o pre.length (mapN pre) ∧ Below w2.heap.size w2 wr) (fun sx _ _ => ((k : Int) - intOf sx).toNat)
      case atStart => exact ⟨j, [], rfl, hjk2, HNE.out, rfl, Nat.zero_le _, World.ownsRow_lit _ #[] 0 (Nat.le_refl _) (by simp [maxLen]) rfl, (Below.refl _ _).alloc (Nat.le_refl _) _⟩
      case round =>
        obtain ⟨x, pre, rfl, hxk, hlx, hfx, hpx, hown, hB⟩ := hrel
        obtain ⟨wk, rfl⟩ : ∃ x, x = wr := ⟨_, rfl⟩
        by_cases hxt : x = k
        · subst hxt
          rw [first_end, List.append_nil] at hfx
          have HFX := Lib.hid hfx
          have HO := Lib.hid (own_ints hown)
          have HBX := Lib.hid (below_then HB2.out hB)
          obtain ⟨a', c', rfl⟩ := (own_ints hown).slice
          clear hfx hown hB
          go_wp2
          refine bodyPost_ret (v := .tuple #[_, _, _]) (by simp [results, Try.results14, go_sem]; exact ⟨rfl, rfl, rfl⟩) rfl ?_
          have h := HO.out
          rw [HFX.out] at h
          exact PathPost.mk' (HR.out.symm.trans (by rw [if_neg (by decide), if_neg HNE.out, HL.out])) (by simpa [HFX.out] using h) HBX.out
        · have HO := Lib.hid hown
          have HBK := Lib.hid hB
          have HFX := Lib.hid hfx
          have hxb : ((x : Int) != (k : Int)) = true := by rw [bne_iff_ne]; omega
          have hx0 : (0 : Int) ≤ (x : Int) := by omega
          have hx1 : (x : Int) < (m : Int) := by omega
          have HX := Lib.hid hlx
          clear hown hB hfx hlx
          go_wp2_with fail
          go_loopw [15, 13, 2] (fun i o sx wr => ∃ q : Nat, q ≤ ls.length ∧ i = .int .i64 q ∧ sx = intV x ∧ (∀ i' ∈ selN q (lv ls x), hit ls k x i' = false) ∧ wr.ownsRow w2.heap.size 3 1 o pre.length (mapN pre) ∧ Below w2.heap.size w2 wr) (fun i _ _ _ => ls.length - (intOf i).toNat)
          case atStart => exact ⟨0, Nat.zero_le _, rfl, rfl, by simp [selN], HO.out, HBK.out⟩
          case round =>
            obtain ⟨q, hq, rfl, rfl, hno, hown, hB⟩ := hrel
            obtain ⟨wq, rfl⟩ : ∃ x, x = wr := ⟨_, rfl⟩
            have HNO := Lib.hid hno
            clear hno
            by_cases hlt : q < ls.length
            · obtain ⟨bl, ol, rfl, hbb, q1, q2, q3⟩ := HV.out.elem hlt
              have hB0 := below_then HB2.out hB
              have hok := HS.out.g.lk hlt
              obtain ⟨g, hg⟩ : ∃ g : Nat, (lk ls q).t = g := ⟨(lk ls q).t.toNat, by have := hok.t0; omega⟩
              obtain ⟨f, hf⟩ : ∃ f, (lk ls q).f = f := ⟨_, rfl⟩
              obtain ⟨c, hc⟩ : ∃ c, (lk ls q).c = c := ⟨_, rfl⟩
              have hc0 := hok.c0
              have hc1 := hok.c1
              have hfg := hok.lt
              have hgk := hok.t1
              rw [hc] at hc0 hc1
              rw [hg] at hfg hgk
              rw [hf] at hfg
              have HLV := Lib.hid (show lv ls x q = decide (f = x) by rw [lv, hf])
              have HHIT := Lib.hid (show hit ls k x q = decide (least ls k g ≠ -1 ∧ c + least ls k g = least ls k x) by rw [hit, hg, hc])
              have HFR := Lib.hid (fun (h : (out ls x).find? (hit ls k x) = some q) => first_rec HS.out.g.up (show (x : Int) < k by omega) h)
              rw [hg] at HFR
              obtain ⟨W1, hW1⟩ : ∃ W1, wq.alloc (.cells #[intV f, intV g, intV c] 52) = W1 := ⟨_, rfl⟩
              have hs1 : W1.heap.size = wq.heap.size + 1 := by rw [← hW1]; simp
              have hB1 : Below w2.heap.size w2 W1 := by rw [← hW1]; exact hB.alloc hB.size _
              have hO1 := hown.alloc (.cells #[intV f, intV g, intV c] 52)
              rw [hW1] at hO1
              have c1 := (hB0.cell (p := ⟨bl, ol + q * 3, none⟩) hbb).trans q1
              have c2 := (hB0.cell (p := ⟨bl, ol + q * 3 + 1, none⟩) hbb).trans q2
              have c3 := (hB0.cell (p := ⟨bl, ol + q * 3 + 2, none⟩) hbb).trans q3
              rw [hf] at c1
              rw [hg] at c2
              rw [hc] at c3
              have d1 : W1.cell? ⟨wq.heap.size, 0, none⟩ = some (intV f) := by rw [← hW1, World.cell?_alloc_new]; rfl
              have d2 : W1.cell? ⟨wq.heap.size, 1, none⟩ = some (intV g) := by rw [← hW1, World.cell?_alloc_new]; rfl
              have d3 : W1.cell? ⟨wq.heap.size, 2, none⟩ = some (intV c) := by rw [← hW1, World.cell?_alloc_new]; rfl
              have hgk' : g < m := by omega
              have hg0 : (0 : Int) ≤ (g : Int) := by omega
              have hg1 : (g : Int) < (m : Int) := by omega
              have eg : W1.cell? ⟨br, or + g, none⟩ = some (intV (least ls k g)) := by
                obtain ⟨b', o', e', _, p1⟩ := H1.out.elem (j := g) (by rw [tab_len]; exact hgk')
                cases e'
                rw [tab_get] at p1
                exact (hB1.cell (p := ⟨br, or + g, none⟩) hbr).trans p1
              have es : W1.cell? ⟨br, or + x, none⟩ = some (intV (least ls k x)) := by
                obtain ⟨b', o', e', _, p1⟩ := H1.out.elem (j := x) (by rw [tab_len]; omega)
                cases e'
                rw [tab_get] at p1
                exact (hB1.cell (p := ⟨br, or + x, none⟩) hbr).trans p1
              have HLOW := Lib.hid (fun (h : least ls k g ≠ -1) => HS.out.low (t := k) (s := g) hg0 (by omega) h)
              have HLT := Lib.hid (show least ls k g ≠ -1 → g ≤ k from fun h => by
                have hm' := (first_mem HS.out.g k g h).1
                have := P_le HS.out.g (t := k) (s := g) (fun h => by rw [h] at hm'; cases hm')
                omega)
              have HB1' := Lib.hid hB1
              have HO1 := Lib.hid hO1
              obtain ⟨y, hy⟩ : ∃ y, least ls k g = y := ⟨_, rfl⟩
              obtain ⟨z, hz⟩ : ∃ y, least ls k x = y := ⟨_, rfl⟩
              have HY := Lib.hid hy
              have HZ := Lib.hid hz
              rw [hy] at eg HLOW HLT HHIT
              rw [hz] at es HHIT
              have HOLT := Lib.hid (fun b h => (hown.lt b h).2)
              have HS1 := Lib.hid hs1
              clear q1 q2 q3 hf hg hc hok hB hown hB1 hO1 hB0 hy hz hs1
              by_cases hfs : f = x
              · subst hfs
                have hlv : lv ls x q = true := by rw [HLV.out]; simp
                have HLVT := Lib.hid hlv
                have hfb : ((x : Int) == (x : Int)) = true := by simp
                clear hlv
                by_cases hy1 : y = -1
                · have hy2 : decide (0 ≤ y) = false := by rw [decide_eq_false_iff_not]; omega
                  have HHF := Lib.hid (show hit ls k x q = false by rw [HHIT.out, decide_eq_false_iff_not]; exact fun h => h.1 hy1)
                  clear hy1
                  go_wp2_with fail
                  try rw [hW1]
                  clear hW1
                  go_quiet (fail)
                  go_wp2
                  go_roundw
                  case rel => exact ⟨q + 1, by omega, by go_num, rfl, hit_none HNO.out (fun _ => HHF.out), own_heap HO1.out rfl, HB1'.out.trans (below_drewN_n _ _ _)⟩
                  case measure => simp [intOf]; omega
                · have hylow := HLOW.out hy1
                  have hy2 : decide (0 ≤ y) = true := by rw [decide_eq_true_eq]; omega
                  have hwr : IntKind.i64.wrap (c + y) = c + y := IntWalk.i64_in _ (by omega)
                  by_cases he : c + y = z
                  · have heb : (c + y == z) = true := by simpa using he
                    have HHF := Lib.hid (show hit ls k x q = true by rw [HHIT.out, decide_eq_true_eq]; exact ⟨hy1, he⟩)
                    have HFIND := Lib.hid (find_sel hlt HLVT.out HNO.out HHF.out)
                    have HYN := Lib.hid hy1
                    have hpx2 : pre.length ≤ 8 := by omega
                    have hgx : x < g := by omega
                    clear hy1 he
                    go_wp2_with fail
                    try rw [hW1]
                    clear hW1
                    go_quiet (fail)
                    obtain ⟨W2, hW2⟩ : ∃ x, W1.drewN nq = x := ⟨_, rfl⟩
                    have HS2 := Lib.hid (show W2.heap.size = wq.heap.size + 1 by rw [← hW2]; exact HS1.out)
                    have HO2 := Lib.hid (own_heap HO1.out (W' := W2) (by rw [← hW2]; rfl))
                    have HB2' := Lib.hid (HB1'.out.trans (show Below w2.heap.size W1 W2 by rw [← hW2]; exact below_drewN_n _ _ _))
                    have hd2 : W2.cell? ⟨wq.heap.size, 1, none⟩ = some (intV g) := by rw [← hW2]; exact d2
                    have HD2 := Lib.hid hd2
                    try rw [hW2]
                    clear hW2 hd2 d1 d2 d3 eg es
                    go_wp2_with (at_builtin; refine wpList_append_own _ rfl _ _ 23 rfl w2.heap.size 3 i0 (.int .i64 0) 1 8 Try.underlying23 hi hz0 hz1 hz2 rfl (by decide) _ _ _ rfl (HO2.out.alloc _) ⟨W2.heap.size, 0, none⟩ 1 1 [.int .i64 _] rfl rfl (one_news _ _ _ _ rfl) (by simp [Value.oneCell']) (by unfold maxLen; omega) (by omega) (by have := HB2'.out.size; simp; omega) ?_; intro v' w5 hown' hgrow hnn; clear hnn; have hcl : w5.cell? ⟨wq.heap.size, 1, none⟩ = some (intV g) := (grown_cell hgrow (by have := HS2.out; simp; omega) (fun e => by have := HOLT.out _ e.symm; exact absurd this (Nat.lt_irrefl _))).trans ((World.cell?_alloc_lt _ _ _ (by have := HS2.out; simp; omega)).trans HD2.out); have HO5 := Lib.hid hown'; have HB5 := Lib.hid (own_below HB2'.out HB2'.out.size HO2.out hgrow); clear hown' hgrow)
                    go_roundw
                    case rel => exact ⟨g, pre ++ [q], rfl, HLT.out HYN.out, by rw [HY.out]; exact HYN.out, by rw [← HFX.out, HFR.out HFIND.out]; simp, by simp; omega, by simpa [mapN] using HO5.out, HB5.out⟩
                    case measure => simp [intOf]; omega
                  · have heb : (c + y == z) = false := by simpa using he
                    have HHF := Lib.hid (show hit ls k x q = false by rw [HHIT.out, decide_eq_false_iff_not]; exact fun h => he h.2)
                    clear hy1 he
                    go_wp2_with fail
                    try rw [hW1]
                    clear hW1
                    go_quiet (fail)
                    go_wp2
                    go_roundw
                    case rel => exact ⟨q + 1, by omega, by go_num, rfl, hit_none HNO.out (fun _ => HHF.out), own_heap HO1.out rfl, HB1'.out.trans (below_drewN_n _ _ _)⟩
                    case measure => simp [intOf]; omega
              · have hlv : lv ls x q = false := by rw [HLV.out]; simpa using hfs
                have HLVF := Lib.hid hlv
                have hfb : (f == (x : Int)) = false := by simpa using hfs
                clear hlv hfs
                go_wp2_with fail
                try rw [hW1]
                clear hW1
                go_quiet (fail)
                go_wp2
                go_roundw
                case rel => exact ⟨q + 1, by omega, by go_num, rfl, hit_none HNO.out (fun h => by rw [HLVF.out] at h; cases h), own_heap HO1.out rfl, HB1'.out.trans (below_drewN_n _ _ _)⟩
                case measure => simp [intOf]; omega
            · exfalso
              obtain rfl : q = ls.length := by omega
              obtain ⟨i, hi⟩ := hit_some HS.out.g (show (x : Int) ≠ k by omega) HX.out
              have h1 := List.find?_some hi
              have h2 := List.mem_of_find?_eq_some hi
              rw [HNO.out i h2] at h1; cases h1
  · have hb : (q != 0) = true := by rw [bne_iff_ne]; exact h0
    go_enter Try.func14, Try.ntmps14
    go_wp2_with fail
    refine HC.out.mono ?_
    rintro e w1 ⟨rfl, hB⟩
    have HB1 := Lib.hid (hB.alloc hB.size (.cells #[] 3))
    clear hB
    go_wp2
    refine bodyPost_ret (v := .tuple #[_, _, _]) (by simp [results, Try.results14, go_sem]; exact ⟨rfl, rfl, rfl⟩) rfl ?_
    exact PathPost.mk' (HR.out.symm.trans (by rw [if_pos h0])) (IntsAt.empty _ _ _) HB1.out
end Go.Proofs.Ytipcelgoachjjaa
