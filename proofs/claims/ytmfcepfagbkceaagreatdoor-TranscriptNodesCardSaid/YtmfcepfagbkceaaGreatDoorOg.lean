/- Stage 10 (transcript): MkPY MkPZ MkPW, put together by merge10.py. -/
import Derived.Test.YtmfcepfagbkceaaGreatDoorOg2
import Derived.Deep.RegionHeld3
namespace Go.Proofs.YtmfcepfagbkceaaGreatDoor
set_option linter.unusedSimpArgs false
set_option linter.unusedVariables false
set_option maxRecDepth 100000
open Go.RowKit Go.Deep
end Go.Proofs.YtmfcepfagbkceaaGreatDoor
namespace Go.Proofs.YtmfcepfagbkceaaGreatDoor
set_option linter.unusedSimpArgs false
set_option linter.unusedVariables false
set_option maxRecDepth 100000
open Go.RowKit Go.Deep
set_option maxHeartbeats 8000000 in
theorem nested_any (L : List Lx) (e : Int) (v : Value) (w : World) [T w] (hr : nestR L = e) (hv : LexAt w v L) (hb : LxB L) :
    Calls Tryz.prog 39 #[v] w fun en w' => en = .returned (intV e) ∧ Below w.heap.size w w' := by
  have HV := Lib.hid hv
  obtain ⟨a, cap, rfl⟩ := hv.slice
  have hl := hb.1
  by_cases hc : chkR L = 0
  · have HCK := Lib.hid (check_any L 0 _ w hc hv hb)
    have hn : nestF [] L = e := by
      unfold nestR at hr
      rwa [if_pos hc] at hr
    have HN := Lib.hid hn
    obtain ⟨i0, hi, hz0, hz1, hz2⟩ := info_parts info_str
    clear hv hb hc hr hn
    go_enter Tryz.func39, Tryz.ntmps39
    go_wp2_with fail
    refine HCK.out.mono ?_
    rintro e' w1 ⟨rfl, h1⟩
    have B1 := Lib.hid h1
    clear h1
    go_wp2
    go_loopw [3, 12] (fun sv iv wr => ∃ (k : Nat) (st : List Bs), k ≤ L.length ∧ iv = .int .i64 k ∧ Hid (nestF st (L.drop k) = e) ∧ st.length ≤ 16 ∧ wr.ownsRow w.heap.size 9 1 sv st.length (st.reverse.map sV) ∧ Below w.heap.size w wr) (fun _ iv _ => L.length - (intOf iv).toNat)
    case atStart => exact ⟨0, [], Nat.zero_le _, rfl, HN, by simp, World.ownsRow_nil _ _ _ _, B1.out⟩
    case round =>
      obtain ⟨k, st, hk, rfl, HE, hst, ho, hB⟩ := hrel
      obtain ⟨wk, rfl⟩ : ∃ x, x = wr := ⟨_, rfl⟩
      have HB := Lib.hid hB
      by_cases hlt : k < L.length
      · obtain ⟨b, off, rfl, hbb, c1, c2, c3, c4⟩ := HV.out.elem hlt
        have d1 := (hB.cell (p := ⟨b, off + k * 4, none⟩) hbb).trans c1
        have d2 := (hB.cell (p := ⟨b, off + k * 4 + 1, none⟩) hbb).trans c2
        have d3 := (hB.cell (p := ⟨b, off + k * 4 + 2, none⟩) hbb).trans c3
        have d4 := (hB.cell (p := ⟨b, off + k * 4 + 3, none⟩) hbb).trans c4
        have hdr : L.drop k = L[k] :: L.drop (k + 1) := List.drop_eq_getElem_cons hlt
        have he := HE.out
        rw [hdr] at he
        obtain ⟨x, hx⟩ : ∃ x, L[k] = x := ⟨_, rfl⟩
        rw [hx] at d1 d2 d3 d4 he
        obtain ⟨zn, hzn⟩ : ∃ z, baL x.n = z := ⟨_, rfl⟩
        obtain ⟨zv, hzv⟩ : ∃ z, baL x.v = z := ⟨_, rfl⟩
        obtain ⟨kk, hkk⟩ : ∃ z, x.k = z := ⟨_, rfl⟩
        obtain ⟨oo, hoo⟩ : ∃ z, x.o = z := ⟨_, rfl⟩
        rw [hkk] at d1
        rw [hoo] at d4
        rw [show sV x.n = .string (baL x.n) from rfl, hzn] at d2
        rw [show sV x.v = .string (baL x.v) from rfl, hzv] at d3
        obtain ⟨wB, hwB⟩ : ∃ y, wk.alloc (.cells #[intV kk, .string zn, .string zv, intV oo] 52) = y := ⟨_, rfl⟩
        have hA : Below wk.heap.size wk wB := by rw [← hwB]; exact below_alloc _ _
        have hbx : wB.heap[wk.heap.size]? = some (.cells #[intV kk, .string zn, .string zv, intV oo] 52 (0, 0)) := by rw [← hwB]; exact World.alloc_heap_new _ _
        obtain ⟨l1, l2, l3, l4⟩ := heap4P hbx
        have hoB : wB.ownsRow w.heap.size 9 1 u3 st.length (st.reverse.map sV) := by rw [← hwB]; exact ho.alloc _
        have HO := Lib.hid hoB
        have HBB := Lib.hid (below_then hB hA)
        have HWB := Lib.hid hwB
        have hwle : w.heap.size ≤ wB.heap.size := HBB.out.size
        obtain ⟨ra, rc, rfl⟩ : ∃ a c, u3 = .slice a st.length c := by
          rcases ho.2 with ⟨h1, h2⟩ | ⟨g, cap, cur, h1, _⟩
          · exact ⟨none, 0, by rw [h1, h2]⟩
          · exact ⟨_, _, h1⟩
        have ib0 : (0 : Int) ≤ (k : Int) := by omega
        have ib1 : (k : Int) < (L.length : Int) := by omega
        clear ho hB hA hbx hwB c1 c2 c3 c4 hbb hdr hx hzv hoo
        go_upto_region 7 with fail
        rw [HWB.out]
        clear d1 d2 d3 d4
        by_cases h2 : kk = 2
        · have q2 : (kk == 2) = true := by simp [h2]
          rw [nestF_open (by rw [hkk]; exact h2)] at he
          have HEE := Lib.hid he
          have HZ := Lib.hid hzn
          have hsl := hst
          by_cases h16 : st.length + 1 ≤ 16
          · have q16 : decide ((16 : Int) < ((st.length + 1 : Nat) : Int)) = false := decide_eq_false (by omega)
            have q16b : ¬ 16 < st.length + 1 := by omega
            clear hkk hzn he h2 hoB
            go_wp2_with (at_builtin; refine wpList_append_own _ rfl _ _ 43 rfl w.heap.size 9 i0 (.string ⟨#[]⟩) 1 16 Tryz.underlying43 hi hz0 hz1 hz2 rfl (by decide) _ _ _ rfl (HO.out.alloc _) ⟨wB.heap.size, 0, none⟩ 1 1 [.string zn] rfl rfl (one_news _ _ _ _ rfl) (by simp [Value.oneCell']) (by unfold maxLen; omega) (by omega) (by simp; omega) ?_; intro v' w3 hown' hgrow hnn; clear hnn; have HO3 := Lib.hid hown'; have HB3 := Lib.hid ((HBB.out.alloc HBB.out.size _).grown hgrow (by simp; omega) (fun q hq => (HO.out.lt q hq).1)); obtain ⟨va, vc, rfl⟩ : ∃ a c, v' = .slice a (st.length + 1) c := (by rcases hown'.2 with ⟨h1, h2⟩ | ⟨g, cap, cur, h1, _⟩; (exact absurd h2 (by omega)); (exact ⟨_, _, h1⟩)); clear hown' hgrow)
            go_roundw
            case rel => exact ⟨k + 1, x.n :: st, by omega, by go_num, Lib.hid (by have := HEE.out; rwa [if_neg q16b] at this), by simpa using h16, by rw [List.reverse_cons, List.map_append, List.length_cons]; have := HO3.out; rw [← HZ.out] at this; exact this, HB3.out⟩
            case measure => simp [intOf]; omega
          · have q16 : decide ((16 : Int) < ((st.length + 1 : Nat) : Int)) = true := decide_eq_true (by omega)
            have q16b : 16 < st.length + 1 := by omega
            clear hkk hzn he h2 hoB
            go_wp2_with (at_builtin; refine wpList_append_own _ rfl _ _ 43 rfl w.heap.size 9 i0 (.string ⟨#[]⟩) 1 16 Tryz.underlying43 hi hz0 hz1 hz2 rfl (by decide) _ _ _ rfl (HO.out.alloc _) ⟨wB.heap.size, 0, none⟩ 1 1 [.string zn] rfl rfl (one_news _ _ _ _ rfl) (by simp [Value.oneCell']) (by unfold maxLen; omega) (by omega) (by simp; omega) ?_; intro v' w3 hown' hgrow hnn; clear hnn; have HB3 := Lib.hid ((HBB.out.alloc HBB.out.size _).grown hgrow (by simp; omega) (fun q hq => (HO.out.lt q hq).1)); obtain ⟨va, vc, rfl⟩ : ∃ a c, v' = .slice a (st.length + 1) c := (by rcases hown'.2 with ⟨h1, h2⟩ | ⟨g, cap, cur, h1, _⟩; (exact absurd h2 (by omega)); (exact ⟨_, _, h1⟩)); clear hown' hgrow)
            go_ret
            refine ⟨?_, HB3.out⟩
            have := HEE.out
            rw [if_pos q16b] at this
            rw [← this]; try rfl
        · have q2 : (kk == 2) = false := by simpa using h2
          by_cases h3 : kk = 3
          · have q3 : (kk == 3) = true := by simp [h3]
            cases st with
            | nil =>
              rw [nestF_none (by rw [hkk]; exact h3)] at he
              have HEE := Lib.hid he
              clear hkk hzn he h2 h3 hoB
              go_wp2_with fail
              go_quiet (fail)
              go_wp2
              go_ret
              exact ⟨by rw [← HEE.out]; try rfl, HBB.out.trans (below_drewN_n _ _ _)⟩
            | cons t st' =>
              rw [nestF_close (by rw [hkk]; exact h3)] at he
              obtain ⟨n, hn⟩ : ∃ n, st'.length = n := ⟨_, rfl⟩
              have ho' : wB.ownsRow w.heap.size 9 1 (.slice ra (n + 1) rc) (n + 1) (st'.reverse.map sV ++ [sV t]) := by
                rw [List.reverse_cons, List.map_append, List.length_cons, hn] at hoB
                exact hoB
              obtain ⟨g, hra, hcap⟩ : ∃ g, ra = some ⟨g, 0, none⟩ ∧ n + 1 ≤ rc := by
                rcases ho'.2 with ⟨h1, h2⟩ | ⟨g, cap, cur, h1, _, _, h4, _⟩
                · omega
                · cases h1; exact ⟨g, rfl, h4⟩
              subst hra
              have hpop := Go.ownsRow_pop (size := 1) (xs := st'.reverse.map sV) (last := [sV t]) (by simp [hn]) ho'
              have hcell := World.ownsRow.cellAt ho' n (by omega)
              rw [List.getElem?_append_right (by simp [hn])] at hcell
              obtain ⟨zt, hzt⟩ : ∃ z, baL t = z := ⟨_, rfl⟩
              replace hcell : wB.cell? ⟨g, n, none⟩ = some (.string zt) := by rw [hcell]; simp [hn, hzt]
              have hst' : st'.length ≤ 16 := by rw [List.length_cons] at hst; omega
              obtain ⟨m, hm⟩ : ∃ m, (t :: st').length = m := ⟨_, rfl⟩
              have hmn : m = n + 1 := by rw [← hm, List.length_cons, hn]
              rw [hm]
              have hn16 : n ≤ 16 := by omega
              have hw : IntKind.i64.wrap ((m : Int) - 1) = (n : Int) := by rw [show (m : Int) - 1 = (n : Int) by omega]; exact IntWalk.i64_in _ (by omega)
              have n0 : (0 : Int) ≤ (n : Int) := by omega
              have n0' : decide ((n : Int) < 0) = false := decide_eq_false (by omega)
              have n1 : (n : Int) < (m : Int) := by omega
              have n2 : n ≤ rc := by omega
              have n3 : (n : Int) ≤ (rc : Int) := by omega
              have HPOP := Lib.hid hpop
              have HSN := Lib.hid hn
              have HST' := Lib.hid hst'
              by_cases ht : t = x.n
              · rw [if_pos ht] at he
                have HE2 := Lib.hid he
                have q : (zt.toList == zn.toList) = true := by rw [← hzt, ← hzn, ht, beq_self_eq_true]
                have q' : (zt.toList != zn.toList) = false := by rw [bne, q]; rfl
                clear ho' hpop hkk hzn hzt he h2 h3 hmn hm hn hst hst' ht HO hoB
                go_wp2_with fail
                go_quiet (fail)
                clear hcell l1 l2 l3 l4
                go_wp2
                go_roundw
                case rel => exact ⟨k + 1, st', by omega, by go_num, HE2, HST'.out, by rw [HSN.out]; exact HPOP.out, HBB.out.trans (below_drewN_n _ _ _)⟩
                case measure => simp [intOf]; omega
              · rw [if_neg ht] at he
                have HE2 := Lib.hid he
                have q : (zt.toList == zn.toList) = false := by
                  rw [beq_eq_false_iff_ne, ← hzt, ← hzn, toL, toL]; exact ht
                have q' : (zt.toList != zn.toList) = true := by rw [bne, q]; rfl
                clear ho' hpop hkk hzn hzt he h2 h3 hmn hm hn hst hst' ht HO hoB
                go_wp2_with fail
                go_quiet (fail)
                clear hcell l1 l2 l3 l4
                go_wp2
                go_ret
                exact ⟨by rw [← HE2.out]; try rfl, HBB.out.trans (below_drewN_n _ _ _)⟩
          · have q3 : (kk == 3) = false := by simpa using h3
            rw [nestF_other (by rw [hkk]; exact h2) (by rw [hkk]; exact h3)] at he
            have HEE := Lib.hid he
            clear hkk hzn he h2 h3 hoB
            go_wp2
            go_roundw
            case rel => exact ⟨k + 1, st, by omega, by go_num, HEE, hst, HO.out, HBB.out⟩
            case measure => simp [intOf]; omega
      · have hkl : L.drop k = [] := List.drop_eq_nil_of_le (by omega)
        have he := HE.out
        rw [hkl] at he
        obtain ⟨ra, rc, rfl⟩ : ∃ a c, u3 = .slice a st.length c := by
          rcases ho.2 with ⟨h1, h2⟩ | ⟨g, cap, cur, h1, _⟩
          · exact ⟨none, 0, by rw [h1, h2]⟩
          · exact ⟨_, _, h1⟩
        clear ho hB hkl
        cases st with
        | nil =>
          have hz : (0 : Int) = e := he
          have HEE := Lib.hid hz
          clear he hz
          go_wp2
          go_ret
          exact ⟨by rw [← HEE.out]; try rfl, HB.out⟩
        | cons t st' =>
          have hz : (12 : Int) = e := he
          have HEE := Lib.hid hz
          have hp : decide ((0 : Int) < ((t :: st').length : Int)) = true := decide_eq_true (by simp)
          clear he hz
          go_wp2
          go_ret
          exact ⟨by rw [← HEE.out]; try rfl, HB.out⟩
  · have hn : 1 = e := by
      unfold nestR at hr
      rwa [if_neg hc] at hr
    obtain ⟨f, hf⟩ : ∃ f, chkR L = f := ⟨_, rfl⟩
    have hf1 : (f != 0) = true := by rw [← hf]; simpa using hc
    have HCK := Lib.hid (check_any L f _ w hf hv hb)
    have HN := Lib.hid hn
    clear hv hb hc hr hf hn
    go_enter Tryz.func39, Tryz.ntmps39
    go_wp2_with fail
    refine HCK.out.mono ?_
    rintro e' w1 ⟨rfl, h1⟩
    have B1 := Lib.hid h1
    clear h1
    go_wp2
    go_ret
    exact ⟨by rw [← HN.out]; try rfl, B1.out⟩
end Go.Proofs.YtmfcepfagbkceaaGreatDoor
namespace Go.Proofs.YtmfcepfagbkceaaGreatDoor
set_option linter.unusedSimpArgs false
set_option linter.unusedVariables false
set_option maxRecDepth 100000
open Go.RowKit Go.Deep
end Go.Proofs.YtmfcepfagbkceaaGreatDoor
