/- Stage 10 (transcript): MkRefN, put together by merge10.py. -/
import Derived.Test.YtmfcepfagbkceaaGreatDoorRc3
import Derived.Test.YtmfcepfagbkceaaGreatDoorRrd0
import Derived.WalkSmall
namespace Go.Proofs.YtmfcepfagbkceaaGreatDoor
set_option linter.unusedSimpArgs false
set_option linter.unusedVariables false
set_option maxRecDepth 100000
open Go.RowKit Go.Deep
set_option maxHeartbeats 4000000 in
theorem refNested_any (HC : RefChk) : RefNst := by
  intro L e v w hr hv hb
  have HV := Lib.hid hv
  obtain ⟨a, cap, rfl⟩ := hv.slice
  have hl := hb.1
  by_cases hc : chkR L = 0
  · have HCK := Lib.hid (HC L 0 _ w hc hv hb)
    have hn : nestF [] L = e := by
      unfold nestR at hr
      rwa [if_pos hc] at hr
    have HN := Lib.hid hn
    obtain ⟨i0, hi, hz0, hz1, hz2⟩ := info_parts info_str
    clear hv hb hc hr hn
    go_enter Tryz.func42, Tryz.ntmps42
    go_wp2_with fail
    refine HCK.out.mono ?_
    rintro e' w1 ⟨rfl, h1⟩
    have B1 := Lib.hid h1
    clear h1
    go_wp2
    go_loopw [3, 4] (fun sv iv wr => ∃ (k : Nat) (st : List Bs), k ≤ L.length ∧ iv = .int .i64 k ∧ Hid (nestF st (L.drop k) = e) ∧ st.length ≤ 16 ∧ wr.ownsRow w.heap.size 9 1 sv st.length (st.reverse.map sV) ∧ Below w.heap.size w wr) (fun _ iv _ => L.length - (intOf iv).toNat)
    case atStart => exact ⟨0, [], Nat.zero_le _, rfl, HN, by simp, (World.ownsRow_lit (base := w.heap.size) (e := 9) (size := 1) w1 #[] 0 B1.out.size (by decide) rfl), below_then B1.out (alloc_below _ _)⟩
    case round =>
      obtain ⟨k, st, hk, rfl, HE, hst, ho, hB⟩ := hrel
      obtain ⟨wk, rfl⟩ : ∃ x, x = wr := ⟨_, rfl⟩
      have HO := Lib.hid ho
      have HB := Lib.hid hB
      obtain ⟨ra, rc, rfl⟩ : ∃ a c, u3 = .slice a st.length c := by
        rcases ho.2 with ⟨h1, h2⟩ | ⟨g, cap, cur, h1, _⟩
        · exact ⟨none, 0, by rw [h1, h2]⟩
        · exact ⟨_, _, h1⟩
      by_cases hlt : k < L.length
      · obtain ⟨b, off, rfl, hbb, c1, c2, _, _⟩ := HV.out.elem hlt
        have d1 := (hB.cell (p := ⟨b, off + k * 4, none⟩) hbb).trans c1
        have d2 := (hB.cell (p := ⟨b, off + k * 4 + 1, none⟩) hbb).trans c2
        have hdr : L.drop k = L[k] :: L.drop (k + 1) := List.drop_eq_getElem_cons hlt
        have he := HE.out
        rw [hdr] at he
        obtain ⟨x, hx⟩ : ∃ x, L[k] = x := ⟨_, rfl⟩
        rw [hx] at d1 d2 he
        obtain ⟨zn, hzn⟩ : ∃ z, baL x.n = z := ⟨_, rfl⟩
        replace d2 : wk.cell? ⟨b, off + k * 4 + 1, none⟩ = some (.string zn) := by rw [← hzn]; exact d2
        obtain ⟨kk, hkk⟩ : ∃ z, x.k = z := ⟨_, rfl⟩
        rw [hkk] at d1
        have ib0 : (0 : Int) ≤ (k : Int) := by omega
        have ib1 : (k : Int) < (L.length : Int) := by omega
        by_cases h2 : kk = 2
        · have q2 : (kk == 2) = true := by simp [h2]
          rw [nestF_open (by rw [hkk]; exact h2)] at he
          have HEE := Lib.hid he
          have HZ := Lib.hid hzn
          have H2 := Lib.hid h2
          have hsl := hst
          by_cases h16 : st.length + 1 ≤ 16
          · have q16 : decide ((16 : Int) < ((st.length + 1 : Nat) : Int)) = false := decide_eq_false (by omega)
            have q16b : ¬ 16 < st.length + 1 := by omega
            clear ho hB hdr hx hkk hzn he h2 c1 c2 hbb
            go_wp2_with (at_builtin; refine wpList_append_own _ rfl _ _ 43 rfl w.heap.size 9 i0 (.string ⟨#[]⟩) 1 16 Tryz.underlying43 hi hz0 hz1 hz2 rfl (by decide) _ _ _ rfl (HO.out.alloc _) ⟨wk.heap.size, 0, none⟩ 1 1 [.string zn] rfl rfl (one_news _ _ _ _ rfl) (by simp [Value.oneCell']) (by unfold maxLen; omega) (by omega) (by have := HB.out.size; simp; omega) ?_; intro v' w3 hown' hgrow hnn; clear hnn; have HO3 := Lib.hid hown'; have HB3 := Lib.hid ((HB.out.alloc HB.out.size _).grown hgrow (by have := HB.out.size; simp; omega) (fun q hq => (HO.out.lt q hq).1)); obtain ⟨va, vc, rfl⟩ : ∃ a c, v' = .slice a (st.length + 1) c := (by rcases hown'.2 with ⟨h1, h2⟩ | ⟨g, cap, cur, h1, _⟩; (exact absurd h2 (by omega)); (exact ⟨_, _, h1⟩)); clear hown' hgrow)
            go_roundw
            case rel => exact ⟨k + 1, x.n :: st, by omega, by go_num, Lib.hid (by have := HEE.out; rwa [if_neg q16b] at this), by simpa using h16, by rw [List.reverse_cons, List.map_append, List.length_cons]; have := HO3.out; rw [← HZ.out] at this; exact this, HB3.out⟩
            case measure => simp [intOf]; omega
          · have q16 : decide ((16 : Int) < ((st.length + 1 : Nat) : Int)) = true := decide_eq_true (by omega)
            have q16b : 16 < st.length + 1 := by omega
            clear ho hB hdr hx hkk hzn he h2 c1 c2 hbb
            go_wp2_with (at_builtin; refine wpList_append_own _ rfl _ _ 43 rfl w.heap.size 9 i0 (.string ⟨#[]⟩) 1 16 Tryz.underlying43 hi hz0 hz1 hz2 rfl (by decide) _ _ _ rfl (HO.out.alloc _) ⟨wk.heap.size, 0, none⟩ 1 1 [.string zn] rfl rfl (one_news _ _ _ _ rfl) (by simp [Value.oneCell']) (by unfold maxLen; omega) (by omega) (by have := HB.out.size; simp; omega) ?_; intro v' w3 hown' hgrow hnn; clear hnn; have HB3 := Lib.hid ((HB.out.alloc HB.out.size _).grown hgrow (by have := HB.out.size; simp; omega) (fun q hq => (HO.out.lt q hq).1)); obtain ⟨va, vc, rfl⟩ : ∃ a c, v' = .slice a (st.length + 1) c := (by rcases hown'.2 with ⟨h1, h2⟩ | ⟨g, cap, cur, h1, _⟩; (exact absurd h2 (by omega)); (exact ⟨_, _, h1⟩)); clear hown' hgrow)
            go_ret
            refine ⟨?_, HB3.out⟩
            have := HEE.out
            rw [if_pos q16b] at this
            rw [← this]; try rfl
        · have q2 : (kk == 2) = false := by simpa using h2
          by_cases h3 : kk = 3
          · have q3 : (kk == 3) = true := by simp [h3]
            cases st with
            | nil =>
              rw [nestF_none (by rw [hkk]; exact h3)] at he
              have HEE := Lib.hid he
              have H3 := Lib.hid h3
              clear ho hdr hx hkk hzn he h2 h3 c1 c2 hbb hB
              go_wp2_with fail
              go_quiet (fail)
              go_wp2
              go_ret
              exact ⟨by rw [← HEE.out]; try rfl, HB.out.trans (below_drewN_n _ _ _)⟩
            | cons t st' =>
              rw [nestF_close (by rw [hkk]; exact h3)] at he
              have HEE := Lib.hid he
              have H3 := Lib.hid h3
              obtain ⟨n, hn⟩ : ∃ n, st'.length = n := ⟨_, rfl⟩
              have ho' : wk.ownsRow w.heap.size 9 1 (.slice ra (n + 1) rc) (n + 1) (st'.reverse.map sV ++ [sV t]) := by
                rw [List.reverse_cons, List.map_append, List.length_cons, hn] at ho
                exact ho
              obtain ⟨g, hra, hcap⟩ : ∃ g, ra = some ⟨g, 0, none⟩ ∧ n + 1 ≤ rc := by
                rcases ho'.2 with ⟨h1, h2⟩ | ⟨g, cap, cur, h1, _, _, h4, _⟩
                · omega
                · cases h1; exact ⟨g, rfl, h4⟩
              subst hra
              have hpop := Go.ownsRow_pop (size := 1) (xs := st'.reverse.map sV) (last := [sV t]) (by simp [hn]) ho'
              have hcell := World.ownsRow.cellAt ho' n (by omega)
              rw [List.getElem?_append_right (by simp [hn])] at hcell
              obtain ⟨zt, hzt⟩ : ∃ z, baL t = z := ⟨_, rfl⟩
              replace hcell : wk.cell? ⟨g, n, none⟩ = some (.string zt) := by rw [hcell]; simp [hn, hzt]
              have hst' : st'.length ≤ 16 := by rw [List.length_cons] at hst; omega
              obtain ⟨m, hm⟩ : ∃ m, (t :: st').length = m := ⟨_, rfl⟩
              have hmn : m = n + 1 := by rw [← hm, List.length_cons, hn]
              rw [hm]
              have hm0 : ((m : Int) == 0) = false := by rw [beq_eq_false_iff_ne]; omega
              have hn16 : n ≤ 16 := by omega
              have hw : IntKind.i64.wrap ((m : Int) - 1) = (n : Int) := by rw [show (m : Int) - 1 = (n : Int) by omega]; exact IntWalk.i64_in _ (by omega)
              have n0 : (0 : Int) ≤ (n : Int) := by omega
              have n1 : (n : Int) < (m : Int) := by omega
              have n2 : n ≤ rc := by omega
              have n3 : (n : Int) ≤ (rc : Int) := by omega
              have HPOP := Lib.hid hpop
              have HM := Lib.hid hmn
              have HSN := Lib.hid hn
              have HST' := Lib.hid hst'
              by_cases ht : t = x.n
              · rw [if_pos ht] at he
                have HE2 := Lib.hid he
                have q : (zt.toList == zn.toList) = true := by rw [← hzt, ← hzn, ht, beq_self_eq_true]
                have q' : (zt.toList != zn.toList) = false := by rw [bne, q]; rfl
                clear ho ho' hpop hdr hx hkk hzn hzt he h2 h3 c1 c2 hbb hB hmn hm hn hst hst' ht HO
                go_wp2_with fail
                go_quiet (fail)
                clear hcell d1 d2
                go_wp2
                go_roundw
                case rel => exact ⟨k + 1, st', by omega, by go_num, HE2, HST'.out, by rw [HSN.out]; exact HPOP.out, HB.out.trans (below_drewN_n _ _ _)⟩
                case measure => simp [intOf]; omega
              · rw [if_neg ht] at he
                have HE2 := Lib.hid he
                have q : (zt.toList == zn.toList) = false := by
                  rw [beq_eq_false_iff_ne, ← hzt, ← hzn, baL_toList, baL_toList]; exact ht
                have q' : (zt.toList != zn.toList) = true := by rw [bne, q]; rfl
                clear ho ho' hpop hdr hx hkk hzn hzt he h2 h3 c1 c2 hbb hB hmn hm hn hst hst' ht HO
                go_wp2_with fail
                go_quiet (fail)
                clear hcell d1 d2
                go_wp2
                go_ret
                exact ⟨by rw [← HE2.out]; try rfl, HB.out.trans (below_drewN_n _ _ _)⟩
          · have q3 : (kk == 3) = false := by simpa using h3
            rw [nestF_other (by rw [hkk]; exact h2) (by rw [hkk]; exact h3)] at he
            have HEE := Lib.hid he
            clear ho hdr hx hkk hzn he h2 h3 c1 c2 hbb
            go_wp2
            go_roundw
            case rel => exact ⟨k + 1, st, by omega, by go_num, HEE, hst, HO.out, HB.out⟩
            case measure => simp [intOf]; omega
      · have hkl : L.drop k = [] := List.drop_eq_nil_of_le (by omega)
        have he := HE.out
        rw [hkl] at he
        clear ho hB hkl
        cases st with
        | nil =>
          have hz : (0 : Int) = e := he
          have HEE := Lib.hid hz
          clear he hz
          go_wp2
          go_ret
          exact ⟨by rw [← HEE.out]; try rfl, HB.out⟩
        | cons t st' =>
          have hz : (12 : Int) = e := he
          have HEE := Lib.hid hz
          have hp : decide ((0 : Int) < ((t :: st').length : Int)) = true := decide_eq_true (by simp)
          clear he hz
          go_wp2
          go_ret
          exact ⟨by rw [← HEE.out]; try rfl, HB.out⟩
  · have hn : 1 = e := by
      unfold nestR at hr
      rwa [if_neg hc] at hr
    obtain ⟨f, hf⟩ : ∃ f, chkR L = f := ⟨_, rfl⟩
    have hf0 : (f == 0) = false := by rw [← hf]; simpa using hc
    have hf1 : (f != 0) = true := by rw [← hf]; simpa using hc
    have HCK := Lib.hid (HC L f _ w hf hv hb)
    have HN := Lib.hid hn
    clear hv hb hc hr hf hn
    go_enter Tryz.func42, Tryz.ntmps42
    go_wp2_with fail
    refine HCK.out.mono ?_
    rintro e' w1 ⟨rfl, h1⟩
    have B1 := Lib.hid h1
    clear h1
    go_wp2
    go_ret
    exact ⟨by rw [← HN.out]; try rfl, B1.out⟩
end Go.Proofs.YtmfcepfagbkceaaGreatDoor
