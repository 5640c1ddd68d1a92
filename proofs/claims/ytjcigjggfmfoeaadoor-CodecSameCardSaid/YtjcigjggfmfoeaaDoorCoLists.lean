/- CodecLists: the law's walk. Written by tools/gen_colists.py. -/
import Derived.Test.YtjcigjggfmfoeaaDoorCoTwo
import Derived.Test.YtjcigjggfmfoeaaDoorCoNum
namespace Go.Proofs.YtjcigjggfmfoeaaDoor
set_option linter.unusedSimpArgs false
set_option linter.unusedVariables false
set_option maxRecDepth 100000
open Go.RowKit Go.Deep

theorem encs_take {l : List Val} {j : Nat} (h : j < l.length) : encs (l.take (j + 1)) = encs (l.take j) ++ enc l[j] := by
  rw [List.take_succ_eq_append_getElem h, encs_append, encs, encs, List.append_nil]
theorem tots_fine {l : List Val} (h : ∀ x ∈ l, tot x ≤ 60) : tots l ≤ 60 * l.length := by
  induction l with
  | nil => simp [tots]
  | cons x l ih =>
    have h1 := h x (by simp)
    have h2 := ih (fun y hy => h y (by simp [hy]))
    rw [tots, List.length_cons]; omega
theorem encs_fine {l : List Val} (h : ∀ x ∈ l, (enc x).length ≤ 3840) : (encs l).length ≤ 3840 * l.length := by
  induction l with
  | nil => simp [encs]
  | cons x l ih =>
    have h1 := h x (by simp)
    have h2 := ih (fun y hy => h y (by simp [hy]))
    rw [encs, List.length_append, List.length_cons]; omega
theorem alls_fine {l : List Val} (h : ∀ x ∈ l, allV x = 0) : allsV l = 0 := by
  induction l with
  | nil => rw [allsV]
  | cons x l ih =>
    rw [allsV, if_pos (h x (by simp))]
    exact ih (fun y hy => h y (by simp [hy]))
theorem chk_list {l : List Val} (hl : l.length ≤ 6) (h : ∀ x ∈ l, chk x = 0) : chk (mkL l) = 0 ∨ chk (mkL l) = 4 := by
  unfold chk
  split
  · left
    have hs : single 3 0 ByteArray.empty l.length = 0 := by
      have ho : oneKind 3 0 ByteArray.empty l.length = true := by
        unfold oneKind
        rw [if_neg (show ¬ (3 : Int) = 1 by decide), if_neg (show ¬ (3 : Int) = 2 by decide), if_pos rfl]
        rfl
      have hz : ByteArray.empty.size = 0 := rfl
      unfold single
      rw [if_pos ho, if_neg (by omega)]
    show allV (.mk 3 0 ByteArray.empty l) = 0
    rw [allV, if_pos hs]
    exact alls_fine fun x hx => (chk_zero (h x hx)).2
  · exact .inr rfl
theorem vs_get {W : World} {P : Nat → Prop} {v : Value} {l : List Val} (h : VsAt W P v l) : ∀ x ∈ l, ∃ u, VAt W P u x := fun x hx => by
  obtain ⟨a, c, rfl, _⟩ := id h
  obtain ⟨j, hj, rfl⟩ := List.getElem_of_mem hx
  obtain ⟨_, _, _, _, _, _, _, _, _, _, _, hv⟩ := h.elem' hj
  exact ⟨_, hv⟩
set_option maxHeartbeats 4000000 in
theorem lists_law (l : List Val) (v : Value) (P : Nat → Prop) (w : World) (hv : VsAt w P v l) (hT : Tab w) :
    Calls Tryd.prog 7 #[v] w fun e w' => e = .returned (.bool true) ∧ Below w.heap.size w w' := by
  have HT := Lib.hid hT
  have HB0 := Lib.hid (Below.refl w.heap.size w)
  have HVS := Lib.hid hv
  obtain ⟨a, c, rfl, _⟩ := hv
  clear hT
  by_cases hbig : 6 < l.length
  · have hb : decide ((6 : Int) < l.length) = true := by simp; omega
    have hb1 : (6 : Int) < l.length := by omega
    go_enter Tryd.func7, Tryd.ntmps7
    go_wp2_with fail
    refine (awake_any w (HT.out.below HB0.out)).mono ?_
    rintro e w1 ⟨rfl, h1⟩
    have HB1 := Lib.hid (below_seq HB0.out h1 HB0.out.size)
    clear h1
    go_wp2_with fail
    go_ret
    exact ⟨rfl, HB1.out⟩
  have hb : decide ((6 : Int) < l.length) = false := by simp; omega
  have hb1 : (l.length : Int) ≤ 6 := by omega
  have HFINE := Lib.hid (fine_any l _ _ w HVS.out (by omega))
  clear hbig
  go_enter Tryd.func7, Tryd.ntmps7
  go_wp2_with fail
  refine HFINE.out.mono ?_
  rintro e w1 ⟨bf, rfl, hfine, h1⟩
  have HB1 := Lib.hid h1
  have HFV := Lib.hid hfine
  clear h1 hfine HFINE
  cases bf with
  | false =>
    go_wp2_with fail
    refine (awake_any w1 (HT.out.below HB1.out)).mono ?_
    rintro e w2 ⟨rfl, h2⟩
    have HB2 := Lib.hid (below_seq HB1.out h2 HB1.out.size)
    clear h2
    go_wp2_with fail
    go_ret
    exact ⟨rfl, HB2.out⟩
  | true =>
    have hfine : ∀ x ∈ l, FineV x := HFV.out rfl
    have htot : tots l ≤ 60 * l.length := tots_fine fun x hx => (fine_small (hfine x hx)).1
    have hel : ∀ x ∈ l, (enc x).length ≤ 3840 := fun x hx => by
      obtain ⟨u, hu⟩ := vs_get HVS.out x hx
      exact fine_len hu (hfine x hx)
    have hencs := encs_fine hel
    have HFI := Lib.hid (And.intro hfine (And.intro htot (And.intro hel hencs)))
    have HLST := Lib.hid (list_any l _ _ (fun _ => True) w1 (HVS.out.below HB1.out) (by omega) (fun _ _ _ => trivial) (fun _ _ => trivial))
    clear hfine htot hel hencs
    go_wp2_with fail
    refine HLST.out.mono ?_
    rintro e w2 ⟨u, rfl, hu, h2⟩
    obtain ⟨uo, uc, rfl, _⟩ := id hu
    obtain ⟨w3, hw3⟩ : ∃ X, w2.alloc (.cells #[.int .i64 3, .int .i64 0, .string ⟨#[]⟩, .slice uo l.length uc] 24) = X := ⟨_, rfl⟩
    have hb3 : Below w2.heap.size w2 w3 := by rw [← hw3]; exact below_box0 w2 _
    have h3 := below_seq h2 hb3 h2.size
    have HB3 := Lib.hid (below_seq HB1.out h3 HB1.out.size)
    have HXv3 := Lib.hid (show w3.heap[w2.heap.size]? = some (.cells #[intV (mkL l).kd, intV (mkL l).nm, .string (mkL l).tx, .slice uo (mkL l).its.length uc] 24 (0, 0)) by rw [← hw3]; exact heap_alloc_new _ _)
    have HVv3 := Lib.hid (show VAt w3 (fun _ => True) (.agg #[intV (mkL l).kd, intV (mkL l).nm, .string (mkL l).tx, .slice uo (mkL l).its.length uc]) (mkL l) from vat_list (by omega) (hu.below hb3))
    have HW3 := Lib.hid hw3
    clear hw3 hb3 h2 h3 hu HLST
    go_upto_region 4 with fail
    rw [HW3.out]
    go_wp2_with fail
    go_loopw [4, 5, 29] (fun v4 v5 i wr => ∃ (j sz : Nat) (st : ByteArray), j ≤ l.length ∧ i = .int .i64 j ∧ v4 = .string st ∧ v5 = .int .i64 sz ∧ Hid (st.data.toList = 108 :: encs (l.take j) ∧ sz = 1 + cnts (l.take j)) ∧ sz ≤ 1 + 60 * l.length ∧ st.size ≤ 1 + 3840 * l.length ∧ Below w3.heap.size w3 wr) (fun _ _ i _ => l.length - (intOf i).toNat)
    case atStart => exact ⟨0, 1, ⟨#[108]⟩, Nat.zero_le _, rfl, rfl, rfl, Lib.hid ⟨by simp [encs], by simp [cnts]⟩, by omega, by show 1 ≤ _; omega, Below.refl _ _⟩
    case round =>
      obtain ⟨j, sz, st, hj, rfl, rfl, rfl, HST, hsz, hss, hB⟩ := hrel
      obtain ⟨wk, rfl⟩ : ∃ x, x = wr := ⟨_, rfl⟩
      have HBK := Lib.hid hB
      have HBw := Lib.hid (below_seq HB3.out hB HB3.out.size)
      clear hB
      by_cases hlt : j < l.length
      · obtain ⟨b, off, sa, sb, rfl, _, hb, q0, q1, q2, q3, hx⟩ := (HVS.out.below HBw.out).elem' hlt
        obtain ⟨wm, hwm⟩ : ∃ X, wk.alloc (.cells #[intV l[j].kd, intV l[j].nm, .string l[j].tx, .slice sa l[j].its.length sb] 24) = X := ⟨_, rfl⟩
        have hbm : Below wk.heap.size wk wm := by rw [← hwm]; exact below_box0 wk _
        have HXe4 := Lib.hid (show wm.heap[wk.heap.size]? = some (.cells #[intV l[j].kd, intV l[j].nm, .string l[j].tx, .slice sa l[j].its.length sb] 24 (0, 0)) by rw [← hwm]; exact heap_alloc_new _ _)
        have HVe4 := Lib.hid (hx.below hbm)
        have HB4 := Lib.hid (below_seq HBw.out hbm HBw.out.size)
        have HK4 := Lib.hid (below_seq HBK.out hbm HBK.out.size)
        have HWM := Lib.hid hwm
        clear hwm hbm hx
        go_upto_region 8 with fail
        rw [HWM.out]
        obtain ⟨c0, c1, c2, c3⟩ := heap4 HXe4.out
        have hmem : l[j] ∈ l := List.getElem_mem hlt
        obtain ⟨et, het⟩ : ∃ et : ByteArray, et = ⟨(enc l[j]).toArray⟩ := ⟨_, rfl⟩
        have hel : et.data.toList = enc l[j] := by rw [het]
        have hes : et.size ≤ 3840 := by rw [← size_list, hel]; exact HFI.out.2.2.1 _ hmem
        obtain ⟨cn, hcn⟩ : ∃ cn, cnt l[j] = cn := ⟨_, rfl⟩
        have hcb : cn ≤ 60 := by rw [← hcn]; have := cnt_le.1 l[j]; have := (fine_small (HFI.out.1 _ hmem)).1; omega
        have hnt := tots_le_take l (j + 1)
        have hct := cnts_take hlt
        have hcl := cnt_le.2 (l.take (j + 1))
        have htt := HFI.out.2.1
        have hsz2 : sz + cn ≤ 1 + 60 * l.length := by rw [HST.out.2, ← hcn]; omega
        have hen := encs_fine (l := l.take (j + 1)) (fun x hx => HFI.out.2.2.1 x (List.mem_of_mem_take hx))
        have hss2 : st.size + et.size ≤ 1 + 3840 * l.length := by
          rw [encs_take hlt, List.length_append, ← hel, size_list, List.length_take] at hen
          rw [← size_list st, HST.out.1, List.length_cons]
          have : min (j + 1) l.length ≤ l.length := Nat.min_le_right _ _
          omega
        clear hnt hct hcl htt hen
        have HEA := Lib.hid (encode_at l[j] _ _ wm HVe4.out (by have := (fine_small (HFI.out.1 _ hmem)).1; omega) (by have := HFI.out.2.2.1 _ hmem; omega) (HT.out.below HB4.out) 0 (HFI.out.1 _ hmem).2 et (by rw [if_pos rfl, het]))
        have HCN := Lib.hid hcn
        have HEL := Lib.hid hel
        clear het hel hcn
        go_wp2_with fail
        refine (HEA.out).mono ?_
        rintro e w5 ⟨rfl, h5⟩
        have HB5 := Lib.hid (below_seq HB4.out h5 HB4.out.size)
        have HXe5 := Lib.hid ((h5.block _ (heap_lt HXe4.out)).trans HXe4.out)
        have HVe5 := Lib.hid (HVe4.out.below h5)
        have HK5 := Lib.hid (below_seq HK4.out h5 HK4.out.size)
        clear h5 c0 c1 c2 c3 HEA q0 q1 q2 q3
        obtain ⟨c0, c1, c2, c3⟩ := heap4 HXe5.out
        have HSZ := Lib.hid (size_at l[j] _ _ w5 HVe5.out (by have := (fine_small (HFI.out.1 _ hmem)).1; omega) cn 0 (HFI.out.1 _ hmem).2 (by rw [if_pos (HFI.out.1 _ hmem).2, HCN.out]))
        go_wp2_with fail
        refine (HSZ.out).mono ?_
        rintro e w6 ⟨rfl, h6⟩
        have HB6 := Lib.hid (below_seq HB5.out h6 HB5.out.size)
        have HK6 := Lib.hid (below_seq HK5.out h6 HK5.out.size)
        clear h6 c0 c1 c2 c3 HSZ
        go_wp2_with fail
        refine ⟨⟨j + 1, sz + cn, st ++ et, by omega, by go_num, rfl, by go_num, Lib.hid ⟨?_, ?_⟩, by omega, ?_, HK6.out⟩, by simp [intOf]; omega⟩
        · rw [add_string, HST.out.1, HEL.out, encs_take hlt]; rfl
        · rw [HST.out.2, cnts_take hlt, HCN.out]; omega
        · rw [← size_list, add_string, List.length_append, size_list, size_list]; exact hss2
      · obtain rfl : j = l.length := by omega
        rw [List.take_length] at HST
        have HXv4 := Lib.hid ((HBK.out.block _ (heap_lt HXv3.out)).trans HXv3.out)
        have HVv4 := Lib.hid (HVv3.out.below HBK.out)
        obtain ⟨c0, c1, c2, c3⟩ := heap4 HXv4.out
        have htm : tot (mkL l) ≤ 65536 := by
          show tot (.mk 3 0 ByteArray.empty l) ≤ _
          rw [tot]; have := HFI.out.2.1; omega
        have hem : enc (mkL l) = 108 :: (encs l ++ [101]) := rfl
        have hel : (enc (mkL l)).length ≤ 1048576 := by rw [hem]; have := HFI.out.2.2.2; simp only [List.length_cons, List.length_append, List.length_nil]; omega
        have hcm : cnt (mkL l) = sz := by rw [HST.out.2]; show cnt (.mk 3 0 ByteArray.empty l) = _; rw [cnt, if_pos rfl]
        obtain ⟨r, hr⟩ : ∃ r, chk (mkL l) = r := ⟨_, rfl⟩
        have hr4 : r = 0 ∨ r = 4 := by rw [← hr]; exact chk_list (by omega) fun x hx => (HFI.out.1 x hx).2
        have HH := Lib.hid (And.intro htm (And.intro hem (And.intro hel (And.intro hcm hr))))
        clear htm hem hel hcm hr
        have HB4 := Lib.hid HBw.out
        rcases hr4 with rfl | rfl
        · obtain ⟨et, het⟩ : ∃ et : ByteArray, et = ⟨(enc (mkL l)).toArray⟩ := ⟨_, rfl⟩
          have HET := Lib.hid (show et.data.toList = enc (mkL l) by rw [het])
          have HEA := Lib.hid (encode_at (mkL l) _ _ wk HVv4.out HH.out.1 HH.out.2.2.1 (HT.out.below HB4.out) 0 HH.out.2.2.2.2 et (by rw [if_pos rfl, het]))
          have hes : (et.toList == (st ++ ⟨#[101]⟩).toList) = true := by
            rw [ByteArray.toList_eq, ByteArray.toList_eq, HET.out, HH.out.2.1, add_string, HST.out.1]; simp
          clear het
          go_wp2_with fail
          refine (HEA.out).mono ?_
          rintro e w5 ⟨rfl, h5⟩
          have HB5 := Lib.hid (below_seq HB4.out h5 HB4.out.size)
          have HXv5 := Lib.hid ((h5.block _ (heap_lt HXv4.out)).trans HXv4.out)
          have HVv5 := Lib.hid (HVv4.out.below h5)
          clear h5
          clear c0 c1 c2 c3 HEA
          obtain ⟨c0, c1, c2, c3⟩ := heap4 HXv5.out
          have HSZ := Lib.hid (size_at (mkL l) _ _ w5 HVv5.out HH.out.1 sz 0 HH.out.2.2.2.2 (by rw [if_pos HH.out.2.2.2.2, HH.out.2.2.2.1]))
          go_wp2_with fail
          refine (HSZ.out).mono ?_
          rintro e w6 ⟨rfl, h6⟩
          have HB6 := Lib.hid (below_seq HB5.out h6 HB5.out.size)
          clear h6
          clear c0 c1 c2 c3 HSZ
          go_wp2_with fail
          refine (awake_any w6 (HT.out.below HB6.out)).mono ?_
          rintro e w7 ⟨rfl, h7⟩
          have HB7 := Lib.hid (below_seq HB6.out h7 HB6.out.size)
          clear h7
          go_wp2_with fail
          go_ret
          exact ⟨rfl, HB7.out⟩
        · have HEA := Lib.hid (encode_at (mkL l) _ _ wk HVv4.out HH.out.1 HH.out.2.2.1 (HT.out.below HB4.out) 4 HH.out.2.2.2.2 ⟨#[]⟩ (by rw [if_neg (by decide)]))
          go_wp2_with fail
          refine (HEA.out).mono ?_
          rintro e w5 ⟨rfl, h5⟩
          have HB5 := Lib.hid (below_seq HB4.out h5 HB4.out.size)
          have HXv5 := Lib.hid ((h5.block _ (heap_lt HXv4.out)).trans HXv4.out)
          have HVv5 := Lib.hid (HVv4.out.below h5)
          clear h5
          clear c0 c1 c2 c3 HEA
          obtain ⟨c0, c1, c2, c3⟩ := heap4 HXv5.out
          have HSZ := Lib.hid (size_at (mkL l) _ _ w5 HVv5.out HH.out.1 0 4 HH.out.2.2.2.2 (by rw [if_neg (by rw [HH.out.2.2.2.2]; decide)]))
          go_wp2_with fail
          refine (HSZ.out).mono ?_
          rintro e w6 ⟨rfl, h6⟩
          have HB6 := Lib.hid (below_seq HB5.out h6 HB5.out.size)
          clear h6
          clear c0 c1 c2 c3 HSZ
          go_wp2_with fail
          refine (awake_any w6 (HT.out.below HB6.out)).mono ?_
          rintro e w7 ⟨rfl, h7⟩
          have HB7 := Lib.hid (below_seq HB6.out h7 HB6.out.size)
          clear h7
          go_wp2_with fail
          go_ret
          exact ⟨rfl, HB7.out⟩
end Go.Proofs.YtjcigjggfmfoeaaDoor
