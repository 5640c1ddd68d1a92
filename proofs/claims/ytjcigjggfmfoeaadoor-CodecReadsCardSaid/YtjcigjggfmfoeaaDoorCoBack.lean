/- CodecBack: the law's walk. -/
import Derived.Test.YtjcigjggfmfoeaaDoorCoAwake
namespace Go.Proofs.YtjcigjggfmfoeaaDoor
set_option linter.unusedSimpArgs false
set_option linter.unusedVariables false
set_option maxRecDepth 100000
open Go.RowKit Go.Deep

theorem vat_or {W : World} {P : Nat → Prop} {v : Value} {x : Val} (h : VAt W P v x) : VAt W (fun _ => True) v x := (vat_mono (fun _ _ _ => trivial)).1 x v h
/-- a literal of one value -/
theorem lit_one {W W' : World} {P : Nat → Prop} {x : Val} {so : Option Addr} {sc : Nat} (h : VAt W P (.agg #[intV x.kd, intV x.nm, .string x.tx, .slice so x.its.length sc]) x)
    (hW : W.alloc (.cells #[intV x.kd, intV x.nm, .string x.tx, .slice so x.its.length sc] 24) = W') : VsAt W' (fun _ => True) (.slice (some ⟨W.heap.size, 0, none⟩) 1 1) [x] := by
  have hb : Below W.heap.size W W' := by rw [← hW]; exact below_box0 W _
  have hx := heap_alloc_new W (.cells #[intV x.kd, intV x.nm, .string x.tx, .slice so x.its.length sc] 24)
  rw [hW] at hx
  obtain ⟨c0, c1, c2, c3⟩ := heap4 hx
  refine ⟨some ⟨W.heap.size, 0, none⟩, 1, rfl, fun _ => ⟨W.heap.size, 0, rfl, trivial, heap_lt hx, ?_⟩⟩
  rw [ItsAt]
  exact ⟨⟨_, c0, c1, c2, c3, vat_or (h.below hb)⟩, by rw [ItsAt]; trivial⟩
set_option maxHeartbeats 4000000 in
theorem back_law (x : Val) (v : Value) (P : Nat → Prop) (w : World) (hv : VAt w P v x) (hT : Tab w) :
    Calls Tryd.prog 5 #[v] w fun e w' => e = .returned (.bool true) ∧ Below w.heap.size w w' := by
  obtain ⟨so, sc, rfl, _⟩ := hv.agg
  obtain ⟨w1, hw1⟩ : ∃ X, w.alloc (.cells #[intV x.kd, intV x.nm, .string x.tx, .slice so x.its.length sc] 24) = X := ⟨_, rfl⟩
  obtain ⟨w2, hw2⟩ : ∃ X, w1.alloc (.cells #[intV x.kd, intV x.nm, .string x.tx, .slice so x.its.length sc] 24) = X := ⟨_, rfl⟩
  have hb1 : Below w.heap.size w w1 := by rw [← hw1]; exact below_box0 w _
  have hb2 : Below w1.heap.size w1 w2 := by rw [← hw2]; exact below_box0 w1 _
  have hx1 := heap_alloc_new w (.cells #[intV x.kd, intV x.nm, .string x.tx, .slice so x.its.length sc] 24)
  rw [hw1] at hx1
  have HB2 := Lib.hid (below_seq hb1 hb2 hb1.size)
  have HX2 := Lib.hid ((hb2.block _ (heap_lt hx1)).trans hx1)
  have hs1 : w1.heap.size = w.heap.size + 1 := by rw [← hw1]; simp
  have HLIT := Lib.hid (lit_one (hv.below hb1) hw2)
  have HV2 := Lib.hid ((hv.below hb1).below hb2)
  have hw12 : (w.alloc (.cells #[intV x.kd, intV x.nm, .string x.tx, .slice so x.its.length sc] 24)).alloc (.cells #[intV x.kd, intV x.nm, .string x.tx, .slice so x.its.length sc] 24) = w2 := by rw [hw1, hw2]
  have HW := Lib.hid hw12
  have HT := Lib.hid hT
  rw [hs1] at HLIT
  have HFINE := Lib.hid (fine_any [x] _ _ w2 HLIT.out (by simp))
  clear hv hw1 hw2 hb1 hb2 hx1 hT hw12 hs1
  go_enter Tryd.func5, Tryd.ntmps5
  go_wp2_with fail
  rw [HW.out]
  refine HFINE.out.mono ?_
  rintro e w3 ⟨b, rfl, hfine, h3⟩
  have HB3 := Lib.hid (below_seq HB2.out h3 HB2.out.size)
  have HX3 := Lib.hid ((h3.block _ (heap_lt HX2.out)).trans HX2.out)
  have HV3 := Lib.hid (HV2.out.below h3)
  have HFV := Lib.hid hfine
  clear h3 hfine HFINE
  cases b with
  | false =>
    go_wp2_with fail
    refine (awake_any w3 (HT.out.below HB3.out)).mono ?_
    rintro e w4 ⟨rfl, h4⟩
    have HB4 := Lib.hid (below_seq HB3.out h4 HB3.out.size)
    clear h4
    go_wp2_with fail
    go_ret
    exact ⟨rfl, HB4.out⟩
  | true =>
    have hf : FineV x := HFV.out rfl x (by simp)
    have hsm := fine_small hf
    have hln := fine_len HV3.out hf
    have hfit := fit_of HV3.out hf.2
    obtain ⟨st, hst⟩ : ∃ st : ByteArray, st = ⟨(enc x).toArray⟩ := ⟨_, rfl⟩
    have hsl : st.data.toList = enc x := by rw [hst]
    obtain ⟨c0, c1, c2, c3⟩ := heap4 HX3.out
    have HENC := Lib.hid (encode_at x _ _ w3 HV3.out (by omega) (by omega) (HT.out.below HB3.out) 0 hf.2 st (by rw [if_pos rfl, hst]))
    have HF := Lib.hid hf
    have HSL := Lib.hid hsl
    have HLN := Lib.hid (And.intro hsm (And.intro hln hfit))
    clear hf hsm hln hfit hst hsl
    go_wp2_with fail
    refine HENC.out.mono ?_
    rintro e w4 ⟨rfl, h4⟩
    have HB4 := Lib.hid (below_seq HB3.out h4 HB3.out.size)
    have HX4 := Lib.hid ((h4.block _ (heap_lt HX3.out)).trans HX3.out)
    have HV4 := Lib.hid (HV3.out.below h4)
    have HDEC := Lib.hid (decode_any st (.inl (by rw [← size_list, HSL.out]; have := HLN.out.2.1; omega)) w4 (HT.out.below HB4.out) x 0 (by rw [HSL.out]; exact dec_enc HLN.out.2.2 HF.out.2 (by have := HLN.out.2.1; omega)))
    clear h4 c0 c1 c2 c3 HENC
    go_wp2_with fail
    refine HDEC.out.mono ?_
    rintro e w5 ⟨yo, yc, P5, rfl, hv5, h5⟩
    obtain ⟨w6, hw6⟩ : ∃ X, w5.alloc (.cells #[intV x.kd, intV x.nm, .string x.tx, .slice yo x.its.length yc] 24) = X := ⟨_, rfl⟩
    have hb6 : Below w5.heap.size w5 w6 := by rw [← hw6]; exact below_box0 w5 _
    have h6 := below_seq h5 hb6 h5.size
    have HB6 := Lib.hid (below_seq HB4.out h6 HB4.out.size)
    have HX6 := Lib.hid ((h6.block _ (heap_lt HX4.out)).trans HX4.out)
    have HV6 := Lib.hid (HV4.out.below h6)
    have HY6 := Lib.hid (show w6.heap[w5.heap.size]? = some (.cells #[intV x.kd, intV x.nm, .string x.tx, .slice yo x.its.length yc] 24 (0, 0)) by rw [← hw6]; exact heap_alloc_new _ _)
    have HU6 := Lib.hid (hv5.below hb6)
    have HW6 := Lib.hid hw6
    clear hw6 hb6 h5 h6 hv5 HDEC
    go_upto_region 5 with fail
    rw [HW6.out]
    obtain ⟨c0, c1, c2, c3⟩ := heap4 HX6.out
    obtain ⟨e0, e1, e2, e3⟩ := heap4 HY6.out
    go_wp2_with fail
    refine (refSame_at x x _ _ _ _ w6 HV6.out HU6.out true (same_refl.1 x)).mono ?_
    rintro e w7 ⟨rfl, h7⟩
    have HB7 := Lib.hid (below_seq HB6.out h7 HB6.out.size)
    have HX7 := Lib.hid ((h7.block _ (heap_lt HX6.out)).trans HX6.out)
    have HV7 := Lib.hid (HV6.out.below h7)
    have HY7 := Lib.hid ((h7.block _ (heap_lt HY6.out)).trans HY6.out)
    have HU7 := Lib.hid (HU6.out.below h7)
    clear h7 c0 c1 c2 c3 e0 e1 e2 e3
    obtain ⟨c0, c1, c2, c3⟩ := heap4 HX7.out
    obtain ⟨e0, e1, e2, e3⟩ := heap4 HY7.out
    go_wp2_with fail
    refine (same_at x x _ _ _ _ w7 HV7.out HU7.out true (same_refl.1 x)).mono ?_
    rintro e w8 ⟨rfl, h8⟩
    have HB8 := Lib.hid (below_seq HB7.out h8 HB7.out.size)
    have HX8 := Lib.hid ((h8.block _ (heap_lt HX7.out)).trans HX7.out)
    have HV8 := Lib.hid (HV7.out.below h8)
    clear h8 c0 c1 c2 c3 e0 e1 e2 e3
    obtain ⟨c0, c1, c2, c3⟩ := heap4 HX8.out
    go_wp2_with fail
    refine (check_at x _ _ w8 HV8.out (by have := HLN.out.1; omega) 0 HF.out.2).mono ?_
    rintro e w9 ⟨rfl, h9⟩
    have HB9 := Lib.hid (below_seq HB8.out h9 HB8.out.size)
    clear h9 c0 c1 c2 c3
    go_wp2_with fail
    refine (awake_any w9 (HT.out.below HB9.out)).mono ?_
    rintro e w10 ⟨rfl, h10⟩
    have HB10 := Lib.hid (below_seq HB9.out h10 HB9.out.size)
    clear h10
    go_wp2_with fail
    go_ret
    exact ⟨rfl, HB10.out⟩
end Go.Proofs.YtjcigjggfmfoeaaDoor
