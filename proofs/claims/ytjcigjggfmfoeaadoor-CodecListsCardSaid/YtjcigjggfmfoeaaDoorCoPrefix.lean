/- CodecPrefixes: the law's walk. Written by tools/gen_colaws.py. -/
import Derived.Test.YtjcigjggfmfoeaaDoorCoTwo
import Derived.Test.YtjcigjggfmfoeaaDoorCoNum
namespace Go.Proofs.YtjcigjggfmfoeaaDoor
set_option linter.unusedSimpArgs false
set_option linter.unusedVariables false
set_option maxRecDepth 100000
open Go.RowKit Go.Deep

set_option maxHeartbeats 4000000 in
theorem prefixes_law (a b : Val) (va vb : Value) (P Q : Nat → Prop) (w : World) (hva : VAt w P va a) (hvb : VAt w Q vb b) (hT : Tab w) :
    Calls Tryd.prog 8 #[va, vb] w fun e w' => e = .returned (.bool true) ∧ Below w.heap.size w w' := by
  obtain ⟨so, sc, rfl, _⟩ := hva.agg
  obtain ⟨ro, rc, rfl, _⟩ := hvb.agg
  obtain ⟨w2, hw2⟩ : ∃ X, ((w.alloc (.cells #[intV a.kd, intV a.nm, .string a.tx, .slice so a.its.length sc] 24)).alloc (.cells #[intV b.kd, intV b.nm, .string b.tx, .slice ro b.its.length rc] 24)).alloc (.cells #[intV a.kd, intV a.nm, .string a.tx, .slice so a.its.length sc, intV b.kd, intV b.nm, .string b.tx, .slice ro b.its.length rc] 24) = X := ⟨_, rfl⟩
  obtain ⟨hs2, hXa, hXb, hXr, hb2⟩ := blocks3 w _ _ _ hw2
  have HB2 := Lib.hid hb2
  have HXa2 := Lib.hid hXa
  have HXb2 := Lib.hid hXb
  have HVa2 := Lib.hid (hva.below hb2)
  have HVb2 := Lib.hid (hvb.below hb2)
  have HFINE := Lib.hid (fine_any [a, b] _ _ w2 (lit_two (hva.below hb2) (hvb.below hb2) hXr) (by simp))
  have HW := Lib.hid hw2
  have HT := Lib.hid hT
  clear hva hvb hw2 hs2 hXa hXb hXr hb2 hT
  go_enter Tryd.func8, Tryd.ntmps8
  go_wp2_with fail
  rw [HW.out]
  refine HFINE.out.mono ?_
  rintro e w3 ⟨bf, rfl, hfine, h3⟩
  have HB3 := Lib.hid (below_seq HB2.out h3 HB2.out.size)
  have HXa3 := Lib.hid ((h3.block _ (heap_lt HXa2.out)).trans HXa2.out)
  have HXb3 := Lib.hid ((h3.block _ (heap_lt HXb2.out)).trans HXb2.out)
  have HVa3 := Lib.hid (HVa2.out.below h3)
  have HVb3 := Lib.hid (HVb2.out.below h3)
  have HFV := Lib.hid hfine
  clear h3 hfine HFINE
  cases bf with
  | false =>
    go_wp2_with fail
    refine (awake_any w3 (HT.out.below HB3.out)).mono ?_
    rintro e w4 ⟨rfl, h4⟩
    have HB4 := Lib.hid (below_seq HB3.out h4 HB3.out.size)
    clear h4
    go_wp2_with fail
    go_ret
    exact ⟨rfl, HB4.out⟩
  | true =>
    obtain ⟨hfa, hfb⟩ : FineV a ∧ FineV b := ⟨HFV.out rfl a (by simp), HFV.out rfl b (by simp)⟩
    have hla := fine_len HVa3.out hfa
    have hlb := fine_len HVb3.out hfb
    obtain ⟨st, hst⟩ : ∃ st : ByteArray, st = ⟨(enc a).toArray⟩ := ⟨_, rfl⟩
    obtain ⟨tt, htt⟩ : ∃ tt : ByteArray, tt = ⟨(enc b).toArray⟩ := ⟨_, rfl⟩
    have hsl : st.data.toList = enc a := by rw [hst]
    have htl : tt.data.toList = enc b := by rw [htt]
    have hss : st.size ≤ 3840 := by rw [← size_list, hsl]; exact hla
    have hts : tt.size ≤ 3840 := by rw [← size_list, htl]; exact hlb
    obtain ⟨q, hq⟩ : ∃ q, (enc a == enc b) = q := ⟨_, rfl⟩
    have hqs : (st.toList == tt.toList) = q := by rw [ByteArray.toList_eq, ByteArray.toList_eq, hsl, htl, hq]
    have HFIT := Lib.hid (And.intro (fit_of HVa3.out hfa.2) (fit_of HVb3.out hfb.2))
    have HFF := Lib.hid (And.intro hfa hfb)
    have HQ := Lib.hid hq
    have HSL := Lib.hid (And.intro hsl htl)
    have HEA := Lib.hid (encode_at a _ _ w3 HVa3.out (by have := (fine_small hfa).1; omega) (by omega) (HT.out.below HB3.out) 0 hfa.2 st (by rw [if_pos rfl, hst]))
    have HTT := Lib.hid htt
    clear hfa hfb hla hlb hst hsl htl htt hq
    obtain ⟨c0, c1, c2, c3⟩ := heap4 HXa3.out
    go_wp2_with fail
    refine (HEA.out).mono ?_
    rintro e w4 ⟨rfl, h4⟩
    have HB4 := Lib.hid (below_seq HB3.out h4 HB3.out.size)
    have HXa4 := Lib.hid ((h4.block _ (heap_lt HXa3.out)).trans HXa3.out)
    have HXb4 := Lib.hid ((h4.block _ (heap_lt HXb3.out)).trans HXb3.out)
    have HVa4 := Lib.hid (HVa3.out.below h4)
    have HVb4 := Lib.hid (HVb3.out.below h4)
    clear h4
    clear c0 c1 c2 c3 HEA
    have HEB := Lib.hid (encode_at b _ _ w4 HVb4.out (by have := (fine_small HFF.out.2).1; omega) (by rw [← HSL.out.2, size_list]; omega) (HT.out.below HB4.out) 0 HFF.out.2.2 tt (by rw [if_pos rfl, HTT.out]))
    obtain ⟨e0, e1, e2, e3⟩ := heap4 HXb4.out
    go_wp2_with fail
    refine (HEB.out).mono ?_
    rintro e w5 ⟨rfl, h5⟩
    have HB5 := Lib.hid (below_seq HB4.out h5 HB4.out.size)
    have HXa5 := Lib.hid ((h5.block _ (heap_lt HXa4.out)).trans HXa4.out)
    have HXb5 := Lib.hid ((h5.block _ (heap_lt HXb4.out)).trans HXb4.out)
    have HVa5 := Lib.hid (HVa4.out.below h5)
    have HVb5 := Lib.hid (HVb4.out.below h5)
    clear h5
    clear e0 e1 e2 e3 HEB
    have HDEC := Lib.hid (decode_any (st ++ tt) (.inl (by rw [← size_list, add_string, List.length_append, size_list, size_list]; omega)) w5 (HT.out.below HB5.out) mkZ 3 (by rw [add_string, HSL.out.1, HSL.out.2]; exact dec_two HFIT.out.1 (by rw [← HSL.out.1, ← HSL.out.2, size_list, size_list]; omega)))
    go_wp2_with fail
    refine HDEC.out.mono ?_
    rintro e w6 ⟨yo, yc, P5, rfl, _, h6⟩
    obtain ⟨w7, hw7⟩ : ∃ X, w6.alloc (.cells #[intV mkZ.kd, intV mkZ.nm, .string mkZ.tx, .slice yo mkZ.its.length yc] 24) = X := ⟨_, rfl⟩
    have hb7 : Below w6.heap.size w6 w7 := by rw [← hw7]; exact below_box0 w6 _
    have h7 := below_seq h6 hb7 h6.size
    have HB7 := Lib.hid (below_seq HB5.out h7 HB5.out.size)
    have HW7 := Lib.hid hw7
    clear hw7 hb7 h7 h6 HDEC
    go_upto_region 6 with fail
    rw [HW7.out]
    go_wp2_with fail
    refine (Tryd.strings_HasPrefix tt st w7).mono ?_
    rintro e w8 ⟨rfl, rfl⟩
    rw [HSL.out.1, HSL.out.2, prefix_enc HFIT.out.1 HFIT.out.2, HQ.out]
    go_wp2_with fail
    refine (awake_any w8 (HT.out.below HB7.out)).mono ?_
    rintro e w9 ⟨rfl, h9⟩
    have HB9 := Lib.hid (below_seq HB7.out h9 HB7.out.size)
    clear h9
    go_wp2_with fail
    go_ret
    exact ⟨rfl, HB9.out⟩
end Go.Proofs.YtjcigjggfmfoeaaDoor
