/- The reference's Filter. -/
import Derived.Test.YtjjdihkjkmhjnaaGlRefM
namespace Go.Proofs.Ytjjdihkjkmhjnaa
set_option linter.unusedSimpArgs false
set_option linter.unusedVariables false
set_option maxRecDepth 100000
open Go.RowKit Go.Deep

set_option maxHeartbeats 4000000 in
theorem refFilter_at (p : ByteArray) (xs : List ByteArray) (v : Value) (out : List ByteArray) (r : Int) (w : World) (hv : StrsAt w v xs) (hxl : xs.length ≤ 9223372036854775807) (h : filterR p.data.toList xs = (out, r)) :
    Calls Try.prog 25 #[.string p, v] w (FiltPost out r w) := by
  obtain ⟨i0, hi, hz0, hz1, hz2⟩ := info_parts info_str
  unfold filterR at h
  obtain ⟨e0, he0⟩ : ∃ e0, chk p.data.toList = e0 := ⟨_, rfl⟩
  rw [he0] at h
  have HCK := Lib.hid (refCheck_at p e0 he0 w)
  obtain ⟨va, vc, rfl⟩ := hv.slice
  have HV := Lib.hid hv
  clear hv
  by_cases h0 : e0 = 0
  · have hb0 : (e0 != 0) = false := by simpa using h0
    rw [if_neg (by simpa using h0)] at h
    by_cases hbig : 4096 < xs.length
    · rw [if_pos hbig] at h
      simp only [Prod.mk.injEq] at h
      obtain ⟨rfl, rfl⟩ := h
      have q : decide ((4096 : Int) < xs.length) = true := decide_eq_true (by omega)
      clear h0 he0
      go_enter Try.func25, Try.ntmps25
      go_wp2_with fail
      refine HCK.out.mono ?_
      rintro e w1 ⟨rfl, rfl⟩
      go_wp2_with fail
      refine bodyPost_ret (v := .tuple #[.slice none 0 0, intV 4]) (by simp [results, Try.results25, go_sem]) rfl ⟨_, rfl, StrsAt.nil _, Below.refl _ _⟩
    rw [if_neg hbig] at h
    have q : decide ((4096 : Int) < xs.length) = false := decide_eq_false (by omega)
    have HE := Lib.hid (he0.trans h0)
    have HH := Lib.hid h
    have hxb : xs.length ≤ 4096 := by omega
    clear h h0 he0 hbig
    go_enter Try.func25, Try.ntmps25
    go_wp2_with fail
    refine HCK.out.mono ?_
    rintro e w1 ⟨rfl, rfl⟩
    go_wp2_with fail
    go_loopw [6, 7] (fun v6 v7 wr => ∃ (k : Nat) (d : List ByteArray), k ≤ xs.length ∧ v7 = .int .i64 k ∧ d.length ≤ k ∧ Hid (firstE (xs.take k) = 0 ∧ d = (xs.take k).filter fun x => matB (par p.data.toList).2 x.data.toList) ∧ wr.ownsRow w.heap.size 9 1 v6 d.length (d.map Value.string) ∧ Below w.heap.size w wr) (fun _ v7 _ => xs.length - (intOf v7).toNat)
    case atStart => exact ⟨0, [], Nat.zero_le _, rfl, Nat.le_refl _, Lib.hid ⟨rfl, rfl⟩, World.ownsRow_nil _ _ _ _, Below.refl _ _⟩
    case round =>
      obtain ⟨k, d, hk, rfl, hdk, HI, hown, hB⟩ := hrel
      obtain ⟨wk, rfl⟩ : ∃ x, x = wr := ⟨_, rfl⟩
      have HO := Lib.hid hown
      have HB := Lib.hid hB
      clear hown hB
      by_cases hlt : k < xs.length
      · obtain ⟨bb, off, rfl, hbb, hcl⟩ := (HV.out.below HB.out).get hlt
        obtain ⟨x, hxe⟩ : ∃ x, xs[k] = x := ⟨_, rfl⟩
        rw [hxe] at hcl
        have htk : xs.take (k + 1) = xs.take k ++ [x] := by rw [← hxe]; exact List.take_succ_eq_append_getElem hlt
        obtain ⟨ew, hew⟩ : ∃ ew, chkW x.data.toList = ew := ⟨_, rfl⟩
        obtain ⟨mb, hmb⟩ : ∃ mb, matB (par p.data.toList).2 x.data.toList = mb := ⟨_, rfl⟩
        have hmr : matchR p.data.toList x.data.toList = if ew ≠ 0 then (false, ew) else (mb, 0) := by
          rw [matchR, if_neg (by rw [HE.out]; decide), hew, hmb]
        have HTK := Lib.hid htk
        have HEW := Lib.hid hew
        have HMB := Lib.hid hmb
        have HXE := Lib.hid hxe
        clear htk hew hmb hxe
        by_cases he : ew = 0
        · rw [if_neg (by simpa using he)] at hmr
          have HM := Lib.hid (refMatch_at p x mb 0 hmr wk)
          clear hmr
          go_wp2_with fail
          refine HM.out.mono ?_
          rintro e w2 ⟨rfl, h2⟩
          have hcl2 := (h2.cell (p := ⟨bb, off + k, none⟩) hbb).trans hcl
          have HO2 := Lib.hid (own_keep HO.out h2)
          have HB2 := Lib.hid (below_seq HB.out h2 HB.out.size)
          have hwr := HB2.out.size
          clear h2 hcl hbb
          cases mb with
          | false =>
            go_wp2_with fail
            refine ⟨⟨k + 1, d, by omega, by go_num, by omega, Lib.hid ⟨?_, ?_⟩, HO2.out, HB2.out⟩, ?_⟩
            · rw [HTK.out]; exact firstE_snoc HI.out.1 (HEW.out.trans he)
            · rw [HTK.out, List.filter_append, ← HI.out.2]
              simp [List.filter_cons, HMB.out]
            · simp [intOf]; omega
          | true =>
            go_wp2_with (at_builtin; refine wpList_append_own _ rfl _ _ 32 rfl w.heap.size 9 i0 (.string ⟨#[]⟩) 1 16 Try.underlying32 hi hz0 hz1 hz2 rfl (by decide) _ _ _ rfl (HO2.out.alloc _) ⟨w2.heap.size, 0, none⟩ 1 1 [.string _] rfl rfl (one_news _ _ _ _ rfl) (by simp [Value.oneCell']) (by unfold maxLen; omega) (by omega) (by simp; omega) ?_; intro v' w3 hown' hgrow hnn; clear hnn; have HO1 := Lib.hid hown'; have HB1 := Lib.hid (own_below HB2.out hwr HO2.out hgrow); clear hown' hgrow)
            refine ⟨⟨k + 1, d ++ [x], by omega, by go_num, by rw [List.length_append, List.length_singleton]; omega, Lib.hid ⟨?_, ?_⟩, ?_, HB1.out⟩, ?_⟩
            · rw [HTK.out]; exact firstE_snoc HI.out.1 (HEW.out.trans he)
            · rw [HTK.out, List.filter_append, ← HI.out.2]
              simp [List.filter_cons, HMB.out]
            · have := HO1.out
              simpa using this
            · simp [intOf]; omega
        · rw [if_pos (by simpa using he)] at hmr
          have HM := Lib.hid (refMatch_at p x false ew hmr wk)
          have heb : (ew != 0) = true := by simpa using he
          have hh := HH.out
          have hfe : firstE xs = ew := by
            rw [← HEW.out, ← HXE.out]
            exact firstE_at hlt HI.out.1 (by rw [HXE.out, HEW.out]; exact he)
          rw [hfe, if_pos (by simpa using he)] at hh
          simp only [Prod.mk.injEq] at hh
          obtain ⟨rfl, rfl⟩ := hh
          clear hmr hfe he
          go_wp2_with fail
          refine HM.out.mono ?_
          rintro e w2 ⟨rfl, h2⟩
          have HB2 := Lib.hid (below_seq HB.out h2 HB.out.size)
          clear h2
          go_wp2_with fail
          refine bodyPost_ret (v := .tuple #[.slice none 0 0, intV ew]) (by simp [results, Try.results25, go_sem]) rfl ⟨_, rfl, StrsAt.nil _, HB2.out⟩
      · obtain rfl : k = xs.length := by omega
        have hh := HH.out
        have hI := HI.out
        rw [List.take_length] at hI
        rw [if_neg (by rw [hI.1]; decide)] at hh
        simp only [Prod.mk.injEq] at hh
        obtain ⟨hout, rfl⟩ := hh
        have HOUT := Lib.hid (hI.2.trans hout)
        clear hI hout
        go_wp2_with fail
        refine bodyPost_ret (v := .tuple #[u6, intV 0]) (by simp [results, Try.results25, go_sem]) rfl ⟨_, rfl, ?_, HB.out⟩
        rw [← HOUT.out]
        exact StrsAt.of_own (base := w.heap.size) (e := 9) (n := d.length) HO.out
  · have hb0 : (e0 != 0) = true := by simpa using h0
    rw [if_pos (by simpa using h0)] at h
    simp only [Prod.mk.injEq] at h
    obtain ⟨rfl, rfl⟩ := h
    clear h0 he0
    go_enter Try.func25, Try.ntmps25
    go_wp2_with fail
    refine HCK.out.mono ?_
    rintro e w1 ⟨rfl, rfl⟩
    go_wp2_with fail
    refine bodyPost_ret (v := .tuple #[.slice none 0 0, intV 1]) (by simp [results, Try.results25, go_sem]) rfl ⟨_, rfl, StrsAt.nil _, Below.refl _ _⟩
end Go.Proofs.Ytjjdihkjkmhjnaa
