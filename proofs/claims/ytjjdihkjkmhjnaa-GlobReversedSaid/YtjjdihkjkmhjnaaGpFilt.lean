/- Filter of the program. -/
import Derived.Test.YtjjdihkjkmhjnaaGpMatch
import Derived.Test.YtjjdihkjkmhjnaaGlSpecF
namespace Go.Proofs.Ytjjdihkjkmhjnaa
set_option linter.unusedSimpArgs false
set_option linter.unusedVariables false
set_option maxRecDepth 100000
open Go.RowKit Go.Deep

theorem size64_of {s : ByteArray} (h : chkW s.data.toList = 0) : s.size ≤ 64 := by
  rcases Nat.lt_or_ge 64 s.size with g | g
  · unfold chkW at h; rw [if_pos (by rw [size_list]; exact g)] at h; cases h
  · exact g
set_option maxHeartbeats 4000000 in
theorem filter_at (p : ByteArray) (xs : List ByteArray) (v : Value) (out : List ByteArray) (r : Int) (w : World) (hv : StrsAt w v xs) (hxl : xs.length ≤ 9223372036854775807) (h : filterR p.data.toList xs = (out, r)) :
    Calls Try.prog 24 #[.string p, v] w (FiltPost out r w) := by
  obtain ⟨i0, hi, hz0, hz1, hz2⟩ := info_parts info_str
  unfold filterR at h
  obtain ⟨va, vc, rfl⟩ := hv.slice
  have HV := Lib.hid hv
  clear hv
  by_cases hp : chk p.data.toList = 0
  · rw [if_neg (by rw [hp]; decide)] at h
    have HEL := Lib.hid (elements_good p _ hp rfl w)
    have HLE := Lib.hid (pat_len hp)
    generalize hl : (par p.data.toList).2 = l at *
    have HL := Lib.hid hl
    clear hl hp
    by_cases hbig : 4096 < xs.length
    · rw [if_pos hbig] at h
      simp only [Prod.mk.injEq] at h
      obtain ⟨rfl, rfl⟩ := h
      have q : decide ((4096 : Int) < xs.length) = true := decide_eq_true (by omega)
      go_enter Try.func24, Try.ntmps24
      go_wp2_with fail
      refine HEL.out.mono ?_
      rintro e w1 ⟨v, rfl, _, h1⟩
      have HB1 := Lib.hid h1
      clear h1
      go_wp2_with fail
      refine bodyPost_ret (v := .tuple #[.slice none 0 0, intV 4]) (by simp [results, Try.results24, go_sem]) rfl ⟨_, rfl, StrsAt.nil _, HB1.out⟩
    rw [if_neg hbig] at h
    have q : decide ((4096 : Int) < xs.length) = false := decide_eq_false (by omega)
    have HH := Lib.hid h
    have hxb : xs.length ≤ 4096 := by omega
    clear h hbig
    go_enter Try.func24, Try.ntmps24
    go_wp2_with fail
    refine HEL.out.mono ?_
    rintro e w1 ⟨ve, rfl, he1, h1⟩
    have HE1 := Lib.hid he1
    have HB1 := Lib.hid h1
    clear he1 h1
    go_wp2_with fail
    go_loopw [8, 24] (fun v8 v24 wr => ∃ (k : Nat) (d : List ByteArray), k ≤ xs.length ∧ v24 = .int .i64 k ∧ d.length ≤ k ∧ Hid (firstE (xs.take k) = 0 ∧ d = (xs.take k).filter fun x => matB l x.data.toList) ∧ wr.ownsRow w1.heap.size 9 1 v8 d.length (d.map Value.string) ∧ Below w1.heap.size w1 wr) (fun _ v24 _ => xs.length - (intOf v24).toNat)
    case atStart => exact ⟨0, [], Nat.zero_le _, rfl, Nat.le_refl _, Lib.hid ⟨rfl, rfl⟩, World.ownsRow_nil _ _ _ _, Below.refl _ _⟩
    case round =>
      obtain ⟨k, d, hk, rfl, hdk, HI, hown, hB⟩ := hrel
      obtain ⟨wk, rfl⟩ : ∃ x, x = wr := ⟨_, rfl⟩
      have HO := Lib.hid hown
      have HBK := Lib.hid hB
      have HB := Lib.hid (HB1.out.trans (hB.mono HB1.out.size))
      clear hown hB
      by_cases hlt : k < xs.length
      · obtain ⟨bb, off, rfl, hbb, hcl⟩ := (HV.out.below HB.out).get hlt
        obtain ⟨x, hxe⟩ : ∃ x, xs[k] = x := ⟨_, rfl⟩
        rw [hxe] at hcl
        have htk : xs.take (k + 1) = xs.take k ++ [x] := by rw [← hxe]; exact List.take_succ_eq_append_getElem hlt
        obtain ⟨ew, hew⟩ : ∃ ew, chkW x.data.toList = ew := ⟨_, rfl⟩
        have HCS := Lib.hid (checkString_at x ew hew wk)
        have HTK := Lib.hid htk
        have HEW := Lib.hid hew
        have HXE := Lib.hid hxe
        clear htk hew hxe
        by_cases he : ew = 0
        · have hx64 := size64_of (HEW.out.trans he)
          have heb : (ew != 0) = false := by simpa using he
          obtain ⟨mb, hmb⟩ : ∃ mb, matB l x.data.toList = mb := ⟨_, rfl⟩
          have HM := Lib.hid (matches_at l ve x wk (HE1.out.below HBK.out) HLE.out hx64 mb hmb)
          have HMB := Lib.hid hmb
          have HE0 := Lib.hid he
          clear hmb he
          go_wp2_with fail
          refine HCS.out.mono ?_
          rintro e w2 ⟨rfl, rfl⟩
          go_wp2_with fail
          refine HM.out.mono ?_
          rintro e w2 ⟨rfl, h2⟩
          have HO2 := Lib.hid (own_keep HO.out h2)
          have HB2 := Lib.hid (below_seq HBK.out h2 HBK.out.size)
          have hwr := HB2.out.size
          clear h2 hcl hbb
          cases mb with
          | false =>
            go_wp2_with fail
            refine ⟨⟨k + 1, d, by omega, by go_num, by omega, Lib.hid ⟨?_, ?_⟩, HO2.out, HB2.out⟩, ?_⟩
            · rw [HTK.out]; exact firstE_snoc HI.out.1 (HEW.out.trans HE0.out)
            · rw [HTK.out, List.filter_append, ← HI.out.2]
              simp [List.filter_cons, HMB.out]
            · simp [intOf]; omega
          | true =>
            go_wp2_with (at_builtin; refine wpList_append_own _ rfl _ _ 32 rfl w1.heap.size 9 i0 (.string ⟨#[]⟩) 1 16 Try.underlying32 hi hz0 hz1 hz2 rfl (by decide) _ _ _ rfl (HO2.out.alloc _) ⟨w2.heap.size, 0, none⟩ 1 1 [.string _] rfl rfl (one_news _ _ _ _ rfl) (by simp [Value.oneCell']) (by unfold maxLen; omega) (by omega) (by simp; omega) ?_; intro v' w3 hown' hgrow hnn; clear hnn; have HO1 := Lib.hid hown'; have HB3 := Lib.hid (own_below HB2.out hwr HO2.out hgrow); clear hown' hgrow)
            refine ⟨⟨k + 1, d ++ [x], by omega, by go_num, by rw [List.length_append, List.length_singleton]; omega, Lib.hid ⟨?_, ?_⟩, ?_, HB3.out⟩, ?_⟩
            · rw [HTK.out]; exact firstE_snoc HI.out.1 (HEW.out.trans HE0.out)
            · rw [HTK.out, List.filter_append, ← HI.out.2]
              simp [List.filter_cons, HMB.out]
            · have := HO1.out
              simpa using this
            · simp [intOf]; omega
        · have heb : (ew != 0) = true := by simpa using he
          have hh := HH.out
          have hfe : firstE xs = ew := by
            rw [← HEW.out, ← HXE.out]
            exact firstE_at hlt HI.out.1 (by rw [HXE.out, HEW.out]; exact he)
          rw [hfe, if_pos he] at hh
          simp only [Prod.mk.injEq] at hh
          obtain ⟨rfl, rfl⟩ := hh
          clear hfe he
          go_wp2_with fail
          refine HCS.out.mono ?_
          rintro e w2 ⟨rfl, rfl⟩
          go_wp2_with fail
          refine bodyPost_ret (v := .tuple #[.slice none 0 0, intV ew]) (by simp [results, Try.results24, go_sem]) rfl ⟨_, rfl, StrsAt.nil _, HB.out⟩
      · obtain rfl : k = xs.length := by omega
        have hh := HH.out
        have hI := HI.out
        rw [List.take_length] at hI
        rw [if_neg (by rw [hI.1]; decide)] at hh
        simp only [Prod.mk.injEq] at hh
        obtain ⟨hout, rfl⟩ := hh
        have HOUT := Lib.hid (hI.2.trans hout)
        clear hI hout
        go_wp2_with fail
        refine bodyPost_ret (v := .tuple #[u8, intV 0]) (by simp [results, Try.results24, go_sem]) rfl ⟨_, rfl, ?_, HB.out⟩
        rw [← HOUT.out]
        exact StrsAt.of_own (base := w1.heap.size) (e := 9) (n := d.length) HO.out
  · rw [if_pos hp] at h
    simp only [Prod.mk.injEq] at h
    obtain ⟨rfl, rfl⟩ := h
    have HEL := Lib.hid (elements_bad p hp w)
    clear hp
    go_enter Try.func24, Try.ntmps24
    go_wp2_with fail
    refine HEL.out.mono ?_
    rintro e w1 ⟨v, rfl, h1⟩
    have HB1 := Lib.hid h1
    clear h1
    go_wp2_with fail
    refine bodyPost_ret (v := .tuple #[.slice none 0 0, intV 1]) (by simp [results, Try.results24, go_sem]) rfl ⟨_, rfl, StrsAt.nil _, HB1.out⟩
end Go.Proofs.Ytjjdihkjkmhjnaa
