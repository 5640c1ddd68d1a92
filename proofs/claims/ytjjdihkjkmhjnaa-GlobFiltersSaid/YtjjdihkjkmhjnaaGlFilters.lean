/- GlobFilters: the law's walk. -/
import Derived.Test.YtjjdihkjkmhjnaaGlParts
import Derived.Test.YtjjdihkjkmhjnaaGlLib
namespace Go.Proofs.Ytjjdihkjkmhjnaa
set_option linter.unusedSimpArgs false
set_option linter.unusedVariables false
set_option maxRecDepth 100000
open Go.RowKit Go.Deep

theorem notPlain_any (x : ByteArray) (w : World) : Calls Try.prog 31 #[.string x] w fun e w' => ∃ b : Bool, e = .returned (.bool b) ∧ (b = false → plainB x.data.toList = true) ∧ Below w.heap.size w w' := by
  obtain ⟨b, hb⟩ : ∃ b, plainB x.data.toList = b := ⟨_, rfl⟩
  have HP := Lib.hid (plain_at x b hb w)
  have HBE := Lib.hid hb
  clear hb
  go_enter Try.func31, Try.ntmps31
  go_wp2_with fail
  refine HP.out.mono ?_
  rintro e w1 ⟨rfl, rfl⟩
  go_wp2_with fail
  go_ret
  exact ⟨!b, rfl, fun h => by rw [HBE.out]; simpa using h, Below.refl _ _⟩
theorem notPlain_test (l : List ByteArray) : Test 31 (fun x => plainB x.data.toList = true) l :=
  ⟨Try.call31, fun x _ W => notPlain_any x W⟩
theorem firstE_plain : ∀ {l : List ByteArray}, (∀ x ∈ l, plainB x.data.toList = true) → firstE l = 0
  | [], _ => rfl
  | x :: l, h => by
    rw [firstE, if_neg (by rw [plain_chk (h x (by simp))]; decide)]
    exact firstE_plain fun y hy => h y (by simp [hy])
theorem filterR_of {p : List UInt8} {l : List El} {xs : List ByteArray} (hl : par p = (0, l)) (hp : p.length ≤ 64) (hx : xs.length ≤ 4096) (he : firstE xs = 0) : filterR p xs = (xs.filter fun x => matB l x.data.toList, 0) := by
  unfold filterR
  rw [if_neg (by rw [chk_of_par hl hp]; decide), if_neg (by omega), if_neg (by rw [he]; decide), hl]
set_option maxHeartbeats 4000000 in
theorem filters_law (H : GlobOk) (p : ByteArray) (xs : List ByteArray) (v : Value) (w : World) (hp64 : p.size ≤ 9223372036854775807) (hv : StrsAt w v xs) (hxl : xs.length ≤ 9223372036854775807) :
    Calls Try.prog 8 #[.string p, v] w fun e w' => e = .returned (.bool true) ∧ Below w.heap.size w w' := by
  obtain ⟨i0, hi, hz0, hz1, hz2⟩ := info_parts info_str
  have HV := Lib.hid hv
  obtain ⟨a, c, rfl⟩ := hv.slice
  obtain ⟨fp, hfp⟩ : ∃ b, fineB p.data.toList = b := ⟨_, rfl⟩
  have HP := Lib.hid hfp
  clear hv hfp
  go_enter Try.func8, Try.ntmps8
  go_upto_region 1 with fail
  go_cut [25] from 14 (fun sc W2 => ∃ b : Bool, sc = .bool b ∧ Below w.heap.size w W2 ∧ (b = false → fp = true ∧ xs.length ≤ 8 ∧ ∀ x ∈ xs, plainB x.data.toList = true))
  case first =>
    go_wp2_with fail
    refine (fine_at H.toGlobOk1 p fp HP.out w).mono ?_
    rintro e w1 ⟨rfl, h1⟩
    have HB1 := Lib.hid h1
    have HV1 := Lib.hid (HV.out.below h1)
    clear h1
    cases fp with
    | false =>
      go_wp2_with fail
      go_meet
      case rel => exact ⟨true, rfl, HB1.out, fun h => (nomatch h)⟩
    | true =>
      by_cases h8 : 8 < xs.length
      · have q1 : decide ((8 : Int) < xs.length) = true := decide_eq_true (by omega)
        go_wp2_with fail
        go_meet
        case rel => exact ⟨true, rfl, HB1.out, fun h => (nomatch h)⟩
      · have q1 : decide ((8 : Int) < xs.length) = false := decide_eq_false (by omega)
        have HC := Lib.hid (containsFunc_any 31 (fun x => plainB x.data.toList = true) xs _ w1 HV1.out (by omega) (notPlain_test xs))
        go_wp2_with fail
        refine HC.out.mono ?_
        rintro e w2 ⟨b, rfl, hg, hB⟩
        have HB2 := Lib.hid (below_seq HB1.out hB HB1.out.size)
        have HG := Lib.hid hg
        clear hB HC hg
        go_wp2_with fail
        go_meet
        case rel => exact ⟨b, rfl, HB2.out, fun h => ⟨by trivial, by omega, HG.out h⟩⟩
  case rest =>
    obtain ⟨b, rfl, hB, hb⟩ := hcut
    have HB := Lib.hid hB
    have HBB := Lib.hid hb
    clear hB hb
    cases b with
    | true =>
      go_wp2_with fail
      refine (awake_any H.toGlobOk1 wc).mono ?_
      rintro e w4 ⟨rfl, h4⟩
      have HB4 := Lib.hid (below_seq HB.out h4 HB.out.size)
      clear h4
      go_wp2_with fail
      go_ret
      exact ⟨rfl, HB4.out⟩
    | false =>
      obtain ⟨rfl, h8, hpl⟩ := HBB.out (by trivial)
      obtain ⟨hp, l, hl, _, _⟩ := fine_ok HP.out
      have hfe := firstE_plain hpl
      obtain ⟨out, hout⟩ : ∃ o, (xs.filter fun x => matB l x.data.toList) = o := ⟨_, rfl⟩
      have hol : out.length ≤ 8 := by rw [← hout]; have := List.length_filter_le (fun x : ByteArray => matB l x.data.toList) xs; omega
      have HF1 := Lib.hid (show filterR p.data.toList xs = (out, 0) by rw [filterR_of hl (by omega) (by omega) hfe, hout])
      have HF2 := Lib.hid (show filterR p.data.toList out = (out, 0) by
        rw [filterR_of hl (by omega) (by omega) (by rw [← hout]; exact firstE_filter hfe), ← hout, List.filter_filter]
        simp)
      have HOUT := Lib.hid hout
      have HMT := Lib.hid (fun (x : ByteArray) (hx : x ∈ xs) => matchR_of hl (by omega) (plain_chk (hpl x hx)))
      have HVC := Lib.hid (HV.out.below HB.out)
      clear hl hpl hfe hout hp
      go_wp2_with fail
      refine (H.filter p xs _ out 0 wc HVC.out hxl HF1.out).mono ?_
      rintro e w1 ⟨x1, rfl, hx1, h1⟩
      have HB1 := Lib.hid (below_seq HB.out h1 HB.out.size)
      have HV1 := Lib.hid (HVC.out.below h1)
      have HX1 := Lib.hid hx1
      clear h1 hx1
      go_wp2_with fail
      refine (H.filter p out _ out 0 w1 HX1.out (by omega) HF2.out).mono ?_
      rintro e w2 ⟨x2, rfl, hx2, h2⟩
      have HB2 := Lib.hid (below_seq HB1.out h2 HB1.out.size)
      have HV2 := Lib.hid (HV1.out.below h2)
      have HX12 := Lib.hid (HX1.out.below h2)
      have HX2 := Lib.hid hx2
      clear h2 hx2
      go_wp2_with fail
      go_loopw [9, 41] (fun v9 v41 wr => ∃ (k : Nat) (d : List ByteArray), k ≤ xs.length ∧ v41 = .int .i64 k ∧ d.length ≤ k ∧ Hid (d = (xs.take k).filter fun x => matB l x.data.toList) ∧ wr.ownsRow w2.heap.size 9 1 v9 d.length (d.map Value.string) ∧ Below w2.heap.size w2 wr) (fun _ v41 _ => xs.length - (intOf v41).toNat)
      case atStart => exact ⟨0, [], Nat.zero_le _, rfl, Nat.le_refl _, Lib.hid rfl, World.ownsRow_nil _ _ _ _, Below.refl _ _⟩
      case round =>
        obtain ⟨k, d, hk, rfl, hdk, HI, hown, hB⟩ := hrel
        obtain ⟨wk, rfl⟩ : ∃ x, x = wr := ⟨_, rfl⟩
        have HO := Lib.hid hown
        have HBk := Lib.hid hB
        clear hown hB
        by_cases hlt : k < xs.length
        · obtain ⟨bb, off, rfl, hbb, hcl⟩ := (HV2.out.below HBk.out).get hlt
          obtain ⟨x, hxe⟩ : ∃ x, xs[k] = x := ⟨_, rfl⟩
          rw [hxe] at hcl
          have htk : xs.take (k + 1) = xs.take k ++ [x] := by rw [← hxe]; exact List.take_succ_eq_append_getElem hlt
          obtain ⟨mb, hmb⟩ : ∃ mb, matB l x.data.toList = mb := ⟨_, rfl⟩
          have HM := Lib.hid (H.mtch p x mb 0 (by rw [HMT.out x (by rw [← hxe]; exact List.getElem_mem hlt), hmb]) wk)
          have HTK := Lib.hid htk
          have HMB := Lib.hid hmb
          clear htk hmb hxe
          go_wp2_with fail
          refine HM.out.mono ?_
          rintro e w3 ⟨rfl, h3⟩
          have HO3 := Lib.hid (own_keep HO.out h3)
          have HB3 := Lib.hid (below_seq HBk.out h3 HBk.out.size)
          have hwr := HB3.out.size
          clear h3 hcl hbb
          cases mb with
          | false =>
            go_wp2_with fail
            refine ⟨⟨k + 1, d, by omega, by go_num, by omega, Lib.hid ?_, HO3.out, HB3.out⟩, ?_⟩
            · rw [HTK.out, List.filter_append, ← HI.out]
              simp [List.filter_cons, HMB.out]
            · simp [intOf]; omega
          | true =>
            go_wp2_with (at_builtin; refine wpList_append_own _ rfl _ _ 32 rfl w2.heap.size 9 i0 (.string ⟨#[]⟩) 1 16 Try.underlying32 hi hz0 hz1 hz2 rfl (by decide) _ _ _ rfl (HO3.out.alloc _) ⟨w3.heap.size, 0, none⟩ 1 1 [.string _] rfl rfl (one_news _ _ _ _ rfl) (by simp [Value.oneCell']) (by unfold maxLen; omega) (by omega) (by simp; omega) ?_; intro v' w4 hown' hgrow hnn; clear hnn; have HO1 := Lib.hid hown'; have HB4 := Lib.hid (own_below HB3.out hwr HO3.out hgrow); clear hown' hgrow)
            refine ⟨⟨k + 1, d ++ [x], by omega, by go_num, by rw [List.length_append, List.length_singleton]; omega, Lib.hid ?_, ?_, HB4.out⟩, ?_⟩
            · rw [HTK.out, List.filter_append, ← HI.out]
              simp [List.filter_cons, HMB.out]
            · have := HO1.out
              simpa using this
            · simp [intOf]; omega
        · obtain rfl : k = xs.length := by omega
          have hd : d = out := by rw [HI.out, List.take_length, HOUT.out]
          subst hd
          have HW := Lib.hid (StrsAt.of_own (base := w2.heap.size) (e := 9) (n := d.length) HO.out)
          have HBW := Lib.hid (below_seq HB2.out HBk.out HB2.out.size)
          go_wp2_with fail
          refine (equal_same d x1 _ wk (HX12.out.below HBk.out) HW.out (by omega)).mono ?_
          rintro e w5 ⟨rfl, h5⟩
          have HB5 := Lib.hid (below_seq HBW.out h5 HBW.out.size)
          have HX15 := Lib.hid ((HX12.out.below HBk.out).below h5)
          have HX25 := Lib.hid ((HX2.out.below HBk.out).below h5)
          clear h5
          go_wp2_with fail
          refine (equal_same d x2 x1 w5 HX25.out HX15.out (by omega)).mono ?_
          rintro e w6 ⟨rfl, h6⟩
          have HB6 := Lib.hid (below_seq HB5.out h6 HB5.out.size)
          clear h6
          go_wp2_with fail
          refine (awake_any H.toGlobOk1 w6).mono ?_
          rintro e w7 ⟨rfl, h7⟩
          have HB7 := Lib.hid (below_seq HB6.out h7 HB6.out.size)
          clear h7
          go_wp2_with fail
          go_ret
          exact ⟨rfl, HB7.out⟩
end Go.Proofs.Ytjjdihkjkmhjnaa
