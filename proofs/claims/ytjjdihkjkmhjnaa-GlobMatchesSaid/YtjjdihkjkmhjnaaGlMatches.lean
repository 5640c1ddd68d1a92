/- GlobMatches: the law's walk. -/
import Derived.Test.YtjjdihkjkmhjnaaGlLib
import Derived.Test.YtjjdihkjkmhjnaaGlRefF
namespace Go.Proofs.Ytjjdihkjkmhjnaa
set_option linter.unusedSimpArgs false
set_option linter.unusedVariables false
set_option maxRecDepth 100000
open Go.RowKit Go.Deep

theorem great_test (l : List ByteArray) : Test 11 (fun _ => True) l :=
  ⟨Try.call11, fun x _ W => (refGreat_at x _ rfl W).mono fun e w' ⟨h1, h2⟩ => ⟨_, h1, fun _ => trivial, below_w h2⟩⟩
set_option maxHeartbeats 4000000 in
theorem matches_law (H : GlobOk) (p s : ByteArray) (l : List ByteArray) (v : Value) (w : World) (hv : StrsAt w v l) (hlm : l.length ≤ 9223372036854775807) :
    Calls Try.prog 4 #[.string p, .string s, v] w fun e w' => e = .returned (.bool true) ∧ Below w.heap.size w w' := by
  have HV := Lib.hid hv
  obtain ⟨a, c, rfl⟩ := hv.slice
  obtain ⟨gp, hgp⟩ : ∃ g, greatB p.size = g := ⟨_, rfl⟩
  obtain ⟨gs, hgs⟩ : ∃ g, greatB s.size = g := ⟨_, rfl⟩
  have HGP := Lib.hid (refGreat_at p gp hgp)
  have HGS := Lib.hid (refGreat_at s gs hgs)
  clear hv hgp hgs
  go_enter Try.func4, Try.ntmps4
  go_upto_region 1 with fail
  go_cut [39] from 15 (fun s39 W2 => ∃ b : Bool, s39 = .bool b ∧ Below w.heap.size w W2)
  case first =>
    go_wp2_with fail
    refine (HGP.out w).mono ?_
    rintro e w0 ⟨rfl, rfl⟩
    cases gp with
    | true =>
      go_wp2_with fail
      go_meet
      case rel => exact ⟨true, rfl, Below.refl _ _⟩
    | false =>
      go_wp2_with fail
      refine (HGS.out w).mono ?_
      rintro e w0 ⟨rfl, rfl⟩
      cases gs with
      | true =>
        go_wp2_with fail
        go_meet
        case rel => exact ⟨true, rfl, Below.refl _ _⟩
      | false =>
        by_cases h8 : 8 < l.length
        · have q1 : decide ((8 : Int) < l.length) = true := decide_eq_true (by omega)
          by_cases h2 : l.length ≤ 4096
          · have q2 : decide ((l.length : Int) ≤ 4096) = true := decide_eq_true (by omega)
            go_wp2_with fail
            go_meet
            case rel => exact ⟨true, rfl, Below.refl _ _⟩
          · have q2 : decide ((l.length : Int) ≤ 4096) = false := decide_eq_false (by omega)
            by_cases h3 : 4098 < l.length
            · have q3 : decide ((4098 : Int) < l.length) = true := decide_eq_true (by omega)
              go_wp2_with fail
              go_meet
              case rel => exact ⟨true, rfl, Below.refl _ _⟩
            · have q3 : decide ((4098 : Int) < l.length) = false := decide_eq_false (by omega)
              have HC := Lib.hid (containsFunc_any 11 (fun _ => True) l _ w HV.out (by omega) (great_test l))
              go_wp2_with fail
              refine HC.out.mono ?_
              rintro e w1 ⟨b, rfl, _, hB⟩
              have HB := Lib.hid hB
              clear hB HC
              go_wp2_with fail
              go_meet
              case rel => exact ⟨b, rfl, HB.out⟩
        · have q1 : decide ((8 : Int) < l.length) = false := decide_eq_false (by omega)
          have q3 : decide ((4098 : Int) < l.length) = false := decide_eq_false (by omega)
          have HC := Lib.hid (containsFunc_any 11 (fun _ => True) l _ w HV.out (by omega) (great_test l))
          go_wp2_with fail
          refine HC.out.mono ?_
          rintro e w1 ⟨b, rfl, _, hB⟩
          have HB := Lib.hid hB
          clear hB HC
          go_wp2_with fail
          go_meet
          case rel => exact ⟨b, rfl, HB.out⟩
  case rest =>
    obtain ⟨b, rfl, hB⟩ := hcut
    have HB := Lib.hid hB
    clear hB HGP HGS
    cases b with
    | true =>
      go_wp2_with fail
      refine (awake_any H.toGlobOk1 wc).mono ?_
      rintro e w4 ⟨rfl, h4⟩
      have HB4 := Lib.hid (below_seq HB.out h4 HB.out.size)
      clear h4
      go_wp2_with fail
      go_ret
      exact ⟨rfl, HB4.out⟩
    | false =>
      obtain ⟨⟨mb, mr⟩, hm⟩ : ∃ q, matchR p.data.toList s.data.toList = q := ⟨_, rfl⟩
      obtain ⟨⟨fo, fr⟩, hf⟩ : ∃ q, filterR p.data.toList l = q := ⟨_, rfl⟩
      have hfo : fo.length ≤ 4096 := by
        have h1 : (filterR p.data.toList l).1.length ≤ 4096 := by
          unfold filterR
          split
          · simp
          · split
            · simp
            · split
              · simp
              · have := List.length_filter_le (fun x : ByteArray => matB (par p.data.toList).2 x.data.toList) l
                show (l.filter _).length ≤ _
                omega
        rw [hf] at h1
        exact h1
      have HM := Lib.hid hm
      have HF := Lib.hid hf
      have HVC := Lib.hid (HV.out.below HB.out)
      clear hm hf
      go_wp2_with fail
      refine (H.mtch p s mb mr HM.out wc).mono ?_
      rintro e w1 ⟨rfl, h1⟩
      have HB1 := Lib.hid (below_seq HB.out h1 HB.out.size)
      have HV1 := Lib.hid (HVC.out.below h1)
      clear h1
      go_wp2_with fail
      refine (refMatch_at p s mb mr HM.out w1).mono ?_
      rintro e w2 ⟨rfl, h2⟩
      have HB2 := Lib.hid (below_seq HB1.out h2 HB1.out.size)
      have HV2 := Lib.hid (HV1.out.below h2)
      clear h2
      go_wp2_with fail
      refine (H.filter p l _ fo fr w2 HV2.out hlm HF.out).mono ?_
      rintro e w3 ⟨x, rfl, hx, h3⟩
      have HB3 := Lib.hid (below_seq HB2.out h3 HB2.out.size)
      have HV3 := Lib.hid (HV2.out.below h3)
      have HX3 := Lib.hid hx
      clear h3 hx
      go_wp2_with fail
      refine (refFilter_at p l _ fo fr w3 HV3.out hlm HF.out).mono ?_
      rintro e w4 ⟨y, rfl, hy, h4⟩
      have HB4 := Lib.hid (below_seq HB3.out h4 HB3.out.size)
      have HX4 := Lib.hid (HX3.out.below h4)
      have HY4 := Lib.hid hy
      clear h4 hy
      go_wp2_with fail
      refine (equal_same fo x y w4 HX4.out HY4.out (by omega)).mono ?_
      rintro e w5 ⟨rfl, h5⟩
      have HB5 := Lib.hid (below_seq HB4.out h5 HB4.out.size)
      clear h5
      go_wp2_with fail
      refine (awake_any H.toGlobOk1 w5).mono ?_
      rintro e w6 ⟨rfl, h6⟩
      have HB6 := Lib.hid (below_seq HB5.out h6 HB5.out.size)
      clear h6
      go_wp2_with fail
      go_ret
      exact ⟨rfl, HB6.out⟩
end Go.Proofs.Ytjjdihkjkmhjnaa
