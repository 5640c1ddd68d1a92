/- GlobChecks: the law's walk. Written by tools/gen_glchecks.py. -/
import Derived.Test.YtjjdihkjkmhjnaaGlAwake
import Derived.Test.YtjjdihkjkmhjnaaGlSpecF
import Derived.Test.YtjjdihkjkmhjnaaGlRefL
import Derived.Test.YtjjdihkjkmhjnaaGlRefM
namespace Go.Proofs.Ytjjdihkjkmhjnaa
set_option linter.unusedSimpArgs false
set_option linter.unusedVariables false
set_option maxRecDepth 100000
open Go.RowKit Go.Deep

set_option maxHeartbeats 4000000 in
theorem checks_law (H : GlobOk) (s : ByteArray) (w : World) :
    Calls Try.prog 3 #[.string s] w fun e w' => e = .returned (.bool true) ∧ Below w.heap.size w w' := by
  obtain ⟨g, hg⟩ : ∃ g, greatB s.size = g := ⟨_, rfl⟩
  obtain ⟨⟨tl, tb, tr⟩, ht⟩ : ∃ q, litR s.data.toList = q := ⟨_, rfl⟩
  obtain ⟨t, htt⟩ : ∃ t : ByteArray, t.data.toList = tl := ⟨⟨tl.toArray⟩, by simp⟩
  obtain ⟨⟨ba, bb, br⟩, hb⟩ : ∃ q, boundsR s.data.toList = q := ⟨_, rfl⟩
  obtain ⟨⟨vl, vr⟩, hv⟩ : ∃ q, revR s.data.toList = q := ⟨_, rfl⟩
  obtain ⟨v, hvv⟩ : ∃ v : ByteArray, v.data.toList = vl := ⟨⟨vl.toArray⟩, by simp⟩
  obtain ⟨c, hc⟩ : ∃ c, chk s.data.toList = c := ⟨_, rfl⟩
  subst htt hvv
  have HG := Lib.hid hg
  have HL := Lib.hid ht
  have HBD := Lib.hid hb
  have HRV := Lib.hid hv
  have HC := Lib.hid hc
  clear hg ht hb hv hc
  go_enter Try.func3, Try.ntmps3
  go_wp2_with fail
  refine (refGreat_at s g HG.out w).mono ?_
  rintro e w0 ⟨rfl, rfl⟩
  have HB0 := Lib.hid (Below.refl w.heap.size w)
  cases g with
  | true =>
    go_wp2_with fail
    refine (awake_any H.toGlobOk1 w).mono ?_
    rintro e w4 ⟨rfl, h4⟩
    have HB4 := Lib.hid h4
    clear h4
    go_wp2_with fail
    go_ret
    exact ⟨rfl, HB4.out⟩
  | false =>
    go_wp2_with fail
    refine (H.literal s t tb tr HL.out w).mono ?_
    rintro e w1 ⟨rfl, h1⟩
    have HB1 := Lib.hid (below_seq HB0.out h1 HB0.out.size)
    clear h1
    go_wp2_with fail
    refine (refLiteral_at s t tb tr HL.out w1).mono ?_
    rintro e w2 ⟨rfl, h2⟩
    have HB2 := Lib.hid (below_seq HB1.out h2 HB1.out.size)
    clear h2
    go_wp2_with fail
    refine (H.bounds s ba bb br HBD.out w2).mono ?_
    rintro e w3 ⟨rfl, h3⟩
    have HB3 := Lib.hid (below_seq HB2.out h3 HB2.out.size)
    clear h3
    go_wp2_with fail
    refine (refBounds_at s ba bb br HBD.out w3).mono ?_
    rintro e w4 ⟨rfl, h4⟩
    have HB4 := Lib.hid (below_seq HB3.out h4 HB3.out.size)
    clear h4
    go_wp2_with fail
    refine (H.reverse s v vr HRV.out w4).mono ?_
    rintro e w5 ⟨rfl, h5⟩
    have HB5 := Lib.hid (below_seq HB4.out h5 HB4.out.size)
    clear h5
    go_wp2_with fail
    refine (refReverse_at s v vr HRV.out w5).mono ?_
    rintro e w6 ⟨rfl, h6⟩
    have HB6 := Lib.hid (below_seq HB5.out h6 HB5.out.size)
    clear h6
    go_wp2_with fail
    refine (H.check s c HC.out w6).mono ?_
    rintro e w7 ⟨rfl, h7⟩
    have HB7 := Lib.hid (below_seq HB6.out h7 HB6.out.size)
    clear h7
    go_wp2_with fail
    refine (refCheck_at s c HC.out w7).mono ?_
    rintro e wx8 ⟨rfl, rfl⟩
    have HB8 := HB7
    go_wp2_with fail
    refine (awake_any H.toGlobOk1 w7).mono ?_
    rintro e w9 ⟨rfl, h9⟩
    have HB9 := Lib.hid (below_seq HB8.out h9 HB8.out.size)
    clear h9
    go_wp2_with fail
    go_ret
    exact ⟨rfl, HB9.out⟩
end Go.Proofs.Ytjjdihkjkmhjnaa
