/- GlobReversed: the law's walk. Written by tools/gen_gllaws.py. -/
import Derived.Test.YtjjdihkjkmhjnaaGlParts
import Derived.Test.YtjjdihkjkmhjnaaGlTurn
namespace Go.Proofs.Ytjjdihkjkmhjnaa
set_option linter.unusedSimpArgs false
set_option linter.unusedVariables false
set_option maxRecDepth 100000
open Go.RowKit Go.Deep

set_option maxHeartbeats 4000000 in
theorem reversed_law (H : GlobOk) (p s : ByteArray) (hp64 : p.size ≤ 9223372036854775807) (hs64 : s.size ≤ 9223372036854775807) (w : World) :
    Calls Try.prog 9 #[.string p, .string s] w fun e w' => e = .returned (.bool true) ∧ Below w.heap.size w w' := by
  obtain ⟨fp, hfp⟩ : ∃ b, fineB p.data.toList = b := ⟨_, rfl⟩
  obtain ⟨fs, hfs⟩ : ∃ b, plainB s.data.toList = b := ⟨_, rfl⟩
  have HP := Lib.hid hfp
  have HS := Lib.hid hfs
  clear hfp hfs
  go_enter Try.func9, Try.ntmps9
  go_upto_region 1 with fail
  go_cut [20] from 13 (fun sc W2 => ∃ b : Bool, sc = .bool b ∧ Below w.heap.size w W2 ∧ (b = false → fp = true ∧ fs = true))
  case first =>
    go_wp2_with fail
    refine (fine_at H.toGlobOk1 p fp HP.out w).mono ?_
    rintro e w1 ⟨rfl, h1⟩
    have HB1 := Lib.hid (h1)
    clear h1
    cases fp with
    | false =>
      go_wp2_with fail
      go_meet
      case rel => exact ⟨true, rfl, HB1.out, fun h => (nomatch h)⟩
    | true =>
      go_wp2_with fail
      refine (plain_at s fs HS.out w1).mono ?_
      rintro e w9 ⟨rfl, rfl⟩
      go_wp2_with fail
      go_meet
      case rel => exact ⟨!fs, rfl, HB1.out, fun h => ⟨by trivial, by simpa using h⟩⟩
  case rest =>
    obtain ⟨b, rfl, hB, hb⟩ := hcut
    have HB := Lib.hid hB
    have HBB := Lib.hid hb
    clear hB hb
    cases b with
    | true =>
      go_wp2_with fail
      refine (awake_any H.toGlobOk1 wc).mono ?_
      rintro e w4 ⟨rfl, h4⟩
      have HB4 := Lib.hid (below_seq HB.out h4 HB.out.size)
      clear h4
      go_wp2_with fail
      go_ret
      exact ⟨rfl, HB4.out⟩
    | false =>
      obtain ⟨rfl, rfl⟩ := HBB.out (by trivial)
      obtain ⟨hp, l, hl, hokl, htxl⟩ := fine_ok HP.out
      obtain ⟨hs, _⟩ := plain_ok HS.out
      rw [size_list] at hp hs
      have hck := chk_of_par hl (by rw [size_list]; omega)
      have hpl : p.data.toList.length ≤ 64 := by rw [size_list]; omega
      obtain ⟨hc2, hr2, hln⟩ := chk_reverse hl hpl
      obtain ⟨t, ht⟩ : ∃ t : ByteArray, t.data.toList = txts l.reverse := ⟨⟨(txts l.reverse).toArray⟩, by simp⟩
      obtain ⟨u, hu⟩ : ∃ u : ByteArray, u.data.toList = s.data.toList.reverse := ⟨⟨s.data.toList.reverse.toArray⟩, by simp⟩
      have hts : ((t.size : Int) == p.size) = true := by
        rw [← ht, size_list, size_list] at hln
        rw [hln]; exact beq_self_eq_true _
      have HR1 := Lib.hid (show revR p.data.toList = (t.data.toList, 0) by rw [revR, if_neg (by rw [hck]; decide), hl, ht])
      have HR2 := Lib.hid (show revR t.data.toList = (p.data.toList, 0) by
        rw [revR, ht, if_neg (by rw [hc2]; decide), hr2]
        simp only
        rw [List.reverse_reverse, htxl])
      obtain ⟨b, hb⟩ : ∃ b, matB l s.data.toList = b := ⟨_, rfl⟩
      have HM1 := Lib.hid (show matchR p.data.toList s.data.toList = (b, 0) by rw [matchR_of hl hpl (plain_chk HS.out), hb])
      have hup : chkW u.data.toList = 0 := by
        have h1 := plain_ok HS.out
        rw [hu]
        refine chkW_small (by rw [List.length_reverse]; omega) ?_
        rw [List.any_reverse]; exact h1.2
      have HM2 := Lib.hid (show matchR t.data.toList u.data.toList = (b, 0) by
        rw [matchR_of (l := l.reverse) (by rw [ht]; exact hr2) (by rw [ht, hln]; exact hpl) hup, hu, matB_reverse, hb])
      have HTU := Lib.hid (turned_at s u hu (by omega))
      have hmax := max4
      clear hck hpl hc2 hr2 hln ht hu hl htxl hokl hb hup
      go_wp2_with fail
      refine (H.reverse p t 0 HR1.out wc).mono ?_
      rintro e w11 ⟨rfl, h11⟩
      have HB11 := Lib.hid (below_seq HB.out h11 HB.out.size)
      clear h11
      go_wp2_with fail
      refine (H.reverse t p 0 HR2.out w11).mono ?_
      rintro e w12 ⟨rfl, h12⟩
      have HB12 := Lib.hid (below_seq HB11.out h12 HB11.out.size)
      clear h12
      go_wp2_with fail
      refine (H.mtch p s b 0 HM1.out w12).mono ?_
      rintro e w13 ⟨rfl, h13⟩
      have HB13 := Lib.hid (below_seq HB12.out h13 HB12.out.size)
      clear h13
      go_wp2_with fail
      refine (HTU.out w13).mono ?_
      rintro e w14 ⟨rfl, h14⟩
      have HB14 := Lib.hid (below_seq HB13.out h14 HB13.out.size)
      clear h14
      go_wp2_with fail
      refine (H.mtch t u b 0 HM2.out w14).mono ?_
      rintro e w15 ⟨rfl, h15⟩
      have HB15 := Lib.hid (below_seq HB14.out h15 HB14.out.size)
      clear h15
      go_wp2_with fail
      refine (awake_any H.toGlobOk1 w15).mono ?_
      rintro e w16 ⟨rfl, h16⟩
      have HB16 := Lib.hid (below_seq HB15.out h16 HB15.out.size)
      clear h16
      go_wp2_with fail
      go_ret
      exact ⟨rfl, HB16.out⟩
end Go.Proofs.Ytjjdihkjkmhjnaa
