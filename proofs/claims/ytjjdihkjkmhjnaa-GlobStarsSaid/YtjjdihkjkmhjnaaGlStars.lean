/- GlobStars: the law's walk. Written by tools/gen_gllaws.py. -/
import Derived.Test.YtjjdihkjkmhjnaaGlParts
namespace Go.Proofs.Ytjjdihkjkmhjnaa
set_option linter.unusedSimpArgs false
set_option linter.unusedVariables false
set_option maxRecDepth 100000
open Go.RowKit Go.Deep

theorem three_par {p q c : ByteArray} {l m k : List El} (hl : par p.data.toList = (0, l)) (hm : par q.data.toList = (0, m)) (hk : par c.data.toList = (0, k)) : par ((p ++ c) ++ q).data.toList = (0, (l ++ k) ++ m) := by
  rw [add_list, add_list]
  exact par_app2 (par_app2 hl hk) hm
set_option maxHeartbeats 4000000 in
theorem stars_law (H : GlobOk) (p q s : ByteArray) (hp64 : p.size ≤ 9223372036854775807) (hq64 : q.size ≤ 9223372036854775807) (hs64 : s.size ≤ 9223372036854775807) (w : World) :
    Calls Try.prog 10 #[.string p, .string q, .string s] w fun e w' => e = .returned (.bool true) ∧ Below w.heap.size w w' := by
  obtain ⟨fp, hfp⟩ : ∃ b, fineB p.data.toList = b := ⟨_, rfl⟩
  obtain ⟨fq, hfq⟩ : ∃ b, fineB q.data.toList = b := ⟨_, rfl⟩
  obtain ⟨fs, hfs⟩ : ∃ b, plainB s.data.toList = b := ⟨_, rfl⟩
  have HP := Lib.hid hfp
  have HQ := Lib.hid hfq
  have HS := Lib.hid hfs
  clear hfp hfq hfs
  go_enter Try.func10, Try.ntmps10
  go_upto_region 1 with fail
  go_cut [29] from 17 (fun sc W2 => ∃ b : Bool, sc = .bool b ∧ Below w.heap.size w W2 ∧ (b = false → fp = true ∧ fq = true ∧ fs = true))
  case first =>
    go_wp2_with fail
    refine (fine_at H.toGlobOk1 p fp HP.out w).mono ?_
    rintro e w1 ⟨rfl, h1⟩
    have HB1 := Lib.hid (h1)
    clear h1
    cases fp with
    | false =>
      go_wp2_with fail
      go_meet
      case rel => exact ⟨true, rfl, HB1.out, fun h => (nomatch h)⟩
    | true =>
      go_wp2_with fail
      refine (fine_at H.toGlobOk1 q fq HQ.out w1).mono ?_
      rintro e w2 ⟨rfl, h2⟩
      have HB2 := Lib.hid (below_seq HB1.out h2 HB1.out.size)
      clear h2
      cases fq with
      | false =>
        go_wp2_with fail
        go_meet
        case rel => exact ⟨true, rfl, HB2.out, fun h => (nomatch h)⟩
      | true =>
        go_wp2_with fail
        refine (plain_at s fs HS.out w2).mono ?_
        rintro e w9 ⟨rfl, rfl⟩
        go_wp2_with fail
        go_meet
        case rel => exact ⟨!fs, rfl, HB2.out, fun h => ⟨by trivial, by trivial, by simpa using h⟩⟩
  case rest =>
    obtain ⟨b, rfl, hB, hb⟩ := hcut
    have HB := Lib.hid hB
    have HBB := Lib.hid hb
    clear hB hb
    cases b with
    | true =>
      go_wp2_with fail
      refine (awake_any H.toGlobOk1 wc).mono ?_
      rintro e w4 ⟨rfl, h4⟩
      have HB4 := Lib.hid (below_seq HB.out h4 HB.out.size)
      clear h4
      go_wp2_with fail
      go_ret
      exact ⟨rfl, HB4.out⟩
    | false =>
      obtain ⟨rfl, rfl, rfl⟩ := HBB.out (by trivial)
      obtain ⟨hp, l, hl, hokl, htxl⟩ := fine_ok HP.out
      obtain ⟨hq, m, hm, hokm, htxm⟩ := fine_ok HQ.out
      obtain ⟨hs, _⟩ := plain_ok HS.out
      rw [size_list] at hp hq hs
      obtain ⟨b1, hb1⟩ : ∃ b, matB ((l ++ [.star]) ++ m) s.data.toList = b := ⟨_, rfl⟩
      have HM1 := Lib.hid (show matchR ((p ++ ⟨#[42]⟩) ++ q).data.toList s.data.toList = (b1, 0) by
        rw [matchR_of (three_par hl hm (c := ⟨#[42]⟩) (k := [.star]) rfl) (by rw [add_list, add_list, List.length_append, List.length_append, size_list, size_list]; show p.size + 1 + q.size ≤ 64; omega) (plain_chk HS.out), hb1])
      have ha1 : ∀ w, (Op.stringOp .add p ⟨#[42]⟩).run Try.prog w = .ok (.string (p ++ ⟨#[42]⟩)) w := fun w => run_string_add_sum w _ _ (by show p.size + 1 ≤ _; omega)
      have hc1 : ∀ w, (Op.stringOp .add (p ++ ⟨#[42]⟩) q).run Try.prog w = .ok (.string ((p ++ ⟨#[42]⟩) ++ q)) w := fun w => run_string_add_sum w _ _ (by rw [ByteArray.size_append]; show p.size + 1 + q.size ≤ _; omega)
      obtain ⟨t1, ht1⟩ : ∃ t, (p ++ ⟨#[42]⟩) ++ q = t := ⟨_, rfl⟩
      rw [ht1] at HM1 hc1
      clear ht1
      obtain ⟨o1, ho1⟩ : ∃ t, p ++ ⟨#[42]⟩ = t := ⟨_, rfl⟩
      rw [ho1] at ha1 hc1
      clear ho1
      obtain ⟨b2, hb2⟩ : ∃ b, matB ((l ++ [.star, .star]) ++ m) s.data.toList = b := ⟨_, rfl⟩
      have HM2 := Lib.hid (show matchR ((p ++ ⟨#[42, 42]⟩) ++ q).data.toList s.data.toList = (b2, 0) by
        rw [matchR_of (three_par hl hm (c := ⟨#[42, 42]⟩) (k := [.star, .star]) rfl) (by rw [add_list, add_list, List.length_append, List.length_append, size_list, size_list]; show p.size + 2 + q.size ≤ 64; omega) (plain_chk HS.out), hb2])
      have ha2 : ∀ w, (Op.stringOp .add p ⟨#[42, 42]⟩).run Try.prog w = .ok (.string (p ++ ⟨#[42, 42]⟩)) w := fun w => run_string_add_sum w _ _ (by show p.size + 2 ≤ _; omega)
      have hc2 : ∀ w, (Op.stringOp .add (p ++ ⟨#[42, 42]⟩) q).run Try.prog w = .ok (.string ((p ++ ⟨#[42, 42]⟩) ++ q)) w := fun w => run_string_add_sum w _ _ (by rw [ByteArray.size_append]; show p.size + 2 + q.size ≤ _; omega)
      obtain ⟨t2, ht2⟩ : ∃ t, (p ++ ⟨#[42, 42]⟩) ++ q = t := ⟨_, rfl⟩
      rw [ht2] at HM2 hc2
      clear ht2
      obtain ⟨o2, ho2⟩ : ∃ t, p ++ ⟨#[42, 42]⟩ = t := ⟨_, rfl⟩
      rw [ho2] at ha2 hc2
      clear ho2
      obtain ⟨b3, hb3⟩ : ∃ b, matB ((l ++ [.any, .star]) ++ m) s.data.toList = b := ⟨_, rfl⟩
      have HM3 := Lib.hid (show matchR ((p ++ ⟨#[63, 42]⟩) ++ q).data.toList s.data.toList = (b3, 0) by
        rw [matchR_of (three_par hl hm (c := ⟨#[63, 42]⟩) (k := [.any, .star]) rfl) (by rw [add_list, add_list, List.length_append, List.length_append, size_list, size_list]; show p.size + 2 + q.size ≤ 64; omega) (plain_chk HS.out), hb3])
      have ha3 : ∀ w, (Op.stringOp .add p ⟨#[63, 42]⟩).run Try.prog w = .ok (.string (p ++ ⟨#[63, 42]⟩)) w := fun w => run_string_add_sum w _ _ (by show p.size + 2 ≤ _; omega)
      have hc3 : ∀ w, (Op.stringOp .add (p ++ ⟨#[63, 42]⟩) q).run Try.prog w = .ok (.string ((p ++ ⟨#[63, 42]⟩) ++ q)) w := fun w => run_string_add_sum w _ _ (by rw [ByteArray.size_append]; show p.size + 2 + q.size ≤ _; omega)
      obtain ⟨t3, ht3⟩ : ∃ t, (p ++ ⟨#[63, 42]⟩) ++ q = t := ⟨_, rfl⟩
      rw [ht3] at HM3 hc3
      clear ht3
      obtain ⟨o3, ho3⟩ : ∃ t, p ++ ⟨#[63, 42]⟩ = t := ⟨_, rfl⟩
      rw [ho3] at ha3 hc3
      clear ho3
      obtain ⟨b4, hb4⟩ : ∃ b, matB ((l ++ [.star, .any]) ++ m) s.data.toList = b := ⟨_, rfl⟩
      have HM4 := Lib.hid (show matchR ((p ++ ⟨#[42, 63]⟩) ++ q).data.toList s.data.toList = (b4, 0) by
        rw [matchR_of (three_par hl hm (c := ⟨#[42, 63]⟩) (k := [.star, .any]) rfl) (by rw [add_list, add_list, List.length_append, List.length_append, size_list, size_list]; show p.size + 2 + q.size ≤ 64; omega) (plain_chk HS.out), hb4])
      have ha4 : ∀ w, (Op.stringOp .add p ⟨#[42, 63]⟩).run Try.prog w = .ok (.string (p ++ ⟨#[42, 63]⟩)) w := fun w => run_string_add_sum w _ _ (by show p.size + 2 ≤ _; omega)
      have hc4 : ∀ w, (Op.stringOp .add (p ++ ⟨#[42, 63]⟩) q).run Try.prog w = .ok (.string ((p ++ ⟨#[42, 63]⟩) ++ q)) w := fun w => run_string_add_sum w _ _ (by rw [ByteArray.size_append]; show p.size + 2 + q.size ≤ _; omega)
      obtain ⟨t4, ht4⟩ : ∃ t, (p ++ ⟨#[42, 63]⟩) ++ q = t := ⟨_, rfl⟩
      rw [ht4] at HM4 hc4
      clear ht4
      obtain ⟨o4, ho4⟩ : ∃ t, p ++ ⟨#[42, 63]⟩ = t := ⟨_, rfl⟩
      rw [ho4] at ha4 hc4
      clear ho4
      have HM0 := Lib.hid (show matchR (⟨#[42]⟩ : ByteArray).data.toList s.data.toList = (true, 0) by
        rw [matchR_of (l := [.star]) rfl (by decide) (plain_chk HS.out), matB_iff.2 (mat_all _)])
      obtain rfl : b1 = b2 := by rw [← hb1, ← hb2]; exact matB_ext (mat_mid mat_two_stars _)
      obtain rfl : b3 = b4 := by rw [← hb3, ← hb4]; exact matB_ext (mat_mid mat_swap _)
      have h31 : b3 = true → b1 = true := fun h => by
        rw [← hb1, matB_iff]
        rw [← hb3, matB_iff] at h
        exact mat_mid_of (fun w _ => mat_all w) h
      have H31 := Lib.hid h31
      have hmax := max5
      clear hb1 hb2 hb3 hb4 hl hm h31
      go_wp2_with fail
      refine (H.mtch ⟨#[42]⟩ s true 0 HM0.out wc).mono ?_
      rintro e w11 ⟨rfl, h11⟩
      have HB11 := Lib.hid (below_seq HB.out h11 HB.out.size)
      clear h11
      go_wp2_with fail
      refine (H.mtch t1 s b1 0 HM1.out w11).mono ?_
      rintro e w12 ⟨rfl, h12⟩
      have HB12 := Lib.hid (below_seq HB11.out h12 HB11.out.size)
      clear h12
      go_wp2_with fail
      refine (H.mtch t2 s b1 0 HM2.out w12).mono ?_
      rintro e w13 ⟨rfl, h13⟩
      have HB13 := Lib.hid (below_seq HB12.out h13 HB12.out.size)
      clear h13
      go_wp2_with fail
      refine (H.mtch t3 s b3 0 HM3.out w13).mono ?_
      rintro e w14 ⟨rfl, h14⟩
      have HB14 := Lib.hid (below_seq HB13.out h14 HB13.out.size)
      clear h14
      go_wp2_with fail
      refine (H.mtch t4 s b3 0 HM4.out w14).mono ?_
      rintro e w15 ⟨rfl, h15⟩
      have HB15 := Lib.hid (below_seq HB14.out h15 HB14.out.size)
      clear h15
      cases b3 with
      | true =>
        obtain rfl : b1 = true := H31.out (by trivial)
        go_wp2_with fail
        refine (awake_any H.toGlobOk1 w15).mono ?_
        rintro e w16 ⟨rfl, h16⟩
        have HB16 := Lib.hid (below_seq HB15.out h16 HB15.out.size)
        clear h16
        go_wp2_with fail
        go_ret
        exact ⟨rfl, HB16.out⟩
      | false =>
        go_wp2_with fail
        refine (awake_any H.toGlobOk1 w15).mono ?_
        rintro e w16 ⟨rfl, h16⟩
        have HB16 := Lib.hid (below_seq HB15.out h16 HB15.out.size)
        clear h16
        go_wp2_with fail
        go_ret
        exact ⟨rfl, HB16.out⟩
end Go.Proofs.Ytjjdihkjkmhjnaa
