/- GlobBounds: the law's walk. Written by tools/gen_gllaws.py. -/
import Derived.Test.YtjjdihkjkmhjnaaGlParts
namespace Go.Proofs.Ytjjdihkjkmhjnaa
set_option linter.unusedSimpArgs false
set_option linter.unusedVariables false
set_option maxRecDepth 100000
open Go.RowKit Go.Deep

set_option maxHeartbeats 4000000 in
theorem bounds_law (H : GlobOk) (p s : ByteArray) (hp64 : p.size ≤ 9223372036854775807) (hs64 : s.size ≤ 9223372036854775807) (w : World) :
    Calls Try.prog 7 #[.string p, .string s] w fun e w' => e = .returned (.bool true) ∧ Below w.heap.size w w' := by
  obtain ⟨fp, hfp⟩ : ∃ b, fineB p.data.toList = b := ⟨_, rfl⟩
  obtain ⟨fs, hfs⟩ : ∃ b, plainB s.data.toList = b := ⟨_, rfl⟩
  have HP := Lib.hid hfp
  have HS := Lib.hid hfs
  clear hfp hfs
  go_enter Try.func7, Try.ntmps7
  go_upto_region 1 with fail
  go_cut [17] from 10 (fun sc W2 => ∃ b : Bool, sc = .bool b ∧ Below w.heap.size w W2 ∧ (b = false → fp = true ∧ fs = true))
  case first =>
    go_wp2_with fail
    refine (fine_at H.toGlobOk1 p fp HP.out w).mono ?_
    rintro e w1 ⟨rfl, h1⟩
    have HB1 := Lib.hid (h1)
    clear h1
    cases fp with
    | false =>
      go_wp2_with fail
      go_meet
      case rel => exact ⟨true, rfl, HB1.out, fun h => (nomatch h)⟩
    | true =>
      go_wp2_with fail
      refine (plain_at s fs HS.out w1).mono ?_
      rintro e w9 ⟨rfl, rfl⟩
      go_wp2_with fail
      go_meet
      case rel => exact ⟨!fs, rfl, HB1.out, fun h => ⟨by trivial, by simpa using h⟩⟩
  case rest =>
    obtain ⟨b, rfl, hB, hb⟩ := hcut
    have HB := Lib.hid hB
    have HBB := Lib.hid hb
    clear hB hb
    cases b with
    | true =>
      go_wp2_with fail
      refine (awake_any H.toGlobOk1 wc).mono ?_
      rintro e w4 ⟨rfl, h4⟩
      have HB4 := Lib.hid (below_seq HB.out h4 HB.out.size)
      clear h4
      go_wp2_with fail
      go_ret
      exact ⟨rfl, HB4.out⟩
    | false =>
      obtain ⟨rfl, rfl⟩ := HBB.out (by trivial)
      obtain ⟨hp, l, hl, hokl, htxl⟩ := fine_ok HP.out
      obtain ⟨hs, _⟩ := plain_ok HS.out
      rw [size_list] at hp hs
      obtain ⟨is, his⟩ : ∃ b, matB l s.data.toList = b := ⟨_, rfl⟩
      have HM := Lib.hid (show matchR p.data.toList s.data.toList = (is, 0) by rw [matchR_of hl (by rw [size_list]; omega) (plain_chk HS.out), his])
      have hck := chk_of_par hl (by rw [size_list]; omega)
      obtain ⟨n, hn⟩ : ∃ n, leastN l = n := ⟨_, rfl⟩
      obtain ⟨st, hst⟩ : ∃ b, starsB l = b := ⟨_, rfl⟩
      have hn12 : n ≤ 12 := by
        have h1 := List.length_filter_le (fun x : El => !x.isS) l
        have h2 := (txts_len l).1
        rw [htxl, size_list] at h2
        rw [← hn]; unfold leastN; omega
      have HLEN := Lib.hid (show is = true → n ≤ s.size ∧ (st = false → s.size = n) from fun h => by
        rw [← his, matB_iff] at h
        have := mat_len h
        rw [hn, hst, size_list] at this
        exact this)
      have HB0 := Lib.hid (show boundsR p.data.toList = if st then ((n : Int), -1, 0) else ((n : Int), (n : Int), 0) by
        rw [boundsR, if_neg (by rw [hck]; decide), hl]
        simp only
        rw [hst, hn])
      obtain ⟨cs, hcs⟩ : ∃ b, p.data.toList.any (· == 42) = b := ⟨_, rfl⟩
      have HCS := Lib.hid (contains_at p 42 cs hcs)
      have HST := Lib.hid (show st = true → cs = true from fun h => by
        rw [← hcs, List.any_eq_true]
        exact ⟨42, by rw [← htxl]; exact stars_mem (hst.trans h), by decide⟩)
      have hn0 : (0 : Int) ≤ n := by omega
      have hnneg : decide ((n : Int) < 0) = false := decide_eq_false (by omega)
      clear his hck hn hst hcs hl htxl hokl
      cases st with
      | true =>
        obtain rfl : cs = true := HST.out (by trivial)
        go_wp2_with fail
        refine (H.bounds p n (-1) 0 HB0.out wc).mono ?_
        rintro e w11 ⟨rfl, h11⟩
        have HB11 := Lib.hid (below_seq HB.out h11 HB.out.size)
        clear h11
        go_wp2_with fail
        refine (H.mtch p s is 0 HM.out w11).mono ?_
        rintro e w12 ⟨rfl, h12⟩
        have HB12 := Lib.hid (below_seq HB11.out h12 HB11.out.size)
        clear h12
        go_wp2_with fail
        refine (HCS.out w12).mono ?_
        rintro e wz ⟨rfl, rfl⟩
        cases is with
        | false =>
          go_wp2_with fail
          refine (awake_any H.toGlobOk1 w12).mono ?_
          rintro e w13 ⟨rfl, h13⟩
          have HB13 := Lib.hid (below_seq HB12.out h13 HB12.out.size)
          clear h13
          go_wp2_with fail
          go_ret
          exact ⟨rfl, HB13.out⟩
        | true =>
          obtain ⟨hge, hle⟩ := HLEN.out (by trivial)
          have hq1 : decide ((n : Int) ≤ s.size) = true := decide_eq_true (by omega)
          go_wp2_with fail
          refine (awake_any H.toGlobOk1 w12).mono ?_
          rintro e w13 ⟨rfl, h13⟩
          have HB13 := Lib.hid (below_seq HB12.out h13 HB12.out.size)
          clear h13
          go_wp2_with fail
          go_ret
          exact ⟨rfl, HB13.out⟩
      | false =>
        go_wp2_with fail
        refine (H.bounds p n n 0 HB0.out wc).mono ?_
        rintro e w11 ⟨rfl, h11⟩
        have HB11 := Lib.hid (below_seq HB.out h11 HB.out.size)
        clear h11
        go_wp2_with fail
        refine (H.mtch p s is 0 HM.out w11).mono ?_
        rintro e w12 ⟨rfl, h12⟩
        have HB12 := Lib.hid (below_seq HB11.out h12 HB11.out.size)
        clear h12
        go_wp2_with fail
        refine (HCS.out w12).mono ?_
        rintro e wz ⟨rfl, rfl⟩
        cases cs with
        | true =>
          cases is with
          | false =>
            go_wp2_with fail
            refine (awake_any H.toGlobOk1 w12).mono ?_
            rintro e w13 ⟨rfl, h13⟩
            have HB13 := Lib.hid (below_seq HB12.out h13 HB12.out.size)
            clear h13
            go_wp2_with fail
            go_ret
            exact ⟨rfl, HB13.out⟩
          | true =>
            obtain ⟨hge, hle⟩ := HLEN.out (by trivial)
            have hq1 : decide ((n : Int) ≤ s.size) = true := decide_eq_true (by omega)
            have hle2 := hle (by trivial)
            have hle3 : s.size ≤ n := by omega
            clear hle hle2
            go_wp2_with fail
            refine (awake_any H.toGlobOk1 w12).mono ?_
            rintro e w13 ⟨rfl, h13⟩
            have HB13 := Lib.hid (below_seq HB12.out h13 HB12.out.size)
            clear h13
            go_wp2_with fail
            go_ret
            exact ⟨rfl, HB13.out⟩
        | false =>
          cases is with
          | false =>
            go_wp2_with fail
            refine (awake_any H.toGlobOk1 w12).mono ?_
            rintro e w13 ⟨rfl, h13⟩
            have HB13 := Lib.hid (below_seq HB12.out h13 HB12.out.size)
            clear h13
            go_wp2_with fail
            go_ret
            exact ⟨rfl, HB13.out⟩
          | true =>
            obtain ⟨hge, hle⟩ := HLEN.out (by trivial)
            have hq1 : decide ((n : Int) ≤ s.size) = true := decide_eq_true (by omega)
            have hle2 := hle (by trivial)
            have hle3 : s.size ≤ n := by omega
            clear hle hle2
            go_wp2_with fail
            refine (awake_any H.toGlobOk1 w12).mono ?_
            rintro e w13 ⟨rfl, h13⟩
            have HB13 := Lib.hid (below_seq HB12.out h13 HB12.out.size)
            clear h13
            go_wp2_with fail
            go_ret
            exact ⟨rfl, HB13.out⟩
end Go.Proofs.Ytjjdihkjkmhjnaa
