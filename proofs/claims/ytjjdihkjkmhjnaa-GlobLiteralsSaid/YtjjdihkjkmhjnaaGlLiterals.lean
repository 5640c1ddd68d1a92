/- GlobLiterals: the law's walk. Written by tools/gen_gllaws.py. -/
import Derived.Test.YtjjdihkjkmhjnaaGlParts
import Derived.Test.YtjjdihkjkmhjnaaGlSome
namespace Go.Proofs.Ytjjdihkjkmhjnaa
set_option linter.unusedSimpArgs false
set_option linter.unusedVariables false
set_option maxRecDepth 100000
open Go.RowKit Go.Deep

theorem lit_ch {x : El} {c : UInt8} (h : x.lit = some c) (hok : x.ok = true) : chW c = true := by
  cases x with
  | one a =>
    cases h
    simp only [El.ok, Bool.and_eq_true] at hok
    exact hok.1.1
  | any => cases h
  | star => cases h
  | cls cs =>
    cases cs with
    | nil => cases h
    | cons a r =>
      change (if r.all (· == a) then some a else none) = some c at h
      by_cases ha : r.all (· == a) = true
      · rw [if_pos ha] at h
        cases h
        simp only [El.ok, Bool.and_eq_true] at hok
        exact List.all_eq_true.1 hok.2 _ (by simp)
      · rw [if_neg ha] at h; cases h
theorem lits_small : ∀ {l : List El} {v : List UInt8}, lits l = some v → oks l → v.length = l.length ∧ v.any (· == 32) = false
  | [], v, h, _ => by rw [lits] at h; cases h; exact ⟨rfl, rfl⟩
  | x :: l, v, h, hok => by
    rw [lits] at h
    cases hx : x.lit with
    | none => rw [hx] at h; cases h
    | some c =>
      rw [hx] at h
      cases hl : lits l with
      | none => rw [hl] at h; cases h
      | some u =>
        rw [hl] at h
        cases h
        obtain ⟨h1, h2⟩ := lits_small hl fun y hy => hok y (by simp [hy])
        have h3 := (chW_ne (lit_ch hx (hok x (by simp)))).2.2
        refine ⟨by rw [List.length_cons, h1, List.length_cons], ?_⟩
        rw [List.any_cons, h2, Bool.or_false]
        exact beq_false_of_ne h3
set_option maxHeartbeats 4000000 in
theorem literals_law (H : GlobOk) (p s : ByteArray) (hp64 : p.size ≤ 9223372036854775807) (hs64 : s.size ≤ 9223372036854775807) (w : World) :
    Calls Try.prog 6 #[.string p, .string s] w fun e w' => e = .returned (.bool true) ∧ Below w.heap.size w w' := by
  obtain ⟨fp, hfp⟩ : ∃ b, fineB p.data.toList = b := ⟨_, rfl⟩
  obtain ⟨fs, hfs⟩ : ∃ b, plainB s.data.toList = b := ⟨_, rfl⟩
  have HP := Lib.hid hfp
  have HS := Lib.hid hfs
  clear hfp hfs
  go_enter Try.func6, Try.ntmps6
  go_upto_region 1 with fail
  go_cut [19] from 12 (fun sc W2 => ∃ b : Bool, sc = .bool b ∧ Below w.heap.size w W2 ∧ (b = false → fp = true ∧ fs = true))
  case first =>
    go_wp2_with fail
    refine (fine_at H.toGlobOk1 p fp HP.out w).mono ?_
    rintro e w1 ⟨rfl, h1⟩
    have HB1 := Lib.hid (h1)
    clear h1
    cases fp with
    | false =>
      go_wp2_with fail
      go_meet
      case rel => exact ⟨true, rfl, HB1.out, fun h => (nomatch h)⟩
    | true =>
      go_wp2_with fail
      refine (plain_at s fs HS.out w1).mono ?_
      rintro e w9 ⟨rfl, rfl⟩
      go_wp2_with fail
      go_meet
      case rel => exact ⟨!fs, rfl, HB1.out, fun h => ⟨by trivial, by simpa using h⟩⟩
  case rest =>
    obtain ⟨b, rfl, hB, hb⟩ := hcut
    have HB := Lib.hid hB
    have HBB := Lib.hid hb
    clear hB hb
    cases b with
    | true =>
      go_wp2_with fail
      refine (awake_any H.toGlobOk1 wc).mono ?_
      rintro e w4 ⟨rfl, h4⟩
      have HB4 := Lib.hid (below_seq HB.out h4 HB.out.size)
      clear h4
      go_wp2_with fail
      go_ret
      exact ⟨rfl, HB4.out⟩
    | false =>
      obtain ⟨rfl, rfl⟩ := HBB.out (by trivial)
      obtain ⟨hp, l, hl, hokl, htxl⟩ := fine_ok HP.out
      obtain ⟨hs, _⟩ := plain_ok HS.out
      rw [size_list] at hp hs
      have hck := chk_of_par hl (by rw [size_list]; omega)
      have hpl : p.data.toList.length ≤ 64 := by rw [size_list]; omega
      cases hlit : lits l with
      | none =>
        have HL := Lib.hid (show litR p.data.toList = ((⟨#[]⟩ : ByteArray).data.toList, false, 0) by
          rw [litR, if_neg (by rw [hck]; decide), hl]
          simp only
          rw [hlit])
        have HSM := Lib.hid (some_at p ⟨#[63, 42, 91]⟩ (by omega) true (by
          obtain ⟨c, hc, hcc⟩ := no_lit hlit
          rw [htxl] at hc
          rw [anyIn, List.any_eq_true]
          refine ⟨c, hc, ?_⟩
          rcases hcc with rfl | rfl | rfl <;> decide))
        clear hck hpl hlit hl htxl hokl
        go_wp2_with fail
        refine (H.literal p ⟨#[]⟩ false 0 HL.out wc).mono ?_
        rintro e w11 ⟨rfl, h11⟩
        have HB11 := Lib.hid (below_seq HB.out h11 HB.out.size)
        clear h11
        go_wp2_with fail
        refine (HSM.out w11).mono ?_
        rintro e w12 ⟨rfl, h12⟩
        have HB12 := Lib.hid (below_seq HB11.out h12 HB11.out.size)
        clear h12
        go_wp2_with fail
        refine (awake_any H.toGlobOk1 w12).mono ?_
        rintro e w13 ⟨rfl, h13⟩
        have HB13 := Lib.hid (below_seq HB12.out h13 HB12.out.size)
        clear h13
        go_wp2_with fail
        go_ret
        exact ⟨rfl, HB13.out⟩
      | some vl =>
        obtain ⟨v, hv⟩ : ∃ v : ByteArray, v.data.toList = vl := ⟨⟨vl.toArray⟩, by simp⟩
        subst hv
        obtain ⟨h1, h2⟩ := lits_small hlit hokl
        have hl12 : v.data.toList.length ≤ 12 := by
          have := (txts_len l).1
          rw [htxl, size_list] at this
          omega
        have HL := Lib.hid (show litR p.data.toList = (v.data.toList, true, 0) by
          rw [litR, if_neg (by rw [hck]; decide), hl]
          simp only
          rw [hlit])
        have HM1 := Lib.hid (show matchR p.data.toList v.data.toList = (true, 0) by
          rw [matchR_of hl hpl (chkW_small (by omega) h2), matB_iff.2 ((lits_mat hlit _).2 rfl)])
        obtain ⟨b, hb⟩ : ∃ b, matB l s.data.toList = b := ⟨_, rfl⟩
        have HM2 := Lib.hid (show matchR p.data.toList s.data.toList = (b, 0) by rw [matchR_of hl hpl (plain_chk HS.out), hb])
        have heq : (s.toList == v.toList) = b := by
          rw [ByteArray.toList_eq, ByteArray.toList_eq, ← hb]
          rw [Bool.eq_iff_iff, beq_iff_eq, matB_iff]
          exact (lits_mat hlit _).symm
        clear hck hpl hlit hl htxl hokl h1 h2 hl12 hb
        go_wp2_with fail
        refine (H.literal p v true 0 HL.out wc).mono ?_
        rintro e w11 ⟨rfl, h11⟩
        have HB11 := Lib.hid (below_seq HB.out h11 HB.out.size)
        clear h11
        go_wp2_with fail
        refine (H.mtch p v true 0 HM1.out w11).mono ?_
        rintro e w12 ⟨rfl, h12⟩
        have HB12 := Lib.hid (below_seq HB11.out h12 HB11.out.size)
        clear h12
        go_wp2_with fail
        refine (H.mtch p s b 0 HM2.out w12).mono ?_
        rintro e w13 ⟨rfl, h13⟩
        have HB13 := Lib.hid (below_seq HB12.out h13 HB12.out.size)
        clear h13
        go_wp2_with fail
        refine (awake_any H.toGlobOk1 w13).mono ?_
        rintro e w14 ⟨rfl, h14⟩
        have HB14 := Lib.hid (below_seq HB13.out h14 HB13.out.size)
        clear h14
        go_wp2_with fail
        go_ret
        exact ⟨rfl, HB14.out⟩
end Go.Proofs.Ytjjdihkjkmhjnaa
