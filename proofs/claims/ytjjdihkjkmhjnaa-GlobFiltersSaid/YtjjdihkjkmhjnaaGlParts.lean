/- GlobParts: the law's walk. -/
import Derived.Test.YtjjdihkjkmhjnaaGlHelp
import Derived.Test.YtjjdihkjkmhjnaaGlSpecF
import Derived.Deep.Cut
namespace Go.Proofs.Ytjjdihkjkmhjnaa
set_option linter.unusedSimpArgs false
set_option linter.unusedVariables false
set_option maxRecDepth 100000
open Go.RowKit Go.Deep

theorem plain_take {w : List UInt8} (h : plainB w = true) (i : Nat) : chkW (w.take i) = 0 := by
  obtain ⟨h1, h2⟩ := plain_ok h
  refine chkW_small (by rw [List.length_take]; omega) ?_
  rw [List.any_eq_false] at h2 ⊢
  exact fun x hx => h2 x (List.mem_of_mem_take hx)
theorem plain_drop {w : List UInt8} (h : plainB w = true) (i : Nat) : chkW (w.drop i) = 0 := by
  obtain ⟨h1, h2⟩ := plain_ok h
  refine chkW_small (by rw [List.length_drop]; omega) ?_
  rw [List.any_eq_false] at h2 ⊢
  exact fun x hx => h2 x (List.mem_of_mem_drop hx)
theorem add_list (a b : ByteArray) : (a ++ b).data.toList = a.data.toList ++ b.data.toList := by simp
def preP (l m : List El) (w : List UInt8) (i : Nat) : Bool := (List.range i).any fun j => matB l (w.take j) && matB m (w.drop j)
theorem preP_succ (l m : List El) (w : List UInt8) (i : Nat) : preP l m w (i + 1) = (preP l m w i || (matB l (w.take i) && matB m (w.drop i))) := by
  unfold preP
  rw [List.range_succ, List.any_append]; simp
set_option maxHeartbeats 4000000 in
theorem parts_law (H : GlobOk) (p q s : ByteArray) (hp64 : p.size ≤ 9223372036854775807) (hq64 : q.size ≤ 9223372036854775807) (hs64 : s.size ≤ 9223372036854775807) (w : World) :
    Calls Try.prog 5 #[.string p, .string q, .string s] w fun e w' => e = .returned (.bool true) ∧ Below w.heap.size w w' := by
  obtain ⟨fp, hfp⟩ : ∃ b, fineB p.data.toList = b := ⟨_, rfl⟩
  obtain ⟨fq, hfq⟩ : ∃ b, fineB q.data.toList = b := ⟨_, rfl⟩
  obtain ⟨fs, hfs⟩ : ∃ b, plainB s.data.toList = b := ⟨_, rfl⟩
  have HP := Lib.hid hfp
  have HQ := Lib.hid hfq
  have HS := Lib.hid hfs
  clear hfp hfq hfs
  go_enter Try.func5, Try.ntmps5
  go_upto_region 1 with fail
  go_cut [27] from 15 (fun s27 W2 => ∃ b : Bool, s27 = .bool b ∧ Below w.heap.size w W2 ∧ (b = false → fp = true ∧ fq = true ∧ fs = true))
  case first =>
    go_wp2_with fail
    refine (fine_at H.toGlobOk1 p fp HP.out w).mono ?_
    rintro e w1 ⟨rfl, h1⟩
    have HB1 := Lib.hid h1
    clear h1
    cases fp with
    | false =>
      go_wp2_with fail
      go_meet
      case rel => exact ⟨true, rfl, HB1.out, fun h => (nomatch h)⟩
    | true =>
      go_wp2_with fail
      refine (fine_at H.toGlobOk1 q fq HQ.out w1).mono ?_
      rintro e w2 ⟨rfl, h2⟩
      have HB2 := Lib.hid (below_seq HB1.out h2 HB1.out.size)
      clear h2
      cases fq with
      | false =>
        go_wp2_with fail
        go_meet
        case rel => exact ⟨true, rfl, HB2.out, fun h => (nomatch h)⟩
      | true =>
        go_wp2_with fail
        refine (plain_at s fs HS.out w2).mono ?_
        rintro e w3 ⟨rfl, rfl⟩
        go_wp2_with fail
        go_meet
        case rel => exact ⟨!fs, rfl, HB2.out, fun h => ⟨by trivial, by trivial, by simpa using h⟩⟩
  case rest =>
    obtain ⟨b, rfl, hB, hb⟩ := hcut
    have HB := Lib.hid hB
    have HBB := Lib.hid hb
    clear hB hb
    cases b with
    | true =>
      go_wp2_with fail
      refine (awake_any H.toGlobOk1 wc).mono ?_
      rintro e w4 ⟨rfl, h4⟩
      have HB4 := Lib.hid (below_seq HB.out h4 HB.out.size)
      clear h4
      go_wp2_with fail
      go_ret
      exact ⟨rfl, HB4.out⟩
    | false =>
      obtain ⟨rfl, rfl, rfl⟩ := HBB.out (by trivial)
      obtain ⟨hp, l, hl, _, _⟩ := fine_ok HP.out
      obtain ⟨hq, m, hm, _, _⟩ := fine_ok HQ.out
      obtain ⟨hs, _⟩ := plain_ok HS.out
      rw [size_list] at hp hq hs
      obtain ⟨is, his⟩ : ∃ is, matB (l ++ m) s.data.toList = is := ⟨_, rfl⟩
      have hm0 : matchR (p ++ q).data.toList s.data.toList = (is, 0) := by
        rw [add_list, matchR_of (par_app2 hl hm) (by rw [List.length_append, size_list, size_list]; omega) (plain_chk HS.out), his]
      have HM0 := Lib.hid hm0
      have HIS := Lib.hid (show is = preP l m s.data.toList (s.size + 1) by rw [← his, matB_parts, size_list]; rfl)
      have HMA := Lib.hid (fun i => matchR_of hl (by rw [size_list]; omega) (plain_take HS.out i))
      have HMB := Lib.hid (fun i => matchR_of hm (by rw [size_list]; omega) (plain_drop HS.out i))
      have hadd : ∀ w, (Op.stringOp .add p q).run Try.prog w = .ok (.string (p ++ q)) w := fun w => run_string_add_sum w _ _ (by omega)
      clear hl hm his hm0
      go_wp2_with fail
      refine (H.mtch (p ++ q) s is 0 HM0.out wc).mono ?_
      rintro e w1 ⟨rfl, h1⟩
      have HB1 := Lib.hid (below_seq HB.out h1 HB.out.size)
      clear h1 hadd
      go_wp2_with fail
      go_loopw [9, 40] (fun v9 v40 wr => ∃ i : Nat, i ≤ s.size + 1 ∧ v40 = .int .i64 i ∧ v9 = .bool (preP l m s.data.toList i) ∧ Below w.heap.size w wr) (fun _ v40 _ => s.size + 1 - (intOf v40).toNat)
      case atStart => exact ⟨0, Nat.zero_le _, rfl, rfl, HB1.out⟩
      case round =>
        obtain ⟨i, hi, rfl, rfl, hBk⟩ := hrel
        obtain ⟨wk, rfl⟩ : ∃ x, x = wr := ⟨_, rfl⟩
        have HBk := Lib.hid hBk
        clear hBk
        obtain ⟨pr, hpr⟩ : ∃ pr, preP l m s.data.toList i = pr := ⟨_, rfl⟩
        rw [hpr]
        have HPR := Lib.hid hpr
        clear hpr
        by_cases hlt : i < s.size + 1
        · obtain ⟨a, ha⟩ : ∃ a, s.extract 0 i = a := ⟨_, rfl⟩
          obtain ⟨d, hd⟩ : ∃ d, s.extract i s.size = d := ⟨_, rfl⟩
          have hal : a.data.toList = s.data.toList.take i := by rw [← ha, ext_list]; simp
          have hdl := (ext_drop hd).1
          obtain ⟨ma, hma⟩ : ∃ b, matB l (s.data.toList.take i) = b := ⟨_, rfl⟩
          obtain ⟨mb, hmb⟩ : ∃ b, matB m (s.data.toList.drop i) = b := ⟨_, rfl⟩
          have HA := Lib.hid (show matchR p.data.toList a.data.toList = (ma, 0) by rw [hal, HMA.out i, hma])
          have HD := Lib.hid (show matchR q.data.toList d.data.toList = (mb, 0) by rw [hdl, HMB.out i, hmb])
          have HN := Lib.hid (show preP l m s.data.toList (i + 1) = (pr || (ma && mb)) by rw [preP_succ, HPR.out, hma, hmb])
          have hi0 : (0 : Int) ≤ i := by omega
          have hi1 : (i : Int) ≤ s.size := by omega
          clear hal hdl hma hmb
          go_wp2_with fail
          refine (H.mtch p a ma 0 HA.out wk).mono ?_
          rintro e w2 ⟨rfl, h2⟩
          have HB2 := Lib.hid (below_seq HBk.out h2 HBk.out.size)
          clear h2
          go_wp2_with fail
          refine (H.mtch q d mb 0 HD.out w2).mono ?_
          rintro e w3 ⟨rfl, h3⟩
          have HB3 := Lib.hid (below_seq HB2.out h3 HB2.out.size)
          clear h3
          cases pr with
          | true =>
            go_wp2_with fail
            refine ⟨⟨i + 1, by omega, by go_num, by rw [HN.out]; rfl, HB3.out⟩, ?_⟩
            simp [intOf]; omega
          | false =>
            cases ma with
            | true =>
              go_wp2_with fail
              refine ⟨⟨i + 1, by omega, by go_num, by rw [HN.out]; rfl, HB3.out⟩, ?_⟩
              simp [intOf]; omega
            | false =>
              go_wp2_with fail
              refine ⟨⟨i + 1, by omega, by go_num, by rw [HN.out]; rfl, HB3.out⟩, ?_⟩
              simp [intOf]; omega
        · obtain rfl : i = s.size + 1 := by omega
          have hpe : is = pr := HIS.out.trans HPR.out
          subst hpe
          go_wp2_with fail
          refine (awake_any H.toGlobOk1 wk).mono ?_
          rintro e w4 ⟨rfl, h4⟩
          have HB4 := Lib.hid (below_seq HBk.out h4 HBk.out.size)
          clear h4
          go_wp2_with fail
          go_ret
          exact ⟨rfl, HB4.out⟩
end Go.Proofs.Ytjjdihkjkmhjnaa
