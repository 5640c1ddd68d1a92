/- GlobShared: the law's walk (a seat of its own, for the table of strings.Trim). -/
import Derived.Test.YtjjdihkjkmhjnaaDoorGlHelp
import Derived.Deep.Cut
import Derived.Shelf.Strings.SlTrimAscii
namespace Go.Proofs.YtjjdihkjkmhjnaaDoor
set_option linter.unusedSimpArgs false
set_option linter.unusedVariables false
set_option maxRecDepth 100000
open Go.RowKit Go.Deep

theorem bytesLess_lt : ∀ a b : List UInt8, Op.bytesLess a b = ltL a b
  | [], [] => rfl
  | [], _ :: _ => rfl
  | _ :: _, [] => rfl
  | a :: x, b :: y => by
    rw [Op.bytesLess, ltL, bytesLess_lt x y]
    rfl
theorem before_at (a b : ByteArray) (r : Bool) (hr : befL a.data.toList b.data.toList = r) (w : World) :
    Calls Tryd.prog 10 #[.string a, .string b] w fun e w' => e = .returned (.bool r) ∧ w = w' := by
  unfold befL at hr
  rw [size_list, size_list] at hr
  by_cases h : a.size = b.size
  · have q : ((a.size : Int) != b.size) = false := by rw [h]; simp
    rw [decide_eq_false (by omega), decide_eq_true h, Bool.false_or, Bool.true_and] at hr
    have hq : Op.bytesLess a.toList b.toList = r := by rw [bytesLess_lt, ByteArray.toList_eq, ByteArray.toList_eq, hr]
    clear hr h
    go_enter Tryd.func10, Tryd.ntmps10
    go_wp2_with fail
    go_ret
    exact ⟨by first | rfl | exact ret_bool hq, rfl⟩
  · have q : ((a.size : Int) != b.size) = true := by simp; omega
    rw [decide_eq_false h, Bool.false_and, Bool.or_false] at hr
    have hq : decide (a.size < b.size) = r := hr
    clear hr h
    go_enter Tryd.func10, Tryd.ntmps10
    go_wp2_with fail
    go_ret
    exact ⟨by first | rfl | exact ret_bool hq, rfl⟩
theorem drop_nil {p : UInt8 → Bool} : ∀ {l : List UInt8}, l.dropWhile p = [] → ∀ x ∈ l, p x = true
  | [], _, x, hx => by simp at hx
  | a :: l, h, x, hx => by
    rw [List.dropWhile_cons] at h
    by_cases ha : p a = true
    · rw [if_pos ha] at h
      rcases List.mem_cons.1 hx with rfl | hx
      · exact ha
      · exact drop_nil h x hx
    · rw [if_neg ha] at h; cases h
theorem drop_head {p : UInt8 → Bool} : ∀ {l : List UInt8} {a : UInt8} {t : List UInt8}, l.dropWhile p = a :: t → p a = false
  | [], a, t, h => by simp at h
  | b :: l, a, t, h => by
    rw [List.dropWhile_cons] at h
    by_cases hb : p b = true
    · rw [if_pos hb] at h; exact drop_head h
    · rw [if_neg hb] at h
      cases h
      simpa using hb
theorem trim_nil {l cs : List UInt8} (h : Lib.trimS l cs = []) : ∀ c ∈ l, cs.contains c = true := by
  unfold Lib.trimS Lib.trimLeftS Lib.trimRightS at h
  have h1 := drop_nil h
  have h2 : l.reverse.dropWhile (cs.contains ·) = [] := by
    cases hd : l.reverse.dropWhile (cs.contains ·) with
    | nil => rfl
    | cons a t =>
      have := drop_head hd
      have h3 := h1 a (by rw [hd]; simp)
      rw [h3] at this
      cases this
  intro c hc
  exact drop_nil h2 c (List.mem_reverse.2 hc)
def lowB : ByteArray := ⟨#[97, 98, 99, 100, 101, 102, 103, 104, 105, 106, 107, 108, 109, 110, 111, 112, 113, 114, 115, 116, 117, 118, 119, 120, 121, 122]⟩
theorem low_ch {c : UInt8} (h : lowB.data.toList.contains c = true) : chW c = true := by
  have h2 : lowB.data.toList.all chW = true := by decide
  exact List.all_eq_true.1 h2 c (by simpa using h)
theorem trim_at (s : ByteArray) (hs : s.size ≤ 9223372036854775807) (w : World) :
    Calls Tryd.prog 6 #[.string s, .string lowB] w fun e w' => ∃ t : ByteArray, e = .returned (.string t) ∧ (t.data.toList = [] → s.data.toList.all chW = true) ∧ Below w.heap.size w w' := by
  refine (Any.strings_Trim_laid Tryd.lays160 (by kernel_rfl) s lowB w hs (by decide) (ascii_of_all (by decide))).mono fun e w' ⟨h1, h2⟩ => ⟨_, h1, fun h => ?_, h2⟩
  rw [List.all_eq_true]
  intro c hc
  exact low_ch (trim_nil (by simpa using h) c hc)
theorem max3 (W : World) : (Builtin.max_ #[25, 25, 25] 25 #[.int .i64 0, .int .i64 0, .int .i64 0]).run Tryd.prog W = .ok (.int .i64 0) W := by rfl
theorem all_chkW {v : List UInt8} (h : v.all chW = true) (hl : v.length ≤ 64) : chkW v = 0 := by
  refine chkW_small hl ?_
  rw [List.any_eq_false]
  intro c hc
  have := (chW_ne (List.all_eq_true.1 h c hc)).2.2
  simpa using this
set_option maxHeartbeats 4000000 in
theorem shared_law (H : GlobOk1) (p q s : ByteArray) (m0 : Nat) (hm0 : m0 ≤ 255) (hp64 : p.size ≤ 9223372036854775807) (hq64 : q.size ≤ 9223372036854775807) (hs64 : s.size ≤ 9223372036854775807) (w : World) :
    Calls Tryd.prog 3 #[.string p, .string q, .string s, .int .u8 m0] w fun e w' => e = .returned (.bool true) ∧ Below w.heap.size w w' := by
  obtain ⟨fp, hfp⟩ : ∃ b, fineB p.data.toList = b := ⟨_, rfl⟩
  obtain ⟨fq, hfq⟩ : ∃ b, fineB q.data.toList = b := ⟨_, rfl⟩
  obtain ⟨fs, hfs⟩ : ∃ b, plainB s.data.toList = b := ⟨_, rfl⟩
  have HP := Lib.hid hfp
  have HQ := Lib.hid hfq
  have HS := Lib.hid hfs
  clear hfp hfq hfs
  go_enter Tryd.func3, Tryd.ntmps3
  go_upto_region 1 with fail
  go_cut [36] from 19 (fun sc W2 => ∃ b : Bool, sc = .bool b ∧ Below w.heap.size w W2 ∧ (b = false → fp = true ∧ fq = true ∧ fs = true ∧ s.data.toList.all chW = true))
  case first =>
    go_wp2_with fail
    refine (fine_at H p fp HP.out w).mono ?_
    rintro e w1 ⟨rfl, h1⟩
    have HB1 := Lib.hid h1
    clear h1
    cases fp with
    | false =>
      go_wp2_with fail
      go_meet
      case rel => exact ⟨true, rfl, HB1.out, fun h => (nomatch h)⟩
    | true =>
      go_wp2_with fail
      refine (fine_at H q fq HQ.out w1).mono ?_
      rintro e w2 ⟨rfl, h2⟩
      have HB2 := Lib.hid (below_seq HB1.out h2 HB1.out.size)
      clear h2
      cases fq with
      | false =>
        go_wp2_with fail
        go_meet
        case rel => exact ⟨true, rfl, HB2.out, fun h => (nomatch h)⟩
      | true =>
        go_wp2_with fail
        refine (plain_at s fs HS.out w2).mono ?_
        rintro e w3 ⟨rfl, rfl⟩
        cases fs with
        | false =>
          go_wp2_with fail
          go_meet
          case rel => exact ⟨true, rfl, HB2.out, fun h => (nomatch h)⟩
        | true =>
          have HTR := Lib.hid (trim_at s hs64)
          go_wp2_with fail
          refine (HTR.out w2).mono ?_
          rintro e w4 ⟨t, rfl, ht, h4⟩
          have HB4 := Lib.hid (below_seq HB2.out h4 HB2.out.size)
          have HTT := Lib.hid ht
          clear h4 ht
          obtain ⟨eb, heb⟩ : ∃ b, t.toList.isEmpty = b := ⟨_, rfl⟩
          have HEB := Lib.hid heb
          go_wp2_with fail
          go_meet
          case rel =>
            refine ⟨!eb, rfl, HB4.out, fun h => ⟨by trivial, by trivial, by trivial, HTT.out ?_⟩⟩
            have he := HEB.out
            rw [show eb = true by simpa using h, ByteArray.toList_eq, List.isEmpty_iff] at he
            exact he
  case rest =>
    obtain ⟨b, rfl, hB, hb⟩ := hcut
    have HB := Lib.hid hB
    have HBB := Lib.hid hb
    clear hB hb
    cases b with
    | true =>
      go_wp2_with fail
      refine (awake_any H wc).mono ?_
      rintro e w4 ⟨rfl, h4⟩
      have HB4 := Lib.hid (below_seq HB.out h4 HB.out.size)
      clear h4
      go_wp2_with fail
      go_ret
      exact ⟨rfl, HB4.out⟩
    | false =>
      obtain ⟨rfl, rfl, rfl, hall⟩ := HBB.out (by trivial)
      obtain ⟨hp, l, hl, _, _⟩ := fine_ok HP.out
      obtain ⟨hq, m, hm, _, _⟩ := fine_ok HQ.out
      obtain ⟨hs, _⟩ := plain_ok HS.out
      go_upto_region 4 with fail
      obtain ⟨n, hn⟩ : ∃ n : Int, (m0 : Int) % 6 = n := ⟨_, rfl⟩
      rw [hn]
      have hn0 : 0 ≤ n := by omega
      have hn5 : n ≤ 5 := by omega
      have hpl : p.data.toList.length ≤ 64 := by omega
      have hql : q.data.toList.length ≤ 64 := by omega
      obtain ⟨bx, hbx⟩ : ∃ b, matB l s.data.toList = b := ⟨_, rfl⟩
      obtain ⟨by', hby⟩ : ∃ b, matB m s.data.toList = b := ⟨_, rfl⟩
      have HMX := Lib.hid (show matchR p.data.toList s.data.toList = (bx, 0) by rw [matchR_of hl hpl (plain_chk HS.out), hbx])
      have HMY := Lib.hid (show matchR q.data.toList s.data.toList = (by', 0) by rw [matchR_of hm hql (plain_chk HS.out), hby])
      have hcp := chk_of_par hl hpl
      have hcq := chk_of_par hm hql
      have HH := Lib.hid (And.intro hl (And.intro hm (And.intro hcp (And.intro hcq (And.intro hall (And.intro hpl hql))))))
      have HBX := Lib.hid hbx
      have HBY := Lib.hid hby
      have hsl : s.data.toList.length = s.size := size_list s
      have HSL := Lib.hid hsl
      clear hl hm hcp hcq hall hpl hql hbx hby hn hsl hp hq
      go_wp2_with fail
      refine (H.common p q n (by omega) (by omega) wc).mono ?_
      rintro e w1 ⟨v, is, r, rfl, hc, h1⟩
      have HB1 := Lib.hid (below_seq HB.out h1 HB.out.size)
      unfold CommonIs at hc
      rw [if_neg (by rw [HH.out.2.2.1, HH.out.2.2.2.1]; decide), if_neg (by omega), HH.out.1, HH.out.2.1] at hc
      simp only at hc
      obtain ⟨rfl, hc⟩ := hc
      have HC := Lib.hid hc
      have hmax := max3
      clear h1 hc
      go_wp2_with fail
      refine (H.mtch p s bx 0 HMX.out w1).mono ?_
      rintro e w2 ⟨rfl, h2⟩
      have HB2 := Lib.hid (below_seq HB1.out h2 HB1.out.size)
      clear h2
      go_wp2_with fail
      refine (H.mtch q s by' 0 HMY.out w2).mono ?_
      rintro e w3 ⟨rfl, h3⟩
      have HB3 := Lib.hid (below_seq HB2.out h3 HB2.out.size)
      clear h3
      rcases HC.out with ⟨rfl, hv1, hv2, hv3, hv4, hv5⟩ | ⟨rfl, hv1, hv2⟩
      · have hvs : v.data.toList.length = v.size := size_list v
        have HMV := Lib.hid (show matchR p.data.toList v.data.toList = (true, 0) by rw [matchR_of HH.out.1 HH.out.2.2.2.2.2.1 (all_chkW hv2 (by omega)), matB_iff.2 hv3])
        have HMU := Lib.hid (show matchR q.data.toList v.data.toList = (true, 0) by rw [matchR_of HH.out.2.1 HH.out.2.2.2.2.2.2 (all_chkW hv2 (by omega)), matB_iff.2 hv4])
        have hvn : decide ((v.size : Int) ≤ n) = true := decide_eq_true (by omega)
        have HBF := Lib.hid (show bx = true → by' = true → befL s.data.toList v.data.toList = false from fun h1 h2 => hv5 _ HH.out.2.2.2.2.1 (matB_iff.1 (HBX.out.trans h1)) (matB_iff.1 (HBY.out.trans h2)))
        clear hv1 hv2 hv3 hv4 hv5 HC hvs
        go_upto_region 9 with fail
        go_cut [92] from 74 (fun sc W2 => sc = .bool false ∧ Below w.heap.size w W2)
        case first =>
          cases bx with
          | false =>
            go_wp2_with fail
            go_meet
            case rel => exact ⟨rfl, HB3.out⟩
          | true =>
            cases by' with
            | false =>
              go_wp2_with fail
              go_meet
              case rel => exact ⟨rfl, HB3.out⟩
            | true =>
              by_cases hsn : (s.size : Int) ≤ n
              · have hq : decide ((s.size : Int) ≤ n) = true := decide_eq_true hsn
                have HBV := Lib.hid (before_at s v false (HBF.out rfl rfl) w3)
                go_wp2_with fail
                refine HBV.out.mono ?_
                rintro e w4 ⟨rfl, rfl⟩
                go_wp2_with fail
                go_meet
                case rel => exact ⟨rfl, HB3.out⟩
              · have hq : decide ((s.size : Int) ≤ n) = false := decide_eq_false hsn
                go_wp2_with fail
                go_meet
                case rel => exact ⟨rfl, HB3.out⟩
        case rest =>
          obtain ⟨rfl, hB4⟩ := hcut
          have HB4 := Lib.hid hB4
          clear hB4 hmax
          go_wp2_with fail
          refine (H.mtch p v true 0 HMV.out _).mono ?_
          rintro e w5 ⟨rfl, h5⟩
          have HB5 := Lib.hid (below_seq HB4.out h5 HB4.out.size)
          clear h5
          go_wp2_with fail
          refine (H.mtch q v true 0 HMU.out w5).mono ?_
          rintro e w6 ⟨rfl, h6⟩
          have HB6 := Lib.hid (below_seq HB5.out h6 HB5.out.size)
          clear h6
          go_wp2_with fail
          refine (awake_any H w6).mono ?_
          rintro e w7 ⟨rfl, h7⟩
          have HB7 := Lib.hid (below_seq HB6.out h7 HB6.out.size)
          clear h7
          go_wp2_with fail
          go_ret
          exact ⟨rfl, HB7.out⟩
      · obtain rfl : v = ⟨#[]⟩ := ba_of hv1
        have HBF := Lib.hid (show bx = true → by' = true → n < s.size from fun h1 h2 => by
          have := hv2 _ HH.out.2.2.2.2.1 (matB_iff.1 (HBX.out.trans h1)) (matB_iff.1 (HBY.out.trans h2))
          rw [HSL.out] at this
          exact this)
        clear hv1 hv2 HC
        go_upto_region 9 with fail
        go_cut [92] from 74 (fun sc W2 => sc = .bool false ∧ Below w.heap.size w W2)
        case first =>
          cases bx with
          | false =>
            go_wp2_with fail
            go_meet
            case rel => exact ⟨rfl, HB3.out⟩
          | true =>
            cases by' with
            | false =>
              go_wp2_with fail
              go_meet
              case rel => exact ⟨rfl, HB3.out⟩
            | true =>
              have hq : decide ((s.size : Int) ≤ n) = false := decide_eq_false (by have := HBF.out rfl rfl; omega)
              go_wp2_with fail
              go_meet
              case rel => exact ⟨rfl, HB3.out⟩
        case rest =>
          obtain ⟨rfl, hB4⟩ := hcut
          have HB4 := Lib.hid hB4
          clear hB4 hmax
          go_wp2_with fail
          refine (awake_any H _).mono ?_
          rintro e w7 ⟨rfl, h7⟩
          have HB7 := Lib.hid (below_seq HB4.out h7 HB4.out.size)
          clear h7
          go_wp2_with fail
          go_ret
          exact ⟨rfl, HB7.out⟩
end Go.Proofs.YtjjdihkjkmhjnaaDoor
