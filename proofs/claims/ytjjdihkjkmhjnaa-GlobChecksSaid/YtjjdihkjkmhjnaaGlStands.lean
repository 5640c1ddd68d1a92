/- The reference's stands, checkWord, Great. -/
import Derived.Test.YtjjdihkjkmhjnaaGlElem
namespace Go.Proofs.Ytjjdihkjkmhjnaa
set_option linter.unusedSimpArgs false
set_option linter.unusedVariables false
set_option maxRecDepth 100000
open Go.RowKit Go.Deep

set_option maxHeartbeats 1000000 in
theorem refCheckWord_at (s : ByteArray) (er : Int) (hr : chkW s.data.toList = er) (w : World) :
    Calls Try.prog 46 #[.string s] w fun e w' => e = .returned (intV er) ∧ w = w' := by
  unfold chkW at hr
  rw [size_list] at hr
  by_cases h1 : 64 < s.size
  · rw [if_pos h1] at hr
    subst hr
    have q : decide ((64 : Int) < s.size) = true := decide_eq_true (by omega)
    go_enter Try.func46, Try.ntmps46
    go_wp2_with fail
    go_ret
    exact ⟨rfl, rfl⟩
  · rw [if_neg h1] at hr
    have q : decide ((64 : Int) < s.size) = false := decide_eq_false (by omega)
    have HR := Lib.hid hr
    clear hr
    go_enter Try.func46, Try.ntmps46
    go_wp2_with fail
    go_loopw [3] (fun i wr => ∃ j : Nat, i = .int .i64 j ∧ j ≤ s.size ∧ Hid (∀ (m : Nat) (h : m < s.size), m < j → s[m] ≠ 32) ∧ w = wr) (fun i _ => s.size - (intOf i).toNat)
    case atStart => exact ⟨0, rfl, Nat.zero_le _, Lib.hid (fun m h h2 => by omega), by trivial⟩
    case round =>
      obtain ⟨j, rfl, hj, HA, rfl⟩ := hrel
      by_cases hlt : j < s.size
      · by_cases hc : s[j] = 32
        · have hq : ((s[j].toNat : Int) == 32) = true := byte_eq rfl hc
          have he : er = 11 := by
            rw [← HR.out, if_pos (any_of_mem (c := s[j]) (by rw [← ba_get s j hlt]; exact List.getElem_mem _) hc)]
          subst he
          clear hc
          go_wp2_with fail
          go_ret
          exact ⟨rfl, by trivial⟩
        · have hq : ((s[j].toNat : Int) == 32) = false := byte_ne (e := 32) rfl hc
          have HC := Lib.hid hc
          clear hc
          go_wp2_with fail
          refine ⟨⟨j + 1, by go_num, by omega, Lib.hid (fun m h h2 => ?_), by trivial⟩, ?_⟩
          · rcases Nat.lt_or_ge m j with h3 | h3
            · exact HA.out m h h3
            · obtain rfl : m = j := by omega
              exact HC.out
          · simp [intOf]; omega
      · have he : er = 0 := by
          rw [← HR.out, if_neg]
          rw [List.any_eq_true]
          rintro ⟨c, hm, hc⟩
          obtain ⟨m, hm', rfl⟩ := List.getElem_of_mem hm
          have hms : m < s.size := by rw [size_list] at hm'; exact hm'
          rw [ba_get s m hms] at hc
          exact HA.out m hms (by omega) (by simpa using hc)
        subst he
        go_wp2_with fail
        go_ret
        exact ⟨rfl, by trivial⟩
set_option maxHeartbeats 1000000 in
theorem refGreat_at (s : ByteArray) (r : Bool) (hr : greatB s.size = r) (w : World) :
    Calls Try.prog 11 #[.string s] w fun e w' => e = .returned (.bool r) ∧ w = w' := by
  unfold greatB at hr
  by_cases h1 : 12 < s.size
  · have q1 : decide ((12 : Int) < s.size) = true := decide_eq_true (by omega)
    by_cases h2 : s.size ≤ 64
    · have q2 : decide ((s.size : Int) ≤ 64) = true := decide_eq_true (by omega)
      have : r = true := by rw [← hr]; simp [h1, h2]
      subst this
      clear hr
      go_enter Try.func11, Try.ntmps11
      go_wp2_with fail
      go_ret
      exact ⟨rfl, rfl⟩
    · have q2 : decide ((s.size : Int) ≤ 64) = false := decide_eq_false (by omega)
      have : r = decide ((66 : Int) < s.size) := by
        rw [← hr]
        have e1 : decide (s.size ≤ 64) = false := decide_eq_false h2
        rw [e1, Bool.and_false, Bool.false_or]
        exact decide_eq_decide.2 (by omega)
      subst this
      clear hr
      go_enter Try.func11, Try.ntmps11
      go_wp2_with fail
      go_ret
      exact ⟨rfl, rfl⟩
  · have q1 : decide ((12 : Int) < s.size) = false := decide_eq_false (by omega)
    have q3 : decide ((66 : Int) < s.size) = false := decide_eq_false (by omega)
    have : r = false := by
      rw [← hr]
      have e1 : decide (12 < s.size) = false := decide_eq_false h1
      have e2 : decide (66 < s.size) = false := decide_eq_false (by omega)
      rw [e1, e2]; rfl
    subst this
    clear hr
    go_enter Try.func11, Try.ntmps11
    go_wp2_with fail
    go_ret
    exact ⟨rfl, rfl⟩
set_option maxHeartbeats 2000000 in
theorem refStands_at (x : El) (c : UInt8) (hx : x.ok = true) (hS : x.isS = false) (hsz : x.txt.length ≤ 1048576) (r : Bool) (hr : x.fits c = r) (w : World) :
    Calls Try.prog 62 #[.string (elB x), .int .u8 c.toNat] w fun e w' => e = .returned (.bool r) ∧ w = w' := by
  obtain ⟨s, hs⟩ : ∃ s, elB x = s := ⟨_, rfl⟩
  have hl : s.data.toList = x.txt := by rw [← hs, elB_list]
  rw [hs]
  have hn : s.size = x.txt.length := by rw [← size_list, hl]
  have h0 : 0 < s.size := by rw [hn]; exact txt_pos x
  have g0 : s[0] = x.txt[0]'(txt_pos x) := by
    rw [← ba_get s 0 h0]
    congr 1
  cases x with
  | star => cases hS
  | any =>
    have hb : ((s[0].toNat : Int) != 91) = true := byte_bne (e := 91) rfl (by rw [g0]; decide)
    have hq : (s.toList == [63]) = true := by rw [ByteArray.toList_eq, hl]; rfl
    have : r = true := by rw [← hr]; rfl
    subst this
    clear g0 hs hl hr hn
    go_enter Try.func62, Try.ntmps62
    go_wp2_with fail
    go_ret
    exact ⟨rfl, rfl⟩
  | one a =>
    obtain ⟨n1, n2, n3⟩ := ok_one hx
    have ga : s[0] = a := g0
    have hb : ((s[0].toNat : Int) != 91) = true := by rw [ga]; exact byte_bne (e := 91) rfl n1
    have hq : (s.toList == [63]) = false := by
      rw [ByteArray.toList_eq, hl]
      show ([a] == [63]) = false
      simpa using n2
    have hq2 : ((s[0].toNat : Int) == (c.toNat : Int)) = r := by
      rw [← hr, ga]
      show _ = (a == c)
      by_cases e : a = c
      · rw [byte_eq (e := c) rfl e, e]; exact (beq_self_eq_true _).symm
      · rw [byte_ne (e := c) rfl e]; exact (beq_false_of_ne e).symm
    clear g0 ga hs hl hr hn n1 n2 n3 hx hS
    go_enter Try.func62, Try.ntmps62
    go_wp2_with fail
    go_ret
    exact ⟨rfl, rfl⟩
  | cls cs =>
    have ga : s[0] = 91 := g0
    have hb : ((s[0].toNat : Int) != 91) = false := byte_nbne rfl ga
    have hsl : s.size = cs.length + 2 := by rw [hn]; simp [El.txt]
    have get : ∀ (j : Nat) (h : j < cs.length) (h' : j + 1 < s.size), s[j + 1] = cs[j] := fun j h h' => by
      rw [← ba_get s (j + 1) h']
      have : s.data.toList = 91 :: (cs ++ [93]) := hl
      simp only [this]
      rw [List.getElem_cons_succ, List.getElem_append_left h]
    have HG := Lib.hid get
    have HR := Lib.hid (show cs.any (· == c) = r from hr)
    have HSL := Lib.hid hsl
    have hss : s.size ≤ 1048576 := by rw [hn]; exact hsz
    clear g0 ga hs hl hr hn hx hS get hsz hsl
    go_enter Try.func62, Try.ntmps62
    go_wp2_with fail
    go_loopw [5] (fun i wr => ∃ j : Nat, i = .int .i64 j ∧ 1 ≤ j ∧ j + 1 ≤ s.size ∧ Hid (∀ (m : Nat) (h : m < cs.length), m + 1 < j → cs[m] ≠ c) ∧ w = wr) (fun i _ => s.size - (intOf i).toNat)
    case atStart => exact ⟨1, rfl, Nat.le_refl _, by have := HSL.out; omega, Lib.hid (fun m h h2 => by omega), by trivial⟩
    case round =>
      obtain ⟨j, rfl, hj1, hj, HA, rfl⟩ := hrel
      by_cases hlt : j + 1 < s.size
      · have hjl : j < s.size := by omega
        have hjc : j - 1 < cs.length := by have := HSL.out; omega
        have hgj := HG.out (j - 1) hjc (by omega)
        simp only [Nat.sub_add_cancel hj1] at hgj
        by_cases hc : s[j] = c
        · have hq : ((s[j].toNat : Int) == (c.toNat : Int)) = true := byte_eq rfl hc
          have he : r = true := by
            rw [← HR.out, List.any_eq_true]
            exact ⟨_, List.getElem_mem hjc, by rw [← hgj, hc]; exact beq_self_eq_true _⟩
          subst he
          clear hc hgj
          go_wp2_with fail
          go_ret
          exact ⟨rfl, by trivial⟩
        · have hq : ((s[j].toNat : Int) == (c.toNat : Int)) = false := byte_ne (e := c) rfl hc
          have HC := Lib.hid (show cs[j - 1] ≠ c by rw [← hgj]; exact hc)
          clear hc hgj
          go_wp2_with fail
          refine ⟨⟨j + 1, by go_num, by omega, by omega, Lib.hid (fun m h h2 => ?_), by trivial⟩, ?_⟩
          · rcases Nat.lt_or_ge (m + 1) j with h3 | h3
            · exact HA.out m h h3
            · obtain rfl : m = j - 1 := by omega
              exact HC.out
          · simp [intOf]; omega
      · have he : r = false := by
          rw [← HR.out, Bool.eq_false_iff, ne_eq, List.any_eq_true]
          rintro ⟨y, hm, hc⟩
          obtain ⟨m, hm', rfl⟩ := List.getElem_of_mem hm
          exact HA.out m hm' (by have := HSL.out; omega) (by simpa using hc)
        subst he
        go_wp2_with fail
        go_ret
        exact ⟨rfl, by trivial⟩
end Go.Proofs.Ytjjdihkjkmhjnaa
