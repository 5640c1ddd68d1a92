/- The reference's Print of layer 2. -/
import Derived.Test.YtkiaiiepfphllaaDoorFpPrint
namespace Go.Proofs.YtkiaiiepfphllaaDoor
set_option linter.unusedSimpArgs false
set_option linter.unusedVariables false
set_option maxRecDepth 100000
open Go.RowKit

theorem drop_at (s : ByteArray) (k : Nat) (h : k < s.size) : s.data.toList.drop k = s[k] :: s.data.toList.drop (k + 1) := by
  rw [List.drop_eq_getElem_cons (by rw [size_list]; exact h)]; rfl
theorem snoc_at (s : ByteArray) (n : Nat) (h : s.size = n + 1) (hlt : n < s.size) : s.data.toList = (s.extract 0 n).data.toList ++ [s[n]] := by
  rw [ext_list, List.drop_zero, Nat.sub_zero]
  have e := (List.take_append_drop n s.data.toList).symm
  rwa [drop_at s n hlt, List.drop_eq_nil_of_le (show s.data.toList.length ≤ n + 1 by rw [size_list]; omega)] at e
theorem trimR_snoc (l : List UInt8) (c : UInt8) : trimR (l ++ [c]) = if c = 48 then trimR l else l ++ [c] := by
  show ((l ++ [c]).reverse.dropWhile (· == 48)).reverse = if c = 48 then (l.reverse.dropWhile (· == 48)).reverse else l ++ [c]
  rw [List.reverse_append]
  by_cases h : c = 48
  · subst h; simp
  · rw [if_neg h]
    have : (c == 48) = false := by simpa using h
    simp [List.dropWhile, this]
def strLen : Value → Nat
  | .string s => s.size
  | _ => 0

theorem refPrint_bad (n : Int) (h : isLen n = false) (w : World) :
    Calls Tryd.prog 14 #[.int .i64 n] w fun e w' => e = .returned (strV (printR n)) ∧ Below w.heap.size w w' := by
  have hr : printR n = ([], 2) := by rw [printR, if_neg (by rw [h]; simp)]
  rw [hr]
  have HK := Lib.hid (show chkN n = 2 by rw [chkN, if_neg (by rw [h]; simp)])
  clear hr h
  go_enter Tryd.func14, Tryd.ntmps14
  go_wp2_with (go_at_call 16; refine (refChk_at n 2 HK.out _).mono ?_; rintro e w' ⟨rfl, rfl⟩)
  go_ret2
  exact ⟨rfl, Below.refl _ _⟩

set_option maxHeartbeats 2000000 in
theorem refPrint_good (n : Int) (h : isLen n = true) (w : World) (hT : Tab w) :
    Calls Tryd.prog 14 #[.int .i64 n] w fun e w' => e = .returned (strV (printR n)) ∧ Below w.heap.size w w' := by
  have hb := isLen_bd h
  have hr0 : printR n = (printT n, 0) := by rw [printR, if_pos h]
  rw [hr0]
  have HK := Lib.hid (show chkN n = 0 by rw [chkN, h]; rfl)
  clear h hr0
  obtain ⟨a, ha⟩ : ∃ a : Nat, n.natAbs = a := ⟨_, rfl⟩
  have ha1 : a ≤ 1073741824 := by omega
  obtain ⟨q, hq⟩ : ∃ q : Nat, a / 1000 = q := ⟨_, rfl⟩
  obtain ⟨r, hr⟩ : ∃ r : Nat, a % 1000 = r := ⟨_, rfl⟩
  have hr1 : r < 1000 := by omega
  have hqi : (a : Int) / 1000 = (q : Int) := by omega
  have hri : (a : Int) % 1000 = (r : Int) := by omega
  have hPT : printT n = (if n < 0 then [45] else []) ++ (dd q ++ fracT r) ++ [112, 116] := by rw [printT, ha, amtT, hq, hr]
  have C1 := Lib.hid (itoa_at q (baL (dd q)) rfl (by omega))
  have L1 : (baL (dd q)).size ≤ 10 := by rw [baL_size]; exact dd_len (by omega)
  obtain ⟨d, e1, hl, hd, hn⟩ := dd_rest hr1
  have C2 := Lib.hid (fun w hT => itoa_at (1000 + r) (baL (dd (1000 + r))) rfl (by omega) w hT)
  rw [show ((1000 + r : Nat) : Int) = 1000 + (a : Int) % 1000 by omega] at C2
  have L2 : (baL (dd (1000 + r))).size = 4 := by rw [baL_size, e1]; simp [hl]
  have hx : ((baL (dd (1000 + r))).extract 1 (baL (dd (1000 + r))).size).data.toList = d := by
    rw [ext_list, baL_list, L2, e1]; simp [← hl]
  have hfr : r ≠ 0 → fracT r = 46 :: trimR d := fun h => by rw [fracT, if_neg h, e1]; rfl
  have hne : r ≠ 0 → trimR d ≠ [] := fun h e0 => by
    have hp := trimR_pad d
    rw [e0, hl] at hp
    rw [← hp] at hn
    revert hn
    simp [numV]; omega
  have F1 := Lib.hid hfr
  have F2 := Lib.hid (show (baL (dd q)).data.toList = dd q from rfl)
  have F4 := Lib.hid hne
  have HP := Lib.hid hPT
  have HT := Lib.hid hT
  obtain ⟨f, hf⟩ : ∃ f, trimR d = f := ⟨_, rfl⟩
  obtain ⟨sq, h1⟩ : ∃ x, baL (dd q) = x := ⟨_, rfl⟩
  obtain ⟨sr, h2⟩ : ∃ x, baL (dd (1000 + r)) = x := ⟨_, rfl⟩
  rw [h1] at C1 L1 F2
  rw [h2] at C2 L2 hx
  have FX := Lib.hid (show trimR (sr.extract 1 sr.size).data.toList = f by rw [hx]; exact hf)
  have L3 := Lib.hid (show (sr.extract 1 sr.size).size ≤ 3 by rw [← size_list, hx]; omega)
  rw [hf] at F1 F4
  clear hq hr hPT e1 hl hd hn hx hfr h1 h2 hT hne hf
  have hways : (r = 0 ∨ 0 < r) ∧ (n < 0 ∨ 0 ≤ n) := by omega
  obtain ⟨k2 | k2, hsg⟩ := hways
  · have hri0 : (a : Int) % 1000 = 0 := by omega
    have F0 := Lib.hid (show fracT r = [] by rw [fracT, if_pos k2])
    clear hri k2 L2 hr1
    rcases hsg with k1 | k1
    · have hneg : -n = (a : Int) := by omega
      go_enter Tryd.func14, Tryd.ntmps14
      go_wp2_with (first
        | (go_at_call 16; refine (refChk_at n 0 HK.out _).mono ?_; rintro e w' ⟨rfl, rfl⟩)
        | (go_at_call 38; refine (C1.out _ HT.out).mono ?_; rintro e w1 ⟨rfl, hb1⟩; have HB1 := Lib.hid hb1; clear hb1))
      go_ret2
      exact ⟨ret_str (by rw [HP.out, F0.out, ← F2.out, if_pos k1]; simp) rfl, HB1.out⟩
    · obtain rfl : n = (a : Int) := by omega
      go_enter Tryd.func14, Tryd.ntmps14
      go_wp2_with (first
        | (go_at_call 16; refine (refChk_at a 0 HK.out _).mono ?_; rintro e w' ⟨rfl, rfl⟩)
        | (go_at_call 38; refine (C1.out _ HT.out).mono ?_; rintro e w1 ⟨rfl, hb1⟩; have HB1 := Lib.hid hb1; clear hb1))
      go_ret2
      exact ⟨ret_str (by rw [HP.out, F0.out, ← F2.out, if_neg (by omega)]; simp) rfl, HB1.out⟩
  · have hrb : ((a : Int) % 1000 == 0) = false := by simp; omega
    have K2 := Lib.hid k2
    clear hri k2 hr1
    have hsz : (sr.size : Int) = 4 := by omega
    have hs1 : (1 : Int) ≤ sr.size := by omega
    clear L2
    rcases hsg with k1 | k1
    · have hneg : -n = (a : Int) := by omega
      go_enter Tryd.func14, Tryd.ntmps14
      go_wp2_with (first
        | (go_at_call 16; refine (refChk_at n 0 HK.out _).mono ?_; rintro e w' ⟨rfl, rfl⟩)
        | (go_at_call 38; ((with_reducible refine (C1.out _ HT.out).mono ?_); rintro e w1 ⟨rfl, hb1⟩); have HB1 := Lib.hid hb1; clear hb1))
      refine (C2.out _ (HT.out.below HB1.out)).mono ?_
      rintro e w2 ⟨rfl, hb2⟩
      have HB2 := Lib.hid (below_seq HB1.out hb2 (Nat.le_refl _))
      clear hb2
      go_wp2
      go_loop [6] (fun v => ∃ t : ByteArray, v = .string t ∧ t.size ≤ 3 ∧ trimR t.data.toList = f) (fun v => strLen v)
      case atStart => exact ⟨_, rfl, L3.out, FX.out⟩
      case round =>
        obtain ⟨t, rfl, ht3, hft⟩ := hrel
        obtain ⟨m, hm⟩ : ∃ m, t.size = m + 1 := by
          refine ⟨t.size - 1, ?_⟩
          rcases Nat.eq_zero_or_pos t.size with h0 | h0
          · exfalso
            have : t.data.toList = [] := List.length_eq_zero_iff.1 (by rw [size_list]; exact h0)
            rw [this] at hft
            exact F4.out (by have := K2.out; omega) (hft.symm.trans (by decide))
          · omega
        have hmt : m < t.size := by omega
        have hs := snoc_at t m hm hmt
        have hsm : (t.size : Int) - 1 = (m : Int) := by omega
        have hts := trimR_snoc (t.extract 0 m).data.toList t[m]
        rw [← hs, hft] at hts
        have HF := Lib.hid hts
        have HS := Lib.hid hs
        clear hts hs hft hm
        by_cases hc : t[m] = 48
        · have hcb : ((t[m].toNat : Int) == 48) = true := by rw [hc]; rfl
          have HF2 := Lib.hid (show f = trimR (t.extract 0 m).data.toList by have := HF.out; rwa [if_pos hc] at this)
          clear hc
          go_wp2
          go_round
          case rel => exact ⟨_, rfl, by rw [ByteArray.size_extract]; omega, HF2.out.symm⟩
          case measure => simp [strLen]; omega
        · have hcb : ((t[m].toNat : Int) == 48) = false := by rw [u8_48]; simpa using hc
          have HF2 := Lib.hid (show f = t.data.toList by have := HF.out; rwa [if_neg hc] at this)
          clear hc
          go_wp2
          go_ret2
          exact ⟨ret_str (by rw [HP.out, F1.out (by have := K2.out; omega), ← F2.out, HF2.out, if_pos k1]; simp) rfl, HB2.out⟩
    · obtain rfl : n = (a : Int) := by omega
      go_enter Tryd.func14, Tryd.ntmps14
      go_wp2_with (first
        | (go_at_call 16; refine (refChk_at a 0 HK.out _).mono ?_; rintro e w' ⟨rfl, rfl⟩)
        | (go_at_call 38; ((with_reducible refine (C1.out _ HT.out).mono ?_); rintro e w1 ⟨rfl, hb1⟩); have HB1 := Lib.hid hb1; clear hb1))
      refine (C2.out _ (HT.out.below HB1.out)).mono ?_
      rintro e w2 ⟨rfl, hb2⟩
      have HB2 := Lib.hid (below_seq HB1.out hb2 (Nat.le_refl _))
      clear hb2
      go_wp2
      go_loop [6] (fun v => ∃ t : ByteArray, v = .string t ∧ t.size ≤ 3 ∧ trimR t.data.toList = f) (fun v => strLen v)
      case atStart => exact ⟨_, rfl, L3.out, FX.out⟩
      case round =>
        obtain ⟨t, rfl, ht3, hft⟩ := hrel
        obtain ⟨m, hm⟩ : ∃ m, t.size = m + 1 := by
          refine ⟨t.size - 1, ?_⟩
          rcases Nat.eq_zero_or_pos t.size with h0 | h0
          · exfalso
            have : t.data.toList = [] := List.length_eq_zero_iff.1 (by rw [size_list]; exact h0)
            rw [this] at hft
            exact F4.out (by have := K2.out; omega) (hft.symm.trans (by decide))
          · omega
        have hmt : m < t.size := by omega
        have hs := snoc_at t m hm hmt
        have hsm : (t.size : Int) - 1 = (m : Int) := by omega
        have hts := trimR_snoc (t.extract 0 m).data.toList t[m]
        rw [← hs, hft] at hts
        have HF := Lib.hid hts
        have HS := Lib.hid hs
        clear hts hs hft hm
        by_cases hc : t[m] = 48
        · have hcb : ((t[m].toNat : Int) == 48) = true := by rw [hc]; rfl
          have HF2 := Lib.hid (show f = trimR (t.extract 0 m).data.toList by have := HF.out; rwa [if_pos hc] at this)
          clear hc
          go_wp2
          go_round
          case rel => exact ⟨_, rfl, by rw [ByteArray.size_extract]; omega, HF2.out.symm⟩
          case measure => simp [strLen]; omega
        · have hcb : ((t[m].toNat : Int) == 48) = false := by rw [u8_48]; simpa using hc
          have HF2 := Lib.hid (show f = t.data.toList by have := HF.out; rwa [if_neg hc] at this)
          clear hc
          go_wp2
          go_ret2
          exact ⟨ret_str (by rw [HP.out, F1.out (by have := K2.out; omega), ← F2.out, HF2.out, if_neg (by omega)]; simp) rfl, HB2.out⟩
theorem refPrint_any (n : Int) (w : World) (hT : Tab w) :
    Calls Tryd.prog 14 #[.int .i64 n] w fun e w' => e = .returned (strV (printR n)) ∧ Below w.heap.size w w' := by
  by_cases h : isLen n = true
  · exact refPrint_good n h w hT
  · exact refPrint_bad n (by simpa using h) w
end Go.Proofs.YtkiaiiepfphllaaDoor
