/- Print of layer 2, over every number. -/
import Derived.Test.YtkiaiiepfphllaaDoorFpParse
import Derived.Lib.AppendIntMem
import Derived.Lib.LaidTab
namespace Go.Proofs.YtkiaiiepfphllaaDoor
set_option linter.unusedSimpArgs false
set_option linter.unusedVariables false
set_option maxRecDepth 100000
open Go.RowKit

/-- the library's table of powers lies as its initialiser lays it -/
def Tab (w : World) : Prop := Lib.TabIs Tryd.prog w "internal/strconv.uint64pow10" .u64 Lib.pow10Tab
theorem tab_glob : Tryd.prog.globalNamed "internal/strconv.uint64pow10" = some 1 := by kernel_rfl
theorem Tab.below {w w' : World} (h : Tab w) (hb : Below w.heap.size w w') : Tab w' := by
  unfold Tab Lib.TabIs World.var? at h ⊢
  rw [tab_glob] at h ⊢
  simp only [Option.bind_some] at h ⊢
  rcases Nat.lt_or_ge 1 w.heap.size with h' | h'
  · rw [hb.block _ h']; exact h
  · rw [Array.getElem?_eq_none h'] at h; cases h
theorem itoa_at (u : Nat) (st : ByteArray) (h : st.data.toList = dd u) (hu : u ≤ 9223372036854775807) (w : World) (hT : Tab w) :
    Calls Tryd.prog 38 #[.int .i64 u] w fun e w' => e = .returned (.string st) ∧ Below w.heap.size w w' := by
  refine (Tryd.strconv_Itoa (u : Int) (by omega) (by omega) w hT).mono fun e w' ⟨h1, k, os, h2⟩ => ⟨?_, ?_⟩
  · rw [h1]
    have e1 : Lib.itoa (u : Int) = dd u := by unfold Lib.itoa; rw [if_neg (by omega)]; simp
    rw [e1, show st = ⟨(dd u).toArray⟩ from ba_of h]
  · rw [h2]; exact Lib.below_grow _ w (Nat.le_refl _) k os
theorem trim_at (s t : ByteArray) (l : List UInt8) (hl : s.data.toList = l) (ht : t.data.toList = trimR l) (hs : s.size ≤ 1000000) (w : World) :
    Calls Tryd.prog 40 #[.string s, .string ⟨#[48]⟩] w fun e w' => e = .returned (.string t) ∧ w = w' := by
  subst hl
  refine (Tryd.strings_TrimRight_one s 48 (by decide) w (by omega)).mono fun e w' ⟨h1, h2⟩ => ⟨?_, h2.symm⟩
  rw [h1, show t = ⟨(trimR s.data.toList).toArray⟩ from ba_of ht]

abbrev strV (p : List UInt8 × Int) : Value := .tuple #[.string (baL p.1), .int .i64 p.2]
theorem print_bad (n : Int) (h : isLen n = false) (w : World) :
    Calls Tryd.prog 13 #[.int .i64 n] w fun e w' => e = .returned (strV (printR n)) ∧ Below w.heap.size w w' := by
  have hr : printR n = ([], 2) := by rw [printR, if_neg (by rw [h]; simp)]
  rw [hr]
  have HK := Lib.hid (show chkN n = 2 by rw [chkN, if_neg (by rw [h]; simp)])
  clear hr h
  go_enter Tryd.func13, Tryd.ntmps13
  go_wp2_with (go_at_call 15; refine (chk_at n 2 HK.out _).mono ?_; rintro e w' ⟨rfl, rfl⟩)
  go_ret2
  exact ⟨rfl, Below.refl _ _⟩
theorem ret_str {s : ByteArray} {p : List UInt8 × Int} {k : Int} (h1 : s.data.toList = p.1) (h2 : k = p.2) : Ending.returned (.tuple #[.string s, .int .i64 k]) = .returned (strV p) := by
  rw [strV, ← h2, show s = baL p.1 from ba_of h1]
theorem dd_len {u : Nat} (h : u < 10000000000) : (dd u).length ≤ 10 := by
  have hh : ∀ k u : Nat, u < 10 ^ (k + 1) → (dd u).length ≤ k + 1 := by
    intro k
    induction k with
    | zero => intro u hu; rw [dd_small (by omega)]; simp
    | succ k ih =>
      intro u hu
      by_cases h : u < 10
      · rw [dd_small h]; simp
      · rw [dd_big h, List.length_append]
        have := ih (u / 10) (by rw [Nat.pow_succ] at hu; omega)
        simp; omega
  exact hh 9 u h

set_option maxHeartbeats 2000000 in
theorem print_good (n : Int) (h : isLen n = true) (w : World) (hT : Tab w) :
    Calls Tryd.prog 13 #[.int .i64 n] w fun e w' => e = .returned (strV (printR n)) ∧ Below w.heap.size w w' := by
  have hb := isLen_bd h
  have hr0 : printR n = (printT n, 0) := by rw [printR, if_pos h]
  rw [hr0]
  have HK := Lib.hid (show chkN n = 0 by rw [chkN, h]; rfl)
  clear h hr0
  obtain ⟨a, ha⟩ : ∃ a : Nat, n.natAbs = a := ⟨_, rfl⟩
  have HA := Lib.hid (show (a : Int) = max n (-n) by omega)
  have ha1 : a ≤ 1073741824 := by omega
  obtain ⟨q, hq⟩ : ∃ q : Nat, a / 1000 = q := ⟨_, rfl⟩
  obtain ⟨r, hr⟩ : ∃ r : Nat, a % 1000 = r := ⟨_, rfl⟩
  have hr1 : r < 1000 := by omega
  have hqi : (a : Int) / 1000 = (q : Int) := by omega
  have hri : (a : Int) % 1000 = (r : Int) := by omega
  have hPT : printT n = (if n < 0 then [45] else []) ++ (dd q ++ fracT r) ++ [112, 116] := by rw [printT, ha, amtT, hq, hr]
  have C1 := Lib.hid (itoa_at q (baL (dd q)) rfl (by omega))
  have L1 : (baL (dd q)).size ≤ 10 := by rw [baL_size]; exact dd_len (by omega)
  obtain ⟨d, e1, hl, hd, hn⟩ := dd_rest hr1
  have C2 := Lib.hid (fun w hT => itoa_at (1000 + r) (baL (dd (1000 + r))) rfl (by omega) w hT)
  rw [show ((1000 + r : Nat) : Int) = 1000 + (a : Int) % 1000 by omega] at C2
  have L2 : (baL (dd (1000 + r))).size = 4 := by rw [baL_size, e1]; simp [hl]
  have hx : ((baL (dd (1000 + r))).extract 1 (baL (dd (1000 + r))).size).data.toList = d := by
    rw [ext_list, baL_list, L2, e1]; simp [← hl]
  have C3 := Lib.hid (trim_at ((baL (dd (1000 + r))).extract 1 (baL (dd (1000 + r))).size) (baL (trimR d)) d hx rfl (by rw [← size_list, hx]; omega))
  have L3 : (baL (trimR d)).size ≤ 3 := by
    have := congrArg List.length (trimR_pad d)
    rw [baL_size]; simp at this; omega
  have hfr : r ≠ 0 → fracT r = 46 :: trimR d := fun h => by rw [fracT, if_neg h, e1]; rfl
  have F1 := Lib.hid hfr
  have F2 := Lib.hid (show (baL (dd q)).data.toList = dd q from rfl)
  have F3 := Lib.hid (show (baL (trimR d)).data.toList = trimR d from rfl)
  have HP := Lib.hid hPT
  have HT := Lib.hid hT
  obtain ⟨sq, h1⟩ : ∃ x, baL (dd q) = x := ⟨_, rfl⟩
  obtain ⟨sr, h2⟩ : ∃ x, baL (dd (1000 + r)) = x := ⟨_, rfl⟩
  obtain ⟨st, h3⟩ : ∃ x, baL (trimR d) = x := ⟨_, rfl⟩
  rw [h1] at C1 L1 F2
  rw [h2] at C2 L2 C3
  rw [h3] at C3 L3 F3
  clear hq hr hPT e1 hl hd hn hx hfr h1 h2 h3 hT ha
  have hways : (r = 0 ∨ 0 < r) ∧ (n < 0 ∨ 0 ≤ n) := by omega
  obtain ⟨k2 | k2, hsg⟩ := hways
  · have hri0 : (a : Int) % 1000 = 0 := by omega
    have F0 := Lib.hid (show fracT r = [] by rw [fracT, if_pos k2])
    clear hri k2 L2 hr1
    rcases hsg with k1 | k1
    all_goals
      go_enter Tryd.func13, Tryd.ntmps13
      go_wp2_with (first
        | (go_at_call 15; refine (chk_at n 0 HK.out _).mono ?_; rintro e w' ⟨rfl, rfl⟩)
        | (go_at_call 38; refine (C1.out _ HT.out).mono ?_; rintro e w1 ⟨rfl, hb1⟩; have HB1 := Lib.hid hb1; clear hb1)
        | (go_at_call 39; refine (abs_any n a HA.out (by omega) (by omega) _).mono ?_; rintro e w' ⟨rfl, rfl⟩))
      go_ret2
      exact ⟨ret_str (by rw [HP.out, F0.out, ← F2.out]; (first | rw [if_pos k1] | rw [if_neg (by omega)]); simp) rfl, HB1.out⟩
  · have hrb : ((a : Int) % 1000 == 0) = false := by simp; omega
    have K2 := Lib.hid k2
    clear hri k2 hr1
    have hsz : (sr.size : Int) = 4 := by omega
    clear L2
    rcases hsg with k1 | k1
    all_goals
      go_enter Tryd.func13, Tryd.ntmps13
      go_wp2_with (first
        | (go_at_call 15; refine (chk_at n 0 HK.out _).mono ?_; rintro e w' ⟨rfl, rfl⟩)
        | (go_at_call 38; ((with_reducible refine (C1.out _ HT.out).mono ?_); rintro e w1 ⟨rfl, hb1⟩); have HB1 := Lib.hid hb1; clear hb1)
        | (go_at_call 39; refine (abs_any n a HA.out (by omega) (by omega) _).mono ?_; rintro e w' ⟨rfl, rfl⟩))
      refine (C2.out _ (HT.out.below HB1.out)).mono ?_
      rintro e w2 ⟨rfl, hb2⟩
      have HB2 := Lib.hid (below_seq HB1.out hb2 (Nat.le_refl _))
      clear hb2
      have hs1 : (1 : Int) ≤ sr.size := by omega
      go_wp2_with (go_at_call 40; ((with_reducible refine (C3.out _).mono ?_); rintro e w' ⟨rfl, rfl⟩))
      go_ret2
      exact ⟨ret_str (by rw [HP.out, F1.out (by have := K2.out; omega), ← F2.out, ← F3.out]; (first | rw [if_pos k1] | rw [if_neg (by omega)]); simp) rfl, HB2.out⟩
theorem print_any (n : Int) (w : World) (hT : Tab w) :
    Calls Tryd.prog 13 #[.int .i64 n] w fun e w' => e = .returned (strV (printR n)) ∧ Below w.heap.size w w' := by
  by_cases h : isLen n = true
  · exact print_good n h w hT
  · exact print_bad n (by simpa using h) w
theorem print_at (n : Int) (r : List UInt8 × Int) (h : printR n = r) (w : World) (hT : Tab w) :
    Calls Tryd.prog 13 #[.int .i64 n] w fun e w' => e = .returned (strV r) ∧ Below w.heap.size w w' := by subst h; exact print_any n w hT
end Go.Proofs.YtkiaiiepfphllaaDoor
