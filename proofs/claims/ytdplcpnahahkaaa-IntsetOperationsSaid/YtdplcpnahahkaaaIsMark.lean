/- Markings: isSet, areSets, markingOf, has, isWithin, firstIntegers. -/
import Derived.Test.YtdplcpnahahkaaaIsProg
namespace Go.Proofs.Ytdplcpnahahkaaa
set_option linter.unusedSimpArgs false
set_option linter.unusedVariables false
set_option maxRecDepth 100000
open Go.RowKit Go.Deep

theorem div_nat (m i : Nat) : (m : Int) / 2 ^ i = ((m / 2 ^ i : Nat) : Int) := by rw [Int.natCast_ediv]; simp
theorem bit_eq (m : Nat) (hm : m < 18446744073709551616) (i : Nat) : (bits BinOp.and IntKind.u64 ((m : Int) / 2 ^ i) 1 == 1) = m.testBit i := by
  have h : m / 2 ^ i ≤ m := Nat.div_le_self _ _
  have e := u64_and_nat (m / 2 ^ i) 1 (by omega) (by decide)
  rw [div_nat]
  rw [show ((1 : Nat) : Int) = 1 from rfl] at e
  rw [e, Nat.and_one_is_mod, Nat.testBit_eq_decide_div_mod_eq]
  rw [Bool.eq_iff_iff]; simp only [beq_iff_eq, decide_eq_true_eq]; omega
theorem pow_wrap {n : Nat} (h : n < 64) : IntKind.u64.wrap (2 ^ n) = ((2 ^ n : Nat) : Int) := by
  have e : (2 : Int) ^ n = ((2 ^ n : Nat) : Int) := by simp
  have hlt : 2 ^ n < 2 ^ 64 := Nat.pow_lt_pow_right (by decide) h
  rw [IntKind.wrap_u64, e]
  generalize 2 ^ n = p at hlt
  omega
theorem ones_wrap {n : Nat} (h : n ≤ 64) : IntKind.u64.wrap (IntKind.u64.wrap (2 ^ n) - 1) = ((2 ^ n - 1 : Nat) : Int) := by
  by_cases h1 : n < 64
  · have hlt : 2 ^ n < 2 ^ 64 := Nat.pow_lt_pow_right (by decide) h1
    have hp : 0 < 2 ^ n := Nat.two_pow_pos n
    rw [pow_wrap h1, IntKind.wrap_u64]
    generalize 2 ^ n = p at hlt hp
    omega
  · obtain rfl : n = 64 := by omega
    rw [IntKind.wrap_u64, IntKind.wrap_u64]; decide
theorem or_eq {a b : Nat} (ha : a < 18446744073709551616) (hb : b < 64) : Value.int IntKind.u64 (bits BinOp.or IntKind.u64 (a : Int) (IntKind.u64.wrap (2 ^ b))) = u64V (a ||| 2 ^ b) := by
  have : 2 ^ b < 2 ^ 64 := Nat.pow_lt_pow_right (by decide) hb
  rw [pow_wrap hb, u64_or_nat a (2 ^ b) ha (by omega)]
theorem andNot_eq {a b : Nat} (ha : a < 18446744073709551616) (hb : b < 18446744073709551616) (r : Bool) (hr : r = true ↔ ∀ i, i < 64 → a.testBit i = true → b.testBit i = true) : (bits BinOp.andNot IntKind.u64 (a : Int) (b : Int) == 0) = r := by
  rw [u64_andNot_nat a b ha hb, Bool.eq_iff_iff, hr, ← within_iff ha hb, beq_iff_eq]; omega

set_option maxHeartbeats 400000 in
theorem has_any (m : Nat) (hm : m < 18446744073709551616) (i : Nat) (hi : i < 64) (w : World) :
    Calls Try.prog 45 #[u64V m, intV i] w fun e w' => e = .returned (.bool (m.testBit i)) ∧ w = w' := by
  go_enter Try.func45, Try.ntmps45
  go_wp2
  go_ret
  exact ⟨ret_bool (bit_eq m hm i), rfl⟩
set_option maxHeartbeats 400000 in
theorem within_m (a b : Nat) (ha : a < 18446744073709551616) (hb : b < 18446744073709551616) (r : Bool) (hr : r = true ↔ ∀ i, i < 64 → a.testBit i = true → b.testBit i = true) (w : World) :
    Calls Try.prog 49 #[u64V a, u64V b] w fun e w' => e = .returned (.bool r) ∧ w = w' := by
  go_enter Try.func49, Try.ntmps49
  go_wp2
  go_ret
  exact ⟨ret_bool (andNot_eq ha hb r hr), rfl⟩
set_option maxHeartbeats 400000 in
theorem first_any (n : Nat) (hn : n ≤ 64) (w : World) :
    Calls Try.prog 50 #[intV n] w fun e w' => e = .returned (u64V (2 ^ n - 1)) ∧ w = w' := by
  go_enter Try.func50, Try.ntmps50
  go_wp2
  go_ret
  exact ⟨ret_int (ones_wrap hn), rfl⟩
set_option maxHeartbeats 1000000 in
theorem mark_any (xs : List Int) (hR : InR xs) (v : Value) (w : World) (hv : IntsAt w v xs) (hl : xs.length ≤ 1000000) :
    Calls Try.prog 44 #[v] w fun e w' => e = .returned (u64V (mask xs)) ∧ w = w' := by
  obtain ⟨a, cap, rfl, hc⟩ := hv
  have HC := Lib.hid hc
  have HR := Lib.hid hR
  clear hc hR
  go_enter Try.func44, Try.ntmps44
  go_wp2
  go_loop [3, 8] (fun m i => ∃ k : Nat, k ≤ xs.length ∧ i = .int .i64 k ∧ m = u64V (mask (xs.take k))) (fun _ i => xs.length - (intOf i).toNat)
  case atStart => exact ⟨0, Nat.zero_le _, rfl, rfl⟩
  case round =>
    obtain ⟨k, hk, rfl, rfl⟩ := hrel
    by_cases hlt : k < xs.length
    · obtain ⟨b, off, rfl, hbb, hcs⟩ := HC.out (by omega)
      have hcell := hcs k hlt
      have hx0 := HR.out _ (List.getElem_mem hlt)
      have hms := mask_snoc (xs.take k) xs[k]
      rw [← List.take_succ_eq_append_getElem hlt] at hms
      have hml : mask (xs.take k) < 18446744073709551616 := mask_lt (fun x hx => HR.out x (List.mem_of_mem_take hx))
      clear hcs
      obtain ⟨x, hx⟩ : ∃ x, xs[k] = x := ⟨_, rfl⟩
      rw [hx] at hcell hx0 hms
      obtain ⟨x, rfl⟩ : ∃ n : Nat, x = n := ⟨x.toNat, by omega⟩
      clear hx
      obtain ⟨m, hm⟩ : ∃ m, mask (xs.take k) = m := ⟨_, rfl⟩
      rw [hm] at hml hms ⊢
      have HM := Lib.hid hms
      clear hm hms
      go_wp2
      refine ⟨⟨k + 1, by omega, by go_num, ?_⟩, ?_⟩
      · rw [HM.out, or_eq hml (by omega)]; rfl
      · simp [intOf]; omega
    · obtain rfl : k = xs.length := by omega
      rw [List.take_length]
      go_wp2
      go_ret
      exact ⟨rfl, rfl⟩
set_option maxHeartbeats 400000 in
theorem isSet_any (xs : List Int) (r : Bool) (hr : decide (errL xs = 0) = r) (v : Value) (w : World) (hv : IntsAt w v xs) (hl : xs.length ≤ 1000000) :
    Calls Try.prog 48 #[v] w fun e w' => e = .returned (.bool r) ∧ w = w' := by
  obtain ⟨q, hq⟩ : ∃ q, errL xs = q := ⟨_, rfl⟩
  have C := check_any xs v w hv hl
  obtain ⟨a, cap, rfl, _⟩ := hv
  rw [hq] at C hr
  have HC := Lib.hid C
  have HR := Lib.hid hr
  clear hq C hr
  go_enter Try.func48, Try.ntmps48
  go_wp2_with fail
  refine HC.out.mono ?_
  rintro e w1 ⟨rfl, rfl⟩
  go_wp2
  go_ret
  exact ⟨ret_bool (by rw [← HR.out]; rfl), rfl⟩
set_option maxHeartbeats 1000000 in
theorem areSets_any (L : List (List Int)) (r : Bool) (hr : decide (∀ l ∈ L, errL l = 0) = r) (v : Value) (w : World) (hv : ListsAt w v L) (hl : L.length ≤ 1000000) (hs : ∀ l ∈ L, l.length ≤ 1000000) :
    Calls Try.prog 52 #[v] w fun e w' => e = .returned (.bool r) ∧ w = w' := by
  obtain ⟨a, cap, rfl, _⟩ := id hv
  have HV := Lib.hid hv
  have HS := Lib.hid hs
  have HR := Lib.hid hr
  clear hv hs hr
  go_enter Try.func52, Try.ntmps52
  go_wp2
  go_loop [7] (fun i => ∃ k : Nat, k ≤ L.length ∧ i = .int .i64 k ∧ ∀ l ∈ L.take k, errL l = 0) (fun i => L.length - (intOf i).toNat)
  case atStart => exact ⟨0, Nat.zero_le _, rfl, by simp⟩
  case round =>
    obtain ⟨k, hk, rfl, ha⟩ := hrel
    have HA := Lib.hid ha
    clear ha
    by_cases hlt : k < L.length
    · obtain ⟨b, off, u, c, rfl, hb, hcell, hx⟩ := HV.out.elem hlt
      obtain ⟨x, hxx⟩ : ∃ x, L[k] = x := ⟨_, rfl⟩
      have hmem : x ∈ L := by rw [← hxx]; exact List.getElem_mem hlt
      have hlen := HS.out x hmem
      have HT := Lib.hid (List.take_succ_eq_append_getElem hlt)
      rw [hxx] at hcell hx HT
      have HM := Lib.hid hmem
      clear hxx hmem
      by_cases he : errL x = 0
      · have HI := Lib.hid (isSet_any x true (by simpa using he) _ w hx hlen)
        have HE := Lib.hid he
        clear hx he hlen
        go_wp2_with fail
        refine HI.out.mono ?_
        rintro e w1 ⟨rfl, rfl⟩
        go_wp2
        go_round
        case rel =>
          refine ⟨k + 1, by omega, by go_num, ?_⟩
          rw [HT.out]
          intro l hl
          rcases List.mem_append.1 hl with h | h
          · exact HA.out l h
          · simp at h; rw [h]; exact HE.out
        case measure => simp [intOf]; omega
      · have HI := Lib.hid (isSet_any x false (by simpa using he) _ w hx hlen)
        have HE := Lib.hid he
        clear hx he hlen
        go_wp2_with fail
        refine HI.out.mono ?_
        rintro e w1 ⟨rfl, rfl⟩
        go_wp2
        go_ret
        refine ⟨ret_bool ?_, rfl⟩
        rw [← HR.out, eq_comm, decide_eq_false_iff_not]
        exact fun h => HE.out (h x HM.out)
    · obtain rfl : k = L.length := by omega
      go_wp2
      go_ret
      refine ⟨ret_bool ?_, rfl⟩
      rw [← HR.out, eq_comm, decide_eq_true_eq]
      have := HA.out
      rwa [List.take_length] at this
end Go.Proofs.Ytdplcpnahahkaaa
