/- Sets of places as two numbers: has, with, behind. -/
import Derived.Test.YtjjdihkjkmhjnaaGpParse
import Derived.WalkLawsBesides
import Derived.Laws.Bits64b
import Derived.ChangeAlike
import Derived.RegionTactic
namespace Go.Proofs.Ytjjdihkjkmhjnaa
set_option linter.unusedSimpArgs false
set_option linter.unusedVariables false
set_option maxRecDepth 100000
open Go.RowKit Go.Deep

abbrev uV (a : Nat) : Value := .int .u64 a
def hasB (a b i : Nat) : Bool := if i < 64 then a.testBit i else b.testBit (i - 64)
def two64 : Nat := 18446744073709551616
theorem bit_and (a i : Nat) (ha : a < two64) : (bits .and .u64 ((a : Int) / 2 ^ i) 1 == 1) = a.testBit i := by
  have e : (a : Int) / 2 ^ i = ((a / 2 ^ i : Nat) : Int) := by
    rw [Int.natCast_ediv]; congr 1
  have hlt : a / 2 ^ i < 18446744073709551616 := Nat.lt_of_le_of_lt (Nat.div_le_self _ _) ha
  rw [e, show (1 : Int) = ((1 : Nat) : Int) from rfl, bits_and_u64_nat _ 1 hlt (by decide), Nat.and_one_is_mod, Nat.testBit_eq_decide_div_mod_eq]
  by_cases h : a / 2 ^ i % 2 = 1
  · rw [h]; rfl
  · rw [decide_eq_false h, beq_eq_false_iff_ne]
    intro h2
    exact h (by exact_mod_cast h2)
theorem bit_or (a i : Nat) (ha : a < two64) (hi : i < 64) : bits .or .u64 (a : Int) (IntKind.u64.wrap (2 ^ i)) = ((a ||| 2 ^ i : Nat) : Int) := by
  have hp : 2 ^ i < 18446744073709551616 := by
    have := Nat.pow_lt_pow_right (a := 2) (by decide) hi
    exact Nat.lt_of_lt_of_le this (by decide)
  have e : (2 : Int) ^ i = ((2 ^ i : Nat) : Int) := (Int.natCast_pow 2 i).symm
  have hw : IntKind.u64.wrap ((2 ^ i : Nat) : Int) = ((2 ^ i : Nat) : Int) := by
    rw [IntKind.wrap_u64]
    generalize 2 ^ i = n at hp
    omega
  rw [e, hw, bits_or_u64_nat a (2 ^ i) ha hp]
theorem or_lt (a i : Nat) (ha : a < two64) (hi : i < 64) : a ||| 2 ^ i < two64 := by
  have h1 : two64 = 2 ^ 64 := by decide
  rw [h1] at ha ⊢
  exact Nat.or_lt_two_pow ha (Nat.pow_lt_pow_right (by decide) hi)
theorem or_bit (a i j : Nat) : (a ||| 2 ^ i).testBit j = (a.testBit j || j == i) := by
  rw [Nat.testBit_or, Nat.testBit_two_pow]
  congr 1
  by_cases h : i = j
  · subst h; simp
  · have : ¬ j = i := fun e => h e.symm
    simp [h, this]
set_option maxHeartbeats 1000000 in
theorem has_lo (a b i : Nat) (ha : a < two64) (hi : i < 64) (w : World) :
    Calls Try.prog 61 #[.agg #[uV a, uV b], .int .i64 i] w fun e w' => e = .returned (.bool (hasB a b i)) ∧ Below w.heap.size w w' := by
  have h1 : (i : Int) / 64 = 0 := by omega
  have h2 : (i : Int) % 64 = i := by omega
  have h3 : (0 : Int) ≤ i := by omega
  have h4 : (i : Int) < 64 := by omega
  have HA := Lib.hid ha
  clear ha
  go_enter Try.func61, Try.ntmps61
  go_wp2
  go_ret
  refine ⟨ret_bool ?_, below_box0 _ _⟩
  rw [bit_and a i HA.out, hasB, if_pos hi]
set_option maxHeartbeats 1000000 in
theorem has_hi (a b i : Nat) (hb : b < two64) (hi : 64 ≤ i) (hi2 : i < 128) (w : World) :
    Calls Try.prog 61 #[.agg #[uV a, uV b], .int .i64 i] w fun e w' => e = .returned (.bool (hasB a b i)) ∧ Below w.heap.size w w' := by
  obtain ⟨k, rfl⟩ : ∃ k, i = k + 64 := ⟨i - 64, by omega⟩
  have h1 : ((k + 64 : Nat) : Int) / 64 = 1 := by omega
  have h2 : ((k + 64 : Nat) : Int) % 64 = k := by omega
  have h3 : (0 : Int) ≤ ((k + 64 : Nat) : Int) := by omega
  have h5 : (0 : Int) ≤ k := by omega
  have h4 : ((k + 64 : Nat) : Int) < 128 := by omega
  generalize hn : ((k + 64 : Nat) : Int) = n at *
  have HA := Lib.hid hb
  have HN := Lib.hid hn
  clear hb hn hi
  go_enter Try.func61, Try.ntmps61
  go_wp2
  go_ret
  refine ⟨ret_bool ?_, below_box0 _ _⟩
  rw [bit_and b k HA.out, hasB, if_neg (by omega), Nat.add_sub_cancel]
def WithPost (a b i : Nat) (w : World) (e : Ending) (w' : World) : Prop := ∃ a' b' : Nat, e = .returned (.agg #[uV a', uV b']) ∧ a' < two64 ∧ b' < two64 ∧ (∀ j, hasB a' b' j = (hasB a b j || j == i)) ∧ Below w.heap.size w w'
set_option maxHeartbeats 1000000 in
theorem with_lo (a b i : Nat) (ha : a < two64) (hb : b < two64) (hi : i < 64) (w : World) :
    Calls Try.prog 59 #[.agg #[uV a, uV b], .int .i64 i] w (WithPost a b i w) := by
  have h1 : (i : Int) / 64 = 0 := by omega
  have h2 : (i : Int) % 64 = i := by omega
  have h3 : (0 : Int) ≤ i := by omega
  have h4 : (i : Int) < 64 := by omega
  have HA := Lib.hid (And.intro ha hb)
  clear ha hb
  go_enter Try.func59, Try.ntmps59
  go_wp2
  go_region
  rw [bit_or a i HA.out.1 hi]
  go_wp2
  refine bodyPost_ret (v := .agg #[uV (a ||| 2 ^ i), uV b]) (by simp [results, Try.results59, go_sem]) rfl ⟨_, _, rfl, or_lt a i HA.out.1 hi, HA.out.2, fun j => ?_, ((below_box0 w _).alloc (by simp) _).drew⟩
  unfold hasB
  by_cases hj : j < 64
  · rw [if_pos hj, if_pos hj, or_bit]
  · rw [if_neg hj, if_neg hj]
    have : (j == i) = false := by rw [beq_eq_false_iff_ne]; omega
    rw [this, Bool.or_false]
set_option maxHeartbeats 1000000 in
theorem with_hi (a b i : Nat) (ha : a < two64) (hb : b < two64) (hi : 64 ≤ i) (hi2 : i < 128) (w : World) :
    Calls Try.prog 59 #[.agg #[uV a, uV b], .int .i64 i] w (WithPost a b i w) := by
  obtain ⟨k, rfl⟩ : ∃ k, i = k + 64 := ⟨i - 64, by omega⟩
  have h1 : ((k + 64 : Nat) : Int) / 64 = 1 := by omega
  have h2 : ((k + 64 : Nat) : Int) % 64 = k := by omega
  have h3 : (0 : Int) ≤ ((k + 64 : Nat) : Int) := by omega
  have h5 : (0 : Int) ≤ k := by omega
  have h4 : ((k + 64 : Nat) : Int) < 128 := by omega
  have hk : k < 64 := by omega
  generalize hn : ((k + 64 : Nat) : Int) = n at *
  have HA := Lib.hid (And.intro ha hb)
  have HN := Lib.hid hn
  clear ha hb hn hi
  go_enter Try.func59, Try.ntmps59
  go_wp2
  go_region
  rw [bit_or b k HA.out.2 hk]
  go_wp2
  refine bodyPost_ret (v := .agg #[uV a, uV (b ||| 2 ^ k)]) (by simp [results, Try.results59, go_sem]) rfl ⟨_, _, rfl, HA.out.1, or_lt b k HA.out.2 hk, fun j => ?_, ((below_box0 w _).alloc (by simp) _).drew⟩
  unfold hasB
  by_cases hj : j < 64
  · rw [if_pos hj, if_pos hj]
    have : (j == k + 64) = false := by rw [beq_eq_false_iff_ne]; omega
    rw [this, Bool.or_false]
  · rw [if_neg hj, if_neg hj, or_bit]
    have : (j - 64 == k) = (j == k + 64) := by
      by_cases e : j = k + 64
      · subst e; simp
      · rw [beq_eq_false_iff_ne.2 e, beq_eq_false_iff_ne]; omega
    rw [this]
theorem has_at (a b i : Nat) (ha : a < two64) (hb : b < two64) (hi : i < 128) (r : Bool) (hr : hasB a b i = r) (w : World) :
    Calls Try.prog 61 #[.agg #[uV a, uV b], .int .i64 i] w fun e w' => e = .returned (.bool r) ∧ Below w.heap.size w w' := by
  subst hr
  rcases Nat.lt_or_ge i 64 with h | h
  · exact has_lo a b i ha h w
  · exact has_hi a b i hb h hi w
theorem with_at (a b i : Nat) (ha : a < two64) (hb : b < two64) (hi : i < 128) (w : World) :
    Calls Try.prog 59 #[.agg #[uV a, uV b], .int .i64 i] w (WithPost a b i w) := by
  rcases Nat.lt_or_ge i 64 with h | h
  · exact with_lo a b i ha hb h w
  · exact with_hi a b i ha hb h hi w
theorem behind_at (b o : Nat) (i : Nat) (s : Bool) (w : World) (hc : w.cell? ⟨b, o + 257, none⟩ = some (.bool s)) (hi : i < 128) :
    Calls Try.prog 73 #[.pointer (some ⟨b, o, none⟩), .int .i64 i] w fun e w' => e = .returned (.int .i64 ((if s then i else i + 1 : Nat) : Int)) ∧ w = w' := by
  have h1 : (i : Int) < 128 := by omega
  have h2 : (0 : Int) ≤ i := by omega
  clear hi
  cases s with
  | true =>
    go_enter Try.func73, Try.ntmps73
    go_wp2
    go_ret
    exact ⟨rfl, rfl⟩
  | false =>
    go_enter Try.func73, Try.ntmps73
    go_wp2
    go_ret
    exact ⟨by simp, rfl⟩
/-! ### a set in a variable -/
def PB (W : World) (B a b : Nat) : Prop := W.heap[B]? = some (.cells #[uV a, uV b] 88 (0, 0))
theorem PB.c0 {W : World} {B a b : Nat} (h : PB W B a b) : W.cell? ⟨B, 0, none⟩ = some (uV a) := by rw [cell_of_row W B 0 _ _ _ h]; rfl
theorem PB.c1 {W : World} {B a b : Nat} (h : PB W B a b) : W.cell? ⟨B, 1, none⟩ = some (uV b) := by rw [cell_of_row W B 1 _ _ _ h]; rfl
theorem PB.lt {W : World} {B a b : Nat} (h : PB W B a b) : B < W.heap.size := (Array.getElem?_eq_some_iff.1 h).1
theorem PB.below {W W' : World} {B a b : Nat} (h : PB W B a b) (hB : Below W.heap.size W W') : PB W' B a b := (hB.block B h.lt).trans h
theorem info_pl : (Try.prog.info? 88).map (fun i => (i.zero, i.size)) = some (some (.agg #[uV 0, uV 0]), 2) := by kernel_rfl
theorem size_pl (a b : Nat) : (Try.prog.info? 88).map (·.size) = some (#[uV a, uV b] : Array Value).size := (zero_of_info info_pl).2
theorem one_pl (a b : Nat) : ∀ v ∈ (#[uV a, uV b] : Array Value).toList, v.oneCell' = true := by
  intro v hv
  simp at hv
  rcases hv with rfl | rfl <;> rfl
theorem load_pl {W : World} {B a b : Nat} (h : PB W B a b) : (loadVar 88 ⟨B, 0, none⟩).run Try.prog W = .ok (.agg #[uV a, uV b]) W :=
  run_loadVar_row W B _ _ _ (0, 0) _ h Try.underlying88 rfl (size_pl a b)
end Go.Proofs.Ytjjdihkjkmhjnaa
