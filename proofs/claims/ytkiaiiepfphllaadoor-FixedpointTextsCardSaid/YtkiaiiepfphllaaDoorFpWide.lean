/- Numbers of two machine words: times, cube, isAtMost. -/
import Derived.Test.YtkiaiiepfphllaaDoorFpProg
import Derived.Test.YtkiaiiepfphllaaDoorShelf
namespace Go.Proofs.YtkiaiiepfphllaaDoor
set_option linter.unusedSimpArgs false
set_option linter.unusedVariables false
set_option maxRecDepth 100000
open Go.RowKit

theorem bcell {W w1 : World} (hb : Below W.heap.size W w1) : (∀ b o, b < W.heap.size → w1.cell? ⟨b, o, none⟩ = W.cell? ⟨b, o, none⟩) ∧ (∀ b o, b < W.heap.size → w1.frozen? ⟨b, o, none⟩ = W.frozen? ⟨b, o, none⟩) :=
  ⟨fun b o h => hb.cell (p := ⟨b, o, none⟩) h, fun b o h => hb.frozen (p := ⟨b, o, none⟩) h⟩
def B64 : Nat := 18446744073709551616
theorem B64_pos : 0 < B64 := by decide
abbrev wideV (h l : Nat) : Value := .agg #[.int .u64 h, .int .u64 l]
theorem mul_at (x y q r : Nat) (hx : x < B64) (hy : y < B64) (hq : x * y / B64 = q) (hr : x * y % B64 = r) (w : World) :
    Calls Tryd.prog 67 #[.int .u64 x, .int .u64 y] w fun e w' => e = .returned (.tuple #[.int .u64 q, .int .u64 r]) ∧ w = w' := by
  subst hq hr
  exact (Tryd.bits_Mul64 x y hx hy w).mono fun e w' ⟨h, h2⟩ => ⟨h, h2.symm⟩

theorem u64_wrap {k : Nat} (h : k < B64) : IntKind.u64.wrap (k : Int) = k := by
  have : (k : Int) % 18446744073709551616 = k := Int.emod_eq_of_lt (by omega) (by unfold B64 at h; omega)
  simpa [IntKind.wrap, IntKind.signed, IntKind.bits] using this
set_option maxHeartbeats 1000000 in
theorem times_any (h l n p q r t : Nat) (hh : h < B64) (hl : l < B64) (hn : n < 1125899906842624) (hp : h * n = p) (hq : l * n / B64 = q) (hr : l * n % B64 = r) (ht : p + q = t) (htb : t < B64) (w : World) :
    Calls Tryd.prog 45 #[wideV h l, .int .i64 n] w fun e w' => e = .returned (wideV t r) ∧ Below w.heap.size w w' := by
  have hn2 : n < B64 := by unfold B64; omega
  have HM := Lib.hid (mul_at l n q r hl hn2 hq hr)
  have hw0 : IntKind.u64.wrap (n : Int) = n := u64_wrap hn2
  have hw1 : IntKind.u64.wrap ((h : Int) * n) = (p : Int) := by rw [← Int.natCast_mul, hp]; exact u64_wrap (by omega)
  have hw2 : IntKind.u64.wrap ((p : Int) + q) = (t : Int) := by rw [← Int.natCast_add, ht]; exact u64_wrap htb
  have HW := Lib.hid hw0
  have H1 := Lib.hid hw1
  have H2 := Lib.hid hw2
  clear hw0 hw1 hw2 hh hl hn2 hp hq hr ht htb
  go_enter Tryd.func45, Tryd.ntmps45
  go_wp2_with fail
  refine (HM.out _).mono ?_
  rintro e w' ⟨rfl, rfl⟩
  have hw1 := H1.out
  have hw2 := H2.out
  go_wp2
  exact bodyPost_ret (v := wideV t r) (by simp [results, Tryd.results45, go_sem]) rfl ⟨rfl, ((Below.refl _ _).alloc (Nat.le_refl _) _).alloc (by simp) _⟩

/-- the number V in two words -/
def wv (V : Nat) : Value := wideV (V / B64) (V % B64)
theorem wide_hi (V n : Nat) : V / B64 * n + V % B64 * n / B64 = V * n / B64 := by
  have h := Nat.div_add_mod V B64
  have e : V * n = B64 * (V / B64 * n) + V % B64 * n := by
    conv => lhs; rw [← h]
    rw [Nat.add_mul, Nat.mul_assoc]
  rw [e, Nat.mul_add_div B64_pos]
theorem wide_lo (V n : Nat) : V % B64 * n % B64 = V * n % B64 := by rw [Nat.mod_mul_mod]
theorem times_nat (V n : Nat) (hn : n < 1125899906842624) (hb : V * n < B64 * B64) (hV : V < B64 * B64) (w : World) :
    Calls Tryd.prog 45 #[wv V, .int .i64 n] w fun e w' => e = .returned (wv (V * n)) ∧ Below w.heap.size w w' :=
  times_any (V / B64) (V % B64) n _ _ _ _ (Nat.div_lt_of_lt_mul hV) (Nat.mod_lt _ B64_pos) hn rfl rfl (wide_lo V n) (wide_hi V n) (Nat.div_lt_of_lt_mul hb) w
theorem cube_lt {n : Nat} (h : n ≤ 1073741824) : n * n ≤ 1152921504606846976 ∧ n * n * n ≤ 1237940039285380274899124224 := by
  have h1 := Nat.mul_le_mul h h
  have h2 := Nat.mul_le_mul h1 h
  exact ⟨h1, h2⟩
set_option maxHeartbeats 1000000 in
theorem cube_any (n : Nat) (h : n ≤ 1073741824) (w : World) :
    Calls Tryd.prog 44 #[.int .i64 n] w fun e w' => e = .returned (wv (n * n * n)) ∧ Below w.heap.size w w' := by
  obtain ⟨h1, h2⟩ := cube_lt h
  obtain ⟨m, hm⟩ : ∃ m, n * n = m := ⟨_, rfl⟩
  rw [hm] at h1 h2 ⊢
  have hmB : m < B64 := by unfold B64; omega
  have HT := Lib.hid (times_nat m n (by omega) (by rw [show B64 * B64 = 340282366920938463463374607431768211456 by decide]; omega) (by rw [show B64 * B64 = 340282366920938463463374607431768211456 by decide]; omega))
  have HV := Lib.hid (show wv m = .agg #[.int .u64 0, .int .u64 m] by rw [wv, Nat.div_eq_of_lt hmB, Nat.mod_eq_of_lt hmB]; rfl)
  have hw1 : IntKind.i64.wrap ((n : Int) * n) = m := by rw [← Int.natCast_mul, hm]; exact IntWalk.i64_in _ (by omega)
  have hw2 : IntKind.u64.wrap (m : Int) = m := u64_wrap hmB
  clear h2 hm hmB
  obtain ⟨hi, hhi⟩ : ∃ hi, m * n / B64 = hi := ⟨_, rfl⟩
  obtain ⟨lo, hlo⟩ : ∃ lo, m * n % B64 = lo := ⟨_, rfl⟩
  have hR : wv (m * n) = wideV hi lo := by rw [wv, hhi, hlo]
  rw [HV.out, hR] at HT
  rw [hR]
  clear hR hhi hlo HV
  go_enter Tryd.func44, Tryd.ntmps44
  go_wp2_with fail
  refine (HT.out _).mono ?_
  rintro e w1 ⟨rfl, hb⟩
  obtain ⟨hc, hf⟩ := bcell hb
  have hz : w.heap.size < w1.heap.size := by have := hb.size; simp at this; omega
  have HB := Lib.hid hb
  clear hb
  go_wp2
  exact bodyPost_ret (v := wideV hi lo) (by simp [results, Tryd.results44, go_sem, hc, hz]) rfl ⟨rfl, ((((Below.refl _ _).alloc (Nat.le_refl _) _).trans (HB.out.mono (by simp))).setCell (by simp) _).setCell (by simp) _⟩

set_option maxHeartbeats 1000000 in
theorem most_at (a b c d : Nat) (w : World) :
    Calls Tryd.prog 48 #[wideV a b, wideV c d] w fun e w' => e = .returned (.bool (decide (a < c ∨ (a = c ∧ b ≤ d)))) ∧ Below w.heap.size w w' := by
  have hB : ∀ o o' : Obj, Below w.heap.size w ((w.alloc o).alloc o') := fun o o' => ((Below.refl _ _).alloc (Nat.le_refl _) _).alloc (by simp) _
  have HB := Lib.hid hB
  clear hB
  have hways : (a = c ∧ b = d) ∨ (a = c ∧ b < d) ∨ (a = c ∧ d < b) ∨ (a < c) ∨ (c < a) := by omega
  rcases hways with ⟨rfl, rfl⟩ | ⟨rfl, h⟩ | ⟨rfl, h⟩ | h | h
  all_goals
    go_enter Tryd.func48, Tryd.ntmps48
    go_wp2
    all_goals
      go_ret
      exact ⟨ret_bool (by rw [Bool.eq_iff_iff]; simp <;> omega), HB.out _ _⟩
theorem wide_le (A B : Nat) : (A / B64 < B / B64 ∨ (A / B64 = B / B64 ∧ A % B64 ≤ B % B64)) ↔ A ≤ B := by
  have h1 := Nat.div_add_mod A B64
  have h2 := Nat.div_add_mod B B64
  have h3 := Nat.mod_lt A B64_pos
  have h4 := Nat.mod_lt B B64_pos
  unfold B64 at *
  omega
theorem most_nat (A B : Nat) (r : Bool) (hr : decide (A ≤ B) = r) (w : World) :
    Calls Tryd.prog 48 #[wv A, wv B] w fun e w' => e = .returned (.bool r) ∧ Below w.heap.size w w' := by
  subst hr
  refine (most_at (A / B64) (A % B64) (B / B64) (B % B64) w).mono fun e w' ⟨h, hb⟩ => ⟨?_, hb⟩
  rw [h]
  exact ret_bool (by rw [Bool.eq_iff_iff, decide_eq_true_eq, decide_eq_true_eq]; exact wide_le A B)
end Go.Proofs.YtkiaiiepfphllaaDoor
