/- The laws' small functions: fine, plain. -/
import Derived.Test.YtjjdihkjkmhjnaaGlAwake
import Derived.Test.YtjjdihkjkmhjnaaShelf
namespace Go.Proofs.Ytjjdihkjkmhjnaa
set_option linter.unusedSimpArgs false
set_option linter.unusedVariables false
set_option maxRecDepth 100000
open Go.RowKit Go.Deep

def fineB (p : List UInt8) : Bool := decide (p.length ≤ 12) && decide (chk p = 0)
theorem fine_at (H : GlobOk1) (p : ByteArray) (b : Bool) (hb : fineB p.data.toList = b) (w : World) :
    Calls Try.prog 27 #[.string p] w fun e w' => e = .returned (.bool b) ∧ Below w.heap.size w w' := by
  unfold fineB at hb
  rw [size_list] at hb
  obtain ⟨c, hc⟩ : ∃ c, chk p.data.toList = c := ⟨_, rfl⟩
  rw [hc] at hb
  have HC := Lib.hid hc
  clear hc
  by_cases h1 : p.size ≤ 12
  · have q : decide ((p.size : Int) ≤ 12) = true := decide_eq_true (by omega)
    rw [decide_eq_true h1, Bool.true_and] at hb
    have hb2 : (c == 0) = b := by rw [← hb]; by_cases h : c = 0 <;> simp [h]
    clear hb
    go_enter Try.func27, Try.ntmps27
    go_wp2_with fail
    refine (H.check p c HC.out w).mono ?_
    rintro e w1 ⟨rfl, h2⟩
    have HB := Lib.hid h2
    clear h2
    go_wp2_with fail
    go_ret
    exact ⟨rfl, HB.out⟩
  · have q : decide ((p.size : Int) ≤ 12) = false := decide_eq_false (by omega)
    rw [decide_eq_false h1, Bool.false_and] at hb
    subst hb
    go_enter Try.func27, Try.ntmps27
    go_wp2_with fail
    go_ret
    exact ⟨rfl, Below.refl _ _⟩
theorem fine_ok {p : List UInt8} (h : fineB p = true) : p.length ≤ 12 ∧ ∃ l, par p = (0, l) ∧ oks l ∧ txts l = p := by
  unfold fineB at h
  rw [Bool.and_eq_true, decide_eq_true_iff, decide_eq_true_iff] at h
  obtain ⟨_, l, h1, h2, h3, _⟩ := chk_ok h.2
  exact ⟨h.1, l, h1, h2, h3⟩
def plainB (w : List UInt8) : Bool := decide (w.length ≤ 12) && !(w.any (· == 32))
theorem plain_ok {w : List UInt8} (h : plainB w = true) : w.length ≤ 12 ∧ w.any (· == 32) = false := by
  unfold plainB at h
  rw [Bool.and_eq_true, decide_eq_true_iff] at h
  exact ⟨h.1, by simpa using h.2⟩
theorem plain_chk {w : List UInt8} (h : plainB w = true) : chkW w = 0 := chkW_small (by have := (plain_ok h).1; omega) (plain_ok h).2
theorem index_cases (e : UInt8) (l : List UInt8) : (Lib.indexByte l e = -1 ∧ l.any (· == e) = false) ∨ (∃ k : Nat, Lib.indexByte l e = k ∧ l.any (· == e) = true) := by
  induction l with
  | nil => exact .inl ⟨rfl, rfl⟩
  | cons c l ih =>
    by_cases h : c = e
    · subst h
      exact .inr ⟨0, by simp [Lib.indexByte], by simp⟩
    · have hb : (c == e) = false := by simpa using h
      rcases ih with ⟨i1, i2⟩ | ⟨k, i1, i2⟩
      · left
        refine ⟨?_, by rw [List.any_cons, hb, i2]; rfl⟩
        rw [Lib.indexByte, hb, i1]; simp
      · right
        refine ⟨k + 1, ?_, by rw [List.any_cons, hb, i2]; rfl⟩
        rw [Lib.indexByte, hb, i1]
        have : ((k : Int) == -1) = false := by simp
        simp [this]
theorem index_any (e : UInt8) (l : List UInt8) : decide ((0 : Int) ≤ Lib.indexByte l e) = l.any (· == e) := by
  rcases index_cases e l with ⟨h1, h2⟩ | ⟨k, h1, h2⟩
  · rw [h1, h2]; rfl
  · rw [h1, h2]; simp
theorem contains_at (s : ByteArray) (c : UInt8) (b : Bool) (hb : s.data.toList.any (· == c) = b) (w : World) :
    Calls Try.prog 30 #[.string s, .string ⟨#[c]⟩] w fun e w' => e = .returned (.bool b) ∧ w = w' := by
  refine (Try.strings_Contains_one s c w).mono fun e w' ⟨h1, h2⟩ => ⟨?_, h2.symm⟩
  rw [h1, index_any, hb]
theorem plain_at (s : ByteArray) (b : Bool) (hb : plainB s.data.toList = b) (w : World) :
    Calls Try.prog 28 #[.string s] w fun e w' => e = .returned (.bool b) ∧ w = w' := by
  unfold plainB at hb
  rw [size_list] at hb
  by_cases h1 : s.size ≤ 12
  · have q : decide ((s.size : Int) ≤ 12) = true := decide_eq_true (by omega)
    obtain ⟨c, hc⟩ : ∃ c, s.data.toList.any (· == 32) = c := ⟨_, rfl⟩
    rw [decide_eq_true h1, Bool.true_and, hc] at hb
    have HC := Lib.hid (contains_at s 32 c hc w)
    clear hc
    subst hb
    go_enter Try.func28, Try.ntmps28
    go_wp2_with fail
    refine HC.out.mono ?_
    rintro e w1 ⟨rfl, rfl⟩
    go_wp2_with fail
    go_ret
    exact ⟨rfl, rfl⟩
  · have q : decide ((s.size : Int) ≤ 12) = false := decide_eq_false (by omega)
    rw [decide_eq_false h1, Bool.false_and] at hb
    subst hb
    go_enter Try.func28, Try.ntmps28
    go_wp2_with fail
    go_ret
    exact ⟨rfl, rfl⟩
end Go.Proofs.Ytjjdihkjkmhjnaa
