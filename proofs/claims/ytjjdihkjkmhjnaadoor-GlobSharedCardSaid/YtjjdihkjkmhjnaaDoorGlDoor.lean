/- GlobShared's walk in the card's form. -/
import Derived.Test.YtjjdihkjkmhjnaaDoorGpCommon
import Derived.Test.YtjjdihkjkmhjnaaDoorGlShared
import Derived.Test.YtjjdihkjkmhjnaaDoorGlLaid
namespace Go.Proofs.YtjjdihkjkmhjnaaDoor
open Go.RowKit

theorem len_of {n : Nat} (h : n ≤ maxLen) : n ≤ 9223372036854775807 := by unfold maxLen at h; omega
theorem u8_of {x : Int} (h : (Lit.int .u8 x).wf = true) : ∃ n : Nat, x = (n : Int) ∧ n ≤ 255 := by
  unfold Lit.wf at h
  rw [Bool.and_eq_true, decide_eq_true_eq, decide_eq_true_eq, show IntKind.u8.min = 0 by decide, show IntKind.u8.max = 255 by decide] at h
  exact ⟨x.toNat, by omega, by omega⟩
theorem shared_w (a0 a1 a2 : ByteArray) (k3 : Int) (w0 : a0.size ≤ maxLen) (w1 : a1.size ≤ maxLen) (w2 : a2.size ≤ maxLen) (w3 : (Lit.int .u8 k3).wf = true) (w : World) (_ : Tab w) :
    Calls Tryd.prog 3 #[.string a0, .string a1, .string a2, .int .u8 k3] w fun e w' => e = .returned (.bool true) ∧ Below w.heap.size w w' := by
  obtain ⟨n, rfl, hn⟩ := u8_of w3
  exact shared_law globOk1 a0 a1 a2 n hn (len_of w0) (len_of w1) (len_of w2) w
end Go.Proofs.YtjjdihkjkmhjnaaDoor
