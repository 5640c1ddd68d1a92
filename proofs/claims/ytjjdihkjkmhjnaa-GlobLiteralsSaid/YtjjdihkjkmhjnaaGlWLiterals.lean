/- The law's walk in the frame's form. -/
import Derived.Test.YtjjdihkjkmhjnaaGpOk
import Derived.Test.YtjjdihkjkmhjnaaGlLiterals
namespace Go.Proofs.Ytjjdihkjkmhjnaa
open Go.RowKit

theorem len_of {n : Nat} (h : n ≤ maxLen) : n ≤ 9223372036854775807 := by unfold maxLen at h; omega
theorem literals_w (w : World) (a0 a1 : ByteArray) (w0 : a0.size ≤ maxLen) (w1 : a1.size ≤ maxLen) :
    Calls Try.prog 6 #[.string a0, .string a1] w fun e w' => e = .returned (.bool true) ∧ Below w.heap.size w w' := literals_law globOk a0 a1 (len_of w0) (len_of w1) w
end Go.Proofs.Ytjjdihkjkmhjnaa
