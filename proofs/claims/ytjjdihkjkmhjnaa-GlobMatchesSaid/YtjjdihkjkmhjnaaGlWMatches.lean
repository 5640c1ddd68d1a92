/- The law's walk in the frame's form. -/
import Derived.Test.YtjjdihkjkmhjnaaGpOk
import Derived.Test.YtjjdihkjkmhjnaaGlMatches
namespace Go.Proofs.Ytjjdihkjkmhjnaa
open Go.RowKit

theorem len_of {n : Nat} (h : n ≤ maxLen) : n ≤ 9223372036854775807 := by unfold maxLen at h; omega
theorem matches_w (w : World) (a0 a1 : ByteArray) (u2 : Value) (x2 : List ByteArray) (_ : a0.size ≤ maxLen) (_ : a1.size ≤ maxLen) (w2 : StrsAt w u2 x2) (b2 : x2.length ≤ maxLen) :
    Calls Try.prog 4 #[.string a0, .string a1, u2] w fun e w' => e = .returned (.bool true) ∧ Below w.heap.size w w' := matches_law globOk a0 a1 x2 u2 w w2 (len_of b2)
end Go.Proofs.Ytjjdihkjkmhjnaa
