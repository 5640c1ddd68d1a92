/- The law's walk in the frame's form. -/
import Derived.Test.YtjjdihkjkmhjnaaGpOk
import Derived.Test.YtjjdihkjkmhjnaaGlFilters
namespace Go.Proofs.Ytjjdihkjkmhjnaa
open Go.RowKit

theorem len_of {n : Nat} (h : n ≤ maxLen) : n ≤ 9223372036854775807 := by unfold maxLen at h; omega
theorem filters_w (w : World) (a0 : ByteArray) (u1 : Value) (x1 : List ByteArray) (w0 : a0.size ≤ maxLen) (w1 : StrsAt w u1 x1) (b1 : x1.length ≤ maxLen) :
    Calls Try.prog 8 #[.string a0, u1] w fun e w' => e = .returned (.bool true) ∧ Below w.heap.size w w' := filters_law globOk a0 x1 u1 w (len_of w0) w1 (len_of b1)
end Go.Proofs.Ytjjdihkjkmhjnaa
