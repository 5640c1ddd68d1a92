/- The law's walk in the frame's form. -/
import Derived.Test.YtjjdihkjkmhjnaaGpOk
import Derived.Test.YtjjdihkjkmhjnaaGlChecks
namespace Go.Proofs.Ytjjdihkjkmhjnaa
open Go.RowKit

theorem checks_w (w : World) (a0 : ByteArray) (_ : a0.size ≤ maxLen) :
    Calls Try.prog 3 #[.string a0] w fun e w' => e = .returned (.bool true) ∧ Below w.heap.size w w' := checks_law globOk a0 w
end Go.Proofs.Ytjjdihkjkmhjnaa
