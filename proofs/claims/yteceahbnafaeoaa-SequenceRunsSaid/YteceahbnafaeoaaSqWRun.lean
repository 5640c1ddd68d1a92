/- SequenceRuns: the law's walk, as the frame asks it. -/
import Derived.Test.YteceahbnafaeoaaSqRunsL
import Derived.Test.YteceahbnafaeoaaSpOk
import Derived.Test.YteceahbnafaeoaaSqArgs
namespace Go.Proofs.Yteceahbnafaeoaa
open Go.RowKit Go.Deep

theorem runs_w (w : World) (u0 : Value) (x0 : List Int) (h0 : IntsR w u0 x0) (b0 : x0.length ≤ maxLen) :
    Calls Try.prog 9 #[u0] w fun e w' => e = .returned (.bool true) ∧ Below w.heap.size w w' := by
  exact runs_law sqOk x0 u0 w h0.1 h0.2.1 b0
end Go.Proofs.Yteceahbnafaeoaa
