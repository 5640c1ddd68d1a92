/- SequenceLongest: the law's walk, as the frame asks it. -/
import Derived.Test.YteceahbnafaeoaaSqLongest
import Derived.Test.YteceahbnafaeoaaSpOk
import Derived.Test.YteceahbnafaeoaaSqArgs
namespace Go.Proofs.Yteceahbnafaeoaa
open Go.RowKit Go.Deep

theorem longest_w (w : World) (u0 : Value) (x0 : List Int) (a1 : Int) (h0 : IntsR w u0 x0) (b0 : x0.length ≤ maxLen) (h1 : (Lit.int .u16 a1).wf = true) :
    Calls Try.prog 5 #[u0, .int .u16 a1] w fun e w' => e = .returned (.bool true) ∧ Below w.heap.size w w' := by
  obtain ⟨m, rfl⟩ : ∃ m : Nat, a1 = m := ⟨a1.toNat, by have := wf_u16 h1; omega⟩
  have km := wf_u16 h1
  exact longest_law sqOk x0 u0 w m (by omega) h0.1 h0.2.1 b0
end Go.Proofs.Yteceahbnafaeoaa
