/- SequenceProofs: the law's walk, as the frame asks it. -/
import Derived.Test.YteceahbnafaeoaaSqProofs
import Derived.Test.YteceahbnafaeoaaSpOk
import Derived.Test.YteceahbnafaeoaaSqArgs
namespace Go.Proofs.Yteceahbnafaeoaa
open Go.RowKit Go.Deep

theorem proofs_w (w : World) (u0 : Value) (x0 : List Int) (a1 a2 : Int) (h0 : IntsR w u0 x0) (b0 : x0.length ≤ maxLen) (h1 : (Lit.int .u16 a1).wf = true) (h2 : (Lit.int .u8 a2).wf = true) :
    Calls Try.prog 6 #[u0, .int .u16 a1, .int .u8 a2] w fun e w' => e = .returned (.bool true) ∧ Below w.heap.size w w' := by
  obtain ⟨m, rfl⟩ : ∃ m : Nat, a1 = m := ⟨a1.toNat, by have := wf_u16 h1; omega⟩
  have km := wf_u16 h1
  obtain ⟨t, rfl⟩ : ∃ t : Nat, a2 = t := ⟨a2.toNat, by have := wf_u8 h2; omega⟩
  have kt := wf_u8 h2
  exact proofs_law sqOk x0 u0 w m t (by omega) (by omega) h0.1 h0.2.1 b0
end Go.Proofs.Yteceahbnafaeoaa
