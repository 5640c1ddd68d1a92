/- SequenceMoves: the law's walk, as the frame asks it. -/
import Derived.Test.YteceahbnafaeoaaSqMoves
import Derived.Test.YteceahbnafaeoaaSpOk
import Derived.Test.YteceahbnafaeoaaSqArgs
namespace Go.Proofs.Yteceahbnafaeoaa
open Go.RowKit Go.Deep

theorem moves_w (w : World) (u0 : Value) (x0 : List Int) (a1 a2 : Int) (h0 : IntsR w u0 x0) (b0 : x0.length ≤ maxLen) (h1 : (Lit.int .u8 a1).wf = true) (h2 : (Lit.int .u8 a2).wf = true) :
    Calls Try.prog 10 #[u0, .int .u8 a1, .int .u8 a2] w fun e w' => e = .returned (.bool true) ∧ Below w.heap.size w w' := by
  obtain ⟨f, rfl⟩ : ∃ f : Nat, a1 = f := ⟨a1.toNat, by have := wf_u8 h1; omega⟩
  have kf := wf_u8 h1
  obtain ⟨t, rfl⟩ : ∃ t : Nat, a2 = t := ⟨a2.toNat, by have := wf_u8 h2; omega⟩
  have kt := wf_u8 h2
  exact moves_law sqOk x0 u0 w f t (by omega) (by omega) h0.1 h0.2.1 b0
end Go.Proofs.Yteceahbnafaeoaa
