/- SequenceHeavy: the law's walk, as the frame asks it. -/
import Derived.Test.YteceahbnafaeoaaSqHeavy
import Derived.Test.YteceahbnafaeoaaSqArgsB
import Derived.Test.YteceahbnafaeoaaSpOk
import Derived.Test.YteceahbnafaeoaaSqArgs
namespace Go.Proofs.Yteceahbnafaeoaa
open Go.RowKit Go.Deep

theorem heavy_w (w : World) (u0 : Value) (x0 : List Int) (u1 : Value) (x1 : List Int) (a2 a3 : Int) (h0 : IntsR w u0 x0) (b0 : x0.length ≤ maxLen) (h1 : BytesR w u1 x1) (b1 : x1.length ≤ maxLen) (h2 : (Lit.int .u8 a2).wf = true) (h3 : (Lit.int .u16 a3).wf = true) :
    Calls Try.prog 7 #[u0, u1, .int .u8 a2, .int .u16 a3] w fun e w' => e = .returned (.bool true) ∧ Below w.heap.size w w' := by
  obtain ⟨f, rfl⟩ : ∃ f : Nat, a2 = f := ⟨a2.toNat, by have := wf_u8 h2; omega⟩
  have kf := wf_u8 h2
  obtain ⟨m, rfl⟩ : ∃ m : Nat, a3 = m := ⟨a3.toNat, by have := wf_u16 h3; omega⟩
  have km := wf_u16 h3
  exact heavy_law sqOk x0 x1 u0 u1 w f m (by omega) (by omega) h0.1 h1.1 h0.2.1 h1.2 b0 b1
end Go.Proofs.Yteceahbnafaeoaa
