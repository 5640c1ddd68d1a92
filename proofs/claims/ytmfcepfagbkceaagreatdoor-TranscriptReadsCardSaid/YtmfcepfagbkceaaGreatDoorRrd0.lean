/- Stage 10 (transcript): MkRefL, put together by merge10.py. -/
import Derived.Test.YtmfcepfagbkceaaGreatDoorRra2
import Derived.Test.YtmfcepfagbkceaaGreatDoorRc3
namespace Go.Proofs.YtmfcepfagbkceaaGreatDoor
set_option linter.unusedSimpArgs false
set_option linter.unusedVariables false
set_option maxRecDepth 100000
open Go.RowKit Go.Deep
def RefNst : Prop := ∀ (L : List Lx) (e : Int) (v : Value) (w : World), nestR L = e → LexAt w v L → LxB L →
  Calls Tryz.prog 42 #[v] w fun en w' => en = .returned (intV e) ∧ Below w.heap.size w w'
end Go.Proofs.YtmfcepfagbkceaaGreatDoor
