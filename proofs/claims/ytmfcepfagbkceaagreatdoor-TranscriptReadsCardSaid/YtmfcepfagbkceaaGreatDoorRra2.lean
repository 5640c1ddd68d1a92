/- Stage 10 (transcript): MkRefP MkRefS, put together by merge10.py. -/
import Derived.Test.YtmfcepfagbkceaaGreatDoorRc3
import Derived.Test.YtmfcepfagbkceaaGreatDoorRra
namespace Go.Proofs.YtmfcepfagbkceaaGreatDoor
set_option linter.unusedSimpArgs false
set_option linter.unusedVariables false
set_option maxRecDepth 100000
open Go.RowKit Go.Deep
def RefChk : Prop := ∀ (L : List Lx) (e : Int) (v : Value) (w : World), chkR L = e → LexAt w v L → LxB L →
  Calls Tryz.prog 72 #[v] w fun en w' => en = .returned (intV e) ∧ Below w.heap.size w w'
end Go.Proofs.YtmfcepfagbkceaaGreatDoor
namespace Go.Proofs.YtmfcepfagbkceaaGreatDoor
set_option linter.unusedSimpArgs false
set_option linter.unusedVariables false
set_option maxRecDepth 100000
open Go.RowKit Go.Deep
def RefScn : Prop := ∀ (s : Bs) (L : List Lx) (e : Int) (w : World), scanR s = (L, e) → s.length ≤ maxLen →
  Calls Tryz.prog 41 #[sV s] w fun en w' => ∃ v, en = .returned (.tuple #[v, intV e]) ∧ LexAt w' v L ∧ Below w.heap.size w w'
end Go.Proofs.YtmfcepfagbkceaaGreatDoor
