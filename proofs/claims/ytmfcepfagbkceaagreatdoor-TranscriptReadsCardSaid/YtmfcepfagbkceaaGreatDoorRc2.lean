/- Stage 10 (transcript): MkArgs, put together by merge10.py. -/
import Derived.Test.YtmfcepfagbkceaaGreatDoorRc
import Derived.SliceStrings
import Derived.Deep.Strs
import Derived.Deep.Slices
import Derived.Lib.SmallJoins
import Derived.ProofKit
import Derived.OpenShut
namespace Go.Proofs.YtmfcepfagbkceaaGreatDoor
set_option linter.unusedSimpArgs false
set_option linter.unusedVariables false
open Go.RowKit Go.Deep Go.WideShapes Go.ChangeShapes Go.ChangeMaps
end Go.Proofs.YtmfcepfagbkceaaGreatDoor
