/- Stage 10 (transcript): TrArgs, put together by merge10.py. -/
import Derived.Test.YtmfcepfagbkceaaGreatDoorRh
import Derived.Test.YtmfcepfagbkceaaGreatDoorRc2
namespace Go.Proofs.YtmfcepfagbkceaaGreatDoor
set_option linter.unusedSimpArgs false
set_option linter.unusedVariables false
set_option maxRecDepth 100000
open Go.RowKit Go.Deep Go.WideShapes Go.ChangeShapes Go.ChangeMaps
end Go.Proofs.YtmfcepfagbkceaaGreatDoor
