/- The laws' walks in the form that the frames take. -/
import Derived.Test.YtjcigjggfmfoeaaDoorCoArgs
import Derived.Test.YtjcigjggfmfoeaaDoorCoBack
import Derived.Test.YtjcigjggfmfoeaaDoorCoSameL
import Derived.Test.YtjcigjggfmfoeaaDoorCoPrefix
import Derived.Test.YtjcigjggfmfoeaaDoorCoLists
namespace Go.Proofs.YtjcigjggfmfoeaaDoor
open Go.RowKit Go.Deep
theorem back_w (w : World) (u : Value) (x : Val) (h : VAt w Any u x) (hT : Tab w) :
    Calls Tryd.prog 5 #[u] w fun e w' => e = .returned (.bool true) ∧ Below w.heap.size w w' := back_law x u Any w h hT
theorem prefixes_w (w : World) (u : Value) (x : Val) (u' : Value) (x' : Val) (h : VAt w Any u x) (h' : VAt w Any u' x') (hT : Tab w) :
    Calls Tryd.prog 8 #[u, u'] w fun e w' => e = .returned (.bool true) ∧ Below w.heap.size w w' := prefixes_law x x' u u' Any Any w h h' hT
theorem same_w (w : World) (u : Value) (x : Val) (u' : Value) (x' : Val) (h : VAt w Any u x) (h' : VAt w Any u' x') (hT : Tab w) :
    Calls Tryd.prog 9 #[u, u'] w fun e w' => e = .returned (.bool true) ∧ Below w.heap.size w w' := same_law x x' u u' Any Any w h h' hT
theorem lists_w (w : World) (u : Value) (x : List Val) (h : VsAt w Any u x) (_ : x.length ≤ maxLen) (hT : Tab w) :
    Calls Tryd.prog 7 #[u] w fun e w' => e = .returned (.bool true) ∧ Below w.heap.size w w' := lists_law x u Any w h hT
end Go.Proofs.YtjcigjggfmfoeaaDoor
