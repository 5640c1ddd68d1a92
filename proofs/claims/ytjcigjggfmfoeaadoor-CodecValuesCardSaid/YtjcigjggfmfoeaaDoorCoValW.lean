/- CodecValues: the law's walk in the form that the frame takes. -/
import Derived.Test.YtjcigjggfmfoeaaDoorCoArgs
import Derived.Test.YtjcigjggfmfoeaaDoorCoValues
namespace Go.Proofs.YtjcigjggfmfoeaaDoor
open Go.RowKit Go.Deep
theorem values_w (w : World) (u : Value) (x : Val) (u' : Value) (x' : Val) (h : VAt w Any u x) (h' : VAt w Any u' x') (hT : Tab w) :
    Calls Tryd.prog 3 #[u, u'] w fun e w' => e = .returned (.bool true) ∧ Below w.heap.size w w' := values_law x x' u u' Any Any w h h' hT
end Go.Proofs.YtjcigjggfmfoeaaDoor
