/- CodecReads: the law's walk in the form that the frame takes. -/
import Derived.Test.YtjcigjggfmfoeaaDoorCoArgs
import Derived.Test.YtjcigjggfmfoeaaDoorCoReads
namespace Go.Proofs.YtjcigjggfmfoeaaDoor
open Go.RowKit Go.Deep
theorem reads_w (w : World) (s : ByteArray) (n : Int) (u : Value) (x : List Val) (hs : s.size ≤ maxLen) (hn : (Lit.int .i64 n).wf = true) (h : VsAt w Any u x) (hx : x.length ≤ maxLen) (hT : Tab w) :
    Calls Tryd.prog 4 #[.string s, intV n, u] w fun e w' => e = .returned (.bool true) ∧ Below w.heap.size w w' :=
  reads_law s n x u Any w (by unfold maxLen at hs; omega) (wf_i64 hn) (by unfold maxLen at hx; omega) h hT
end Go.Proofs.YtjcigjggfmfoeaaDoor
