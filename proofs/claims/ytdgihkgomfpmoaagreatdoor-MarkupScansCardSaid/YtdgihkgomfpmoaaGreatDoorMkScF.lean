/- MarkupScans: the law's walk, with the program's and the reference's contracts. -/
import Derived.Test.YtdgihkgomfpmoaaGreatDoorMkRefL
import Derived.Test.YtdgihkgomfpmoaaGreatDoorMkRefSc
import Derived.Test.YtdgihkgomfpmoaaGreatDoorMkPW
namespace Go.Proofs.YtdgihkgomfpmoaaGreatDoor
open Go.RowKit Go.Deep
theorem scansC (w : World) [T w] (s : ByteArray) (hs : s.size ≤ maxLen) :
    Calls Tryz.prog 3 #[.string s] w fun e w' => e = .returned (.bool true) ∧ Below w.heap.size w w' :=
  scans_w mkOk refScan_any w s hs
end Go.Proofs.YtdgihkgomfpmoaaGreatDoor
