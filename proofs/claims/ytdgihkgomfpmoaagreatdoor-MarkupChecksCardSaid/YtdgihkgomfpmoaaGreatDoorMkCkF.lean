/- MarkupChecks: the law's walk, with the program's and the reference's contracts. -/
import Derived.Test.YtdgihkgomfpmoaaGreatDoorMkRefL
import Derived.Test.YtdgihkgomfpmoaaGreatDoorMkRefK
import Derived.Test.YtdgihkgomfpmoaaGreatDoorMkRefN
import Derived.Test.YtdgihkgomfpmoaaGreatDoorMkRefF
import Derived.Test.YtdgihkgomfpmoaaGreatDoorMkPW
namespace Go.Proofs.YtdgihkgomfpmoaaGreatDoor
open Go.RowKit Go.Deep
theorem checksC (w : World) [T w] (v : Value) (l : List Lx) (i : Int) (hv : LexIn w v l) (hl : l.length ≤ maxLen) (hi : (Lit.int .i64 i).wf = true) :
    Calls Tryz.prog 4 #[v, intV i] w fun e w' => e = .returned (.bool true) ∧ Below w.heap.size w w' :=
  checks_w mkOk refChk_any (refNested_any refChk_any) (refFind_any refChk_any) w v l i hv hl hi
end Go.Proofs.YtdgihkgomfpmoaaGreatDoor
