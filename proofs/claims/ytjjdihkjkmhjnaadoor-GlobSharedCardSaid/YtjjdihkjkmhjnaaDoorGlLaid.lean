/- GlobShared's card: no fact of the row's condition is needed. -/
import Derived.Test.YtjjdihkjkmhjnaaDoorRows
import Derived.ProofKit
import Derived.LaidMore
namespace Go.Proofs.YtjjdihkjkmhjnaaDoor

def Tab (_ : World) : Prop := True
theorem tab_of_laid {W : World} (_ : laidMetH Tryd.prog Rows.globSharedRow.laid W) : Tab W := trivial
end Go.Proofs.YtjjdihkjkmhjnaaDoor
