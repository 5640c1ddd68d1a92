/- From the row's condition to the table of powers. -/
import Derived.Test.YtkiaiiepfphllaaDoorFpPrint
import Derived.Test.YtkiaiiepfphllaaDoorTie
import Derived.ProofKit
import Derived.LaidMore
import Derived.Lay
import Derived.OpenShut
import Derived.Stop.Joined
import Derived.Stop.LaidErr
namespace Go.Proofs.YtkiaiiepfphllaaDoor
set_option maxRecDepth 100000
open Go.ChangeShapes Go.WideShapes Go.ChangeAt Go.RowKit
theorem pow_laid : (Rows.laid_internal_strconv_uint64pow10 : DataW Unit) = Lib.tabData .u64 Lib.pow10Tab := by kernel_rfl
theorem tab_of_laid {W : World} (h : laidMetH Tryd.prog Rows.fixedpointTextsRow.laid W) : Tab W := by
  rw [MakeChecks.laidMetH_plain _ _ _ (by kernel_rfl)] at h
  have h2 := h.tail.tail
  rw [pow_laid] at h2
  exact Lib.tabIs_of_head tab_glob (by kernel_rfl) Tryd.underlying118 Tryd.underlying62 (by kernel_rfl) (by kernel_rfl) h2
end Go.Proofs.YtkiaiiepfphllaaDoor
