/- From the row's condition to the variables of strconv's errors. -/
import Derived.Test.YtdgihkgomfpmoaaDoorMkPW
import Derived.ChangeBears2
import Derived.Test.YtdgihkgomfpmoaaDoorTie
import Derived.ProofKit
import Derived.LaidMore
import Derived.Lay
import Derived.OpenShut
import Derived.Stop.Joined
import Derived.Stop.LaidErr
namespace Go.Proofs.YtdgihkgomfpmoaaDoor
set_option maxRecDepth 100000
open Go.ChangeShapes Go.WideShapes Go.ChangeAt Go.RowKit
theorem syn_glob : Tryd.prog.globalNamed "strconv.ErrSyntax" = some 1 := by kernel_rfl
theorem rng_glob : Tryd.prog.globalNamed "strconv.ErrRange" = some 2 := by kernel_rfl
theorem err_row (u : TypeId) (h : Tryd.prog.typeName? 3 u = some "*errors.errorString") : u = 131 := by
  have star : "*errors.errorString" = "*" ++ "errors.errorString" := by decide
  exact typeName_ptr_named (nm := "errors.errorString") (by rw [← star]; kernel_rfl) (by kernel_rfl) (by decide) u (by rw [← star]; exact h)
theorem t_of_list {W : World} {a b c : String × DataW Unit} (h : laidMet Tryd.prog [a, b, c, ("strconv.ErrRange", Rows.laid_strconv_ErrRange), ("strconv.ErrSyntax", Rows.laid_strconv_ErrSyntax)] W) : T W := by
  have h3 := h.tail.tail.tail
  have h4 := h3.tail
  obtain ⟨a1, s1, e1, _⟩ := laid_sentinel h3 rng_glob (ti := 58) (by kernel_rfl) Tryd.underlying58 err_row Tryd.underlying131 Tryd.underlying133 rfl rfl Tryd.underlying9 (by kernel_rfl) (by kernel_rfl)
  obtain ⟨a2, s2, e2, _⟩ := laid_sentinel h4 syn_glob (ti := 58) (by kernel_rfl) Tryd.underlying58 err_row Tryd.underlying131 Tryd.underlying133 rfl rfl Tryd.underlying9 (by kernel_rfl) (by kernel_rfl)
  exact ⟨⟨_, _, var?_cell syn_glob e2 0⟩, ⟨_, _, var?_cell rng_glob e1 0⟩⟩
theorem t_of_laid {W : World} (h : laidMetH Tryd.prog Rows.markupStripsRow.laid W) : T W := by
  rw [MakeChecks.laidMetH_plain _ _ _ (by kernel_rfl)] at h
  exact t_of_list h
end Go.Proofs.YtdgihkgomfpmoaaDoor
