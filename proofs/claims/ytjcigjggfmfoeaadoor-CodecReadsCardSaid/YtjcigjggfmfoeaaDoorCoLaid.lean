/- From the row's condition to the variables of the library. -/
import Derived.Test.YtjcigjggfmfoeaaDoorCoLib
import Derived.Test.YtjcigjggfmfoeaaDoorTie
import Derived.ProofKit
import Derived.LaidMore
import Derived.Lay
import Derived.OpenShut
import Derived.Stop.Joined
import Derived.Stop.LaidErr
namespace Go.Proofs.YtjcigjggfmfoeaaDoor
set_option maxRecDepth 100000
open Go.ChangeShapes Go.WideShapes Go.ChangeAt Go.RowKit
theorem pow_laid : (Rows.laid_internal_strconv_uint64pow10 : DataW Unit) = Lib.tabData .u64 Lib.pow10Tab := by kernel_rfl
theorem err_row (u : TypeId) (h : Tryd.prog.typeName? 3 u = some "*errors.errorString") : u = 127 := by
  have star : "*errors.errorString" = "*" ++ "errors.errorString" := by decide
  exact typeName_ptr_named (nm := "errors.errorString") (by rw [← star]; kernel_rfl) (by kernel_rfl) (by decide) u (by rw [← star]; exact h)
theorem tab_of_list {W : World} {a b : String × DataW Unit} (h : laidMet Tryd.prog [a, b, ("internal/strconv.uint64pow10", Rows.laid_internal_strconv_uint64pow10), ("strconv.ErrRange", Rows.laid_strconv_ErrRange), ("strconv.ErrSyntax", Rows.laid_strconv_ErrSyntax)] W) : Tab W := by
  have h2 := h.tail.tail
  have h3 := h2.tail
  have h4 := h3.tail
  rw [pow_laid] at h2
  obtain ⟨a1, s1, e1, _⟩ := laid_sentinel h3 rng_glob (ti := 55) (by kernel_rfl) Tryd.underlying55 err_row Tryd.underlying127 Tryd.underlying129 rfl rfl Tryd.underlying9 (by kernel_rfl) (by kernel_rfl)
  obtain ⟨a2, s2, e2, _⟩ := laid_sentinel h4 syn_glob (ti := 55) (by kernel_rfl) Tryd.underlying55 err_row Tryd.underlying127 Tryd.underlying129 rfl rfl Tryd.underlying9 (by kernel_rfl) (by kernel_rfl)
  exact ⟨Lib.tabIs_of_head tab_glob (by kernel_rfl) Tryd.underlying113 Tryd.underlying90 (by kernel_rfl) (by kernel_rfl) h2, ⟨_, _, e2⟩, ⟨_, _, e1⟩⟩
theorem tab_of_laid {W : World} (h : laidMetH Tryd.prog Rows.codecBackRow.laid W) : Tab W := by
  rw [MakeChecks.laidMetH_plain _ _ _ (by kernel_rfl)] at h
  exact tab_of_list h
end Go.Proofs.YtjcigjggfmfoeaaDoor
