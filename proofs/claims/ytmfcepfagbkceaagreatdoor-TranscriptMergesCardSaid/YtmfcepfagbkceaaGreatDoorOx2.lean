/- Stage 10 (transcript): TrLaid, put together by merge10.py. -/
import Derived.Test.YtmfcepfagbkceaaGreatDoorOg
import Derived.Test.YtmfcepfagbkceaaGreatDoorTie
import Derived.ChangeBears2
import Derived.ProofKit
import Derived.LaidMore
import Derived.Lay
import Derived.OpenShut
import Derived.Stop.Joined
import Derived.Stop.LaidErr
namespace Go.Proofs.YtmfcepfagbkceaaGreatDoor
set_option maxRecDepth 100000
open Go.ChangeShapes Go.WideShapes Go.ChangeAt Go.RowKit
theorem syn_glob : Tryz.prog.globalNamed "strconv.ErrSyntax" = some 1 := by kernel_rfl
theorem rng_glob : Tryz.prog.globalNamed "strconv.ErrRange" = some 2 := by kernel_rfl
theorem err_row (u : TypeId) (h : Tryz.prog.typeName? 3 u = some "*errors.errorString") : u = 183 := by
  have star : "*errors.errorString" = "*" ++ "errors.errorString" := by decide
  exact typeName_ptr_named (nm := "errors.errorString") (by rw [← star]; kernel_rfl) (by kernel_rfl) (by decide) u (by rw [← star]; exact h)
theorem t_of_list {W : World} {a b c : String × DataW Unit} (h : laidMet Tryz.prog [a, b, c, ("strconv.ErrRange", Rows.laid_strconv_ErrRange), ("strconv.ErrSyntax", Rows.laid_strconv_ErrSyntax)] W) : T W := by
  have h3 := h.tail.tail.tail
  have h4 := h3.tail
  obtain ⟨a1, s1, e1, _⟩ := laid_sentinel h3 rng_glob (ti := 72) (by kernel_rfl) Tryz.underlying72 err_row Tryz.underlying183 Tryz.underlying185 rfl rfl Tryz.underlying9 (by kernel_rfl) (by kernel_rfl)
  obtain ⟨a2, s2, e2, _⟩ := laid_sentinel h4 syn_glob (ti := 72) (by kernel_rfl) Tryz.underlying72 err_row Tryz.underlying183 Tryz.underlying185 rfl rfl Tryz.underlying9 (by kernel_rfl) (by kernel_rfl)
  exact ⟨⟨_, _, var?_cell syn_glob e2 0⟩, ⟨_, _, var?_cell rng_glob e1 0⟩⟩
theorem t_of_laid {W : World} (h : laidMetH Tryz.prog Rows.transcriptReadsRow.laid W) : T W := by
  rw [MakeChecks.laidMetH_plain _ _ _ (by kernel_rfl)] at h
  exact t_of_list h
end Go.Proofs.YtmfcepfagbkceaaGreatDoor
