/- Laws of two values. -/
import Derived.Test.YtjcigjggfmfoeaaDoorCoBack
import Derived.Test.YtjcigjggfmfoeaaDoorShelf
import Derived.Test.YtjcigjggfmfoeaaDoorCoRows
namespace Go.Proofs.YtjcigjggfmfoeaaDoor
set_option linter.unusedSimpArgs false
set_option linter.unusedVariables false
set_option maxRecDepth 100000
open Go.RowKit Go.Deep

theorem enc_comm (a b : Val) : (enc b == enc a) = (enc a == enc b) := by
  by_cases h : enc a = enc b
  · rw [h]
  · rw [beq_eq_false_iff_ne.2 h, beq_eq_false_iff_ne.2 (Ne.symm h)]
theorem dec_two {a b : Val} (ha : fit a) (hl : (enc a).length + (enc b).length ≤ 1048576) : dec (enc a ++ enc b) = (mkZ, 3) := by
  rw [dec, if_neg (by rw [List.length_append]; omega), rd_two ha (enc_ne b)]
theorem prefix_enc {a b : Val} (ha : fit a) (hb : fit b) : Lib.hasPrefix (enc b) (enc a) = (enc a == enc b) := by
  unfold Lib.hasPrefix
  cases hp : (enc a).isPrefixOf (enc b) with
  | true =>
    rw [enc_prefix ha hb (List.isPrefixOf_iff_prefix.1 hp)]; simp
  | false =>
    symm
    rw [beq_eq_false_iff_ne]
    intro e
    rw [e] at hp
    have : (enc b).isPrefixOf (enc b) = true := List.isPrefixOf_iff_prefix.2 (List.prefix_refl _)
    rw [hp] at this; cases this
/-- a literal of two values -/
theorem lit_two {W : World} {P Q : Nat → Prop} {a b : Val} {so ro : Option Addr} {sc rc N : Nat} (ha : VAt W P (.agg #[intV a.kd, intV a.nm, .string a.tx, .slice so a.its.length sc]) a) (hb : VAt W Q (.agg #[intV b.kd, intV b.nm, .string b.tx, .slice ro b.its.length rc]) b)
    (hr : W.heap[N]? = some (.cells #[intV a.kd, intV a.nm, .string a.tx, .slice so a.its.length sc, intV b.kd, intV b.nm, .string b.tx, .slice ro b.its.length rc] 24 (0, 0))) : VsAt W (fun _ => True) (.slice (some ⟨N, 0, none⟩) 2 2) [a, b] := by
  refine ⟨some ⟨N, 0, none⟩, 2, rfl, fun _ => ⟨N, 0, rfl, trivial, heap_lt hr, its_of_cs (cs := [intV a.kd, intV a.nm, .string a.tx, .slice so a.its.length sc, intV b.kd, intV b.nm, .string b.tx, .slice ro b.its.length rc]) ?_ fun j u hu => ?_⟩⟩
  · rw [CsOf]
    exact ⟨_, _, rfl, vat_or ha, cs_one (vat_or hb)⟩
  · rw [Nat.zero_add, cell_of_row W N j _ _ _ hr]
    simpa using hu
end Go.Proofs.YtjcigjggfmfoeaaDoor
