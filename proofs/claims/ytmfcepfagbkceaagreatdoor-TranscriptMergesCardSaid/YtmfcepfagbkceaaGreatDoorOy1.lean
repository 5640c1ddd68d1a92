/- Stage 10 (transcript): TrPush, put together by merge10.py. -/
import Derived.Test.YtmfcepfagbkceaaGreatDoorOr
namespace Go.Proofs.YtmfcepfagbkceaaGreatDoor
set_option linter.unusedSimpArgs false
set_option linter.unusedVariables false
open Go.RowKit Go.Deep
theorem row_push {W w2 : World} {B g cap n : Nat} {ov s : Value} {out : List Nd} {cs : List Value} {y : Nd} (hcs : CsOf W (fun b => B ≤ b ∧ ov.ownBlock ≠ some b) cs out)
    (hy : VAt W (fun b => B ≤ b ∧ ov.ownBlock ≠ some b) (.agg #[intV y.kd, sV y.tx, intV y.nm, s]) y) (hgrow : W.grownBy w2 ov.ownBlock) (hat : ov.ownBlock = some g ∨ W.heap.size ≤ g) :
    CsOf w2 (fun b => B ≤ b ∧ (Value.slice (some ⟨g, 0, none⟩) (n + 1) cap).ownBlock ≠ some b) (cs ++ [intV y.kd, sV y.tx, intV y.nm, s]) (out ++ [y]) := by
  have h1 : CsOf W (fun b => B ≤ b ∧ ov.ownBlock ≠ some b) (cs ++ [intV y.kd, sV y.tx, intV y.nm, s]) (out ++ [y]) := hcs.app (by rw [CsOf]; exact ⟨_, [], rfl, hy, by rw [CsOf]⟩)
  refine (h1.mono (P' := fun b => B ≤ b ∧ ov.ownBlock ≠ some b ∧ (Value.slice (some ⟨g, 0, none⟩) (n + 1) cap).ownBlock ≠ some b) fun b hlt hp => ⟨hp.1, hp.2, fun e => ?_⟩).keep (fun b hp hlt => hgrow.block b hlt (fun e => hp.2.1 e.symm)) hgrow.size |>.mono fun b _ hp => ⟨hp.1, hp.2.2⟩
  have : g = b := by simpa [Value.ownBlock] using e
  rcases hat with h | h
  · exact hp.2 (by rw [h, this])
  · omega
end Go.Proofs.YtmfcepfagbkceaaGreatDoor
