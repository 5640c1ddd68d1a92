/- A list of bytes that came in. -/
import Derived.Test.YteceahbnafaeoaaSqArgs
import Derived.Test.YteceahbnafaeoaaSqHeavyM
namespace Go.Proofs.Yteceahbnafaeoaa
set_option linter.unusedSimpArgs false
set_option linter.unusedVariables false
open Go.RowKit Go.Deep Go.WideShapes Go.ChangeShapes Go.ChangeMaps

def BytesR (W : World) (v : Value) (xs : List Int) : Prop := U8At W v xs ∧ ∀ x ∈ xs, 0 ≤ x ∧ x ≤ 255
theorem u8s_arg {H : Type} {enc : TypeId × Value → H} {W : World} {fuel : Nat} {a : Option Addr} {len cap : Nat} {x : DataW H × List MemPlace} (h : DataW.trod enc Try.prog W 0 (fun _ => true) true fuel 50 (Value.slice a len cap).cells.toList = some x) :
    ∃ xs : List Int, BytesR W (.slice a len cap) xs ∧ xs.length = len ∧ len ≤ maxLen := by
  rcases open_ints Try.underlying50 Try.underlying5 (by kernel_rfl) h with ⟨hcs, _⟩ | ⟨y, l, c, zs, hcs, _, hl, hm, hz, _, hcell, hwf⟩
  · simp [Value.cells] at hcs
    obtain ⟨rfl, rfl, rfl⟩ := hcs
    exact ⟨[], ⟨⟨none, 0, rfl, fun h => absurd h (by simp)⟩, (fun q hq => absurd hq (by simp))⟩, rfl, Nat.zero_le _⟩
  · simp [Value.cells] at hcs
    obtain ⟨rfl, rfl, rfl⟩ := hcs
    have hz : zs.length = cap := by simpa using hz
    have hlt : (zs.take len).length = len := by rw [List.length_take]; omega
    refine ⟨zs.take len, ⟨?_, fun q hq => wf_u8 (hwf q (List.mem_of_mem_take hq))⟩, hlt, by omega⟩
    rcases Nat.eq_zero_or_pos len with h0 | h0
    · subst h0; exact ⟨_, _, by rw [hlt], fun h => absurd h (by simp)⟩
    · have hc0 := hcell 0 (by omega)
      have hsp := World.cell?_spot hc0
      obtain ⟨b, off, sp⟩ := y
      have hs : sp = none := by simpa [Addr.add] using hsp
      subst hs
      refine ⟨some ⟨b, off, none⟩, cap, by rw [hlt], fun _ => ⟨b, off, rfl, ?_, fun j hj => ?_⟩⟩
      · have := cell_lt hc0; rwa [add_block] at this
      · have := hcell j (by omega)
        rw [addr_more] at this
        rw [this, List.getElem_take, List.getD_eq_getElem?_getD, List.getElem?_eq_getElem (by omega)]
        rfl
end Go.Proofs.Yteceahbnafaeoaa
