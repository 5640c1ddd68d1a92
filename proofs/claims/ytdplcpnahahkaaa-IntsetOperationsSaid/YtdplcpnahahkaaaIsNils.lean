/- Lists of lists whose nil elements are plain. -/
import Derived.Test.YtdplcpnahahkaaaIsArgs
import Derived.Test.YtdplcpnahahkaaaIsFine
namespace Go.Proofs.Ytdplcpnahahkaaa
set_option linter.unusedSimpArgs false
set_option linter.unusedVariables false
open Go.RowKit Go.Deep Go.WideShapes Go.ChangeShapes Go.ChangeMaps

def ListsN (W : World) (v : Value) (L : List (List Int)) : Prop :=
  ∃ a cap, v = .slice a L.length cap ∧ (0 < L.length → ∃ b off, a = some ⟨b, off, none⟩ ∧ b < W.heap.size ∧ ∀ j (h : j < L.length), ∃ u c, W.cell? ⟨b, off + j, none⟩ = some (.slice u L[j].length c) ∧ IntsAt W (.slice u L[j].length c) L[j] ∧ (u = none → c = 0))
theorem ListsN.lists {W : World} {v : Value} {L : List (List Int)} (h : ListsN W v L) : ListsAt W v L := by
  obtain ⟨a, cap, rfl, hc⟩ := h
  refine ⟨a, cap, rfl, fun h0 => ?_⟩
  obtain ⟨b, off, ha, hb, hcs⟩ := hc h0
  refine ⟨b, off, ha, hb, fun j hj => ?_⟩
  obtain ⟨u, c, h1, h2, _⟩ := hcs j hj
  exact ⟨_, h1, h2⟩
theorem ListsN.below {W W' : World} {v : Value} {L : List (List Int)} (h : ListsN W v L) (hB : Below W.heap.size W W') : ListsN W' v L := by
  obtain ⟨a, cap, rfl, hc⟩ := h
  refine ⟨a, cap, rfl, fun h0 => ?_⟩
  obtain ⟨b, off, ha, hb, hcs⟩ := hc h0
  refine ⟨b, off, ha, Nat.lt_of_lt_of_le hb hB.size, fun j hj => ?_⟩
  obtain ⟨u, c, h1, h2, h3⟩ := hcs j hj
  exact ⟨u, c, (hB.cell (p := ⟨b, off + j, none⟩) hb).trans h1, h2.below hB, h3⟩
theorem ListsN.elem {W : World} {a : Option Addr} {n cap : Nat} {L : List (List Int)} (h : ListsN W (.slice a n cap) L) {j : Nat} (hj : j < L.length) :
    ∃ b off u c, a = some ⟨b, off, none⟩ ∧ b < W.heap.size ∧ W.cell? ⟨b, off + j, none⟩ = some (.slice u L[j].length c) ∧ IntsAt W (.slice u L[j].length c) L[j] ∧ (u = none → c = 0) := by
  obtain ⟨a', cap', e, hc⟩ := h
  cases e
  obtain ⟨b, off, rfl, hb, hcs⟩ := hc (by omega)
  obtain ⟨u, c, h1, h2, h3⟩ := hcs j hj
  exact ⟨b, off, u, c, rfl, hb, h1, h2, h3⟩
theorem ints_csN {H : Type} {enc : TypeId × Value → H} {W : World} {fuel : Nat} {cs : List Value} {x : DataW H × List MemPlace} (h : DataW.trod enc Try.prog W 0 (fun _ => true) true fuel 22 cs = some x) :
    ∃ u c xs, cs = [.slice u xs.length c] ∧ IntsAt W (.slice u xs.length c) xs ∧ (u = none → c = 0) := by
  obtain ⟨a, len, cap, xs, rfl, h1, rfl, _⟩ := ints_cs h
  refine ⟨a, cap, xs, rfl, h1, fun e => ?_⟩
  rcases open_ints Try.underlying22 Try.underlying3 (by kernel_rfl) h with ⟨h0, _⟩ | ⟨y, l, c, zs, h0, _⟩
  · simp at h0; exact h0.2.2
  · simp at h0; rw [e] at h0; exact absurd h0.1 (by simp)
theorem listsN_arg {H : Type} {enc : TypeId × Value → H} {W : World} {fuel : Nat} {a : Option Addr} {len cap : Nat} {x : DataW H × List MemPlace} (h : DataW.trod enc Try.prog W 0 (fun _ => true) true fuel 23 (Value.slice a len cap).cells.toList = some x) :
    ∃ L : List (List Int), ListsN W (.slice a len cap) L ∧ L.length = len ∧ len ≤ maxLen := by
  rcases open_slice Try.underlying23 h with ⟨hcs, _⟩ | ⟨y, l, c, m, n, D, Pl, hcs, _, hl, hm, hmm, _, hx⟩
  · simp [Value.cells] at hcs
    obtain ⟨rfl, rfl, rfl⟩ := hcs
    exact ⟨[], ⟨Option.none, 0, rfl, fun h => absurd h (by simp)⟩, rfl, Nat.zero_le _⟩
  · simp [Value.cells] at hcs
    obtain ⟨rfl, rfl, rfl⟩ := hcs
    have hmm : m = cap := by simpa using hmm
    have hE : ∀ i, ∃ p : (Option Addr × Nat) × List Int, i < len → W.cell? (y.add i) = some (.slice p.1.1 p.2.length p.1.2) ∧ IntsAt W (.slice p.1.1 p.2.length p.1.2) p.2 ∧ (p.1.1 = none → p.1.2 = 0) := fun i => by
      by_cases hi : i < len
      · obtain ⟨cs', h1, h2⟩ := hx i (by omega)
        rw [cellsI] at h1
        obtain ⟨u, c', xs, rfl, h3, h5⟩ := ints_csN h2
        obtain ⟨_, _, h4⟩ := World.cells?_some h1
        refine ⟨((u, c'), xs), fun _ => ⟨?_, h3, h5⟩⟩
        have := h4 0 (by simp)
        rw [Nat.mul_one] at this
        simpa [addr_add_zero] using this
      · exact ⟨((none, 0), []), fun h => absurd h hi⟩
    obtain ⟨E, hE⟩ : ∃ E : Nat → (Option Addr × Nat) × List Int, ∀ i, i < len → W.cell? (y.add i) = some (.slice (E i).1.1 (E i).2.length (E i).1.2) ∧ IntsAt W (.slice (E i).1.1 (E i).2.length (E i).1.2) (E i).2 ∧ ((E i).1.1 = none → (E i).1.2 = 0) := ⟨fun i => (hE i).choose, fun i => (hE i).choose_spec⟩
    have hlen : ((List.range len).map fun i => (E i).2).length = len := by simp
    refine ⟨(List.range len).map fun i => (E i).2, ?_, hlen, by omega⟩
    rcases Nat.eq_zero_or_pos len with h0 | h0
    · subst h0; exact ⟨_, _, rfl, fun h => absurd h (by simp)⟩
    · have hc0 := (hE 0 h0).1
      have hsp := World.cell?_spot hc0
      obtain ⟨b, off, sp⟩ := y
      have hs : sp = none := by simpa [Addr.add] using hsp
      subst hs
      refine ⟨some ⟨b, off, none⟩, cap, by rw [hlen], fun _ => ⟨b, off, rfl, ?_, fun j hj => ?_⟩⟩
      · have := cell_lt hc0; rwa [add_block] at this
      · have hj : j < len := by rwa [hlen] at hj
        have := hE j hj
        rw [addr_more] at this
        exact ⟨(E j).1.1, (E j).1.2, by simpa using this.1, by simpa using this.2.1, this.2.2⟩
end Go.Proofs.Ytdplcpnahahkaaa
