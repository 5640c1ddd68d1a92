/- What came in: lists of integers, and lists of them. -/
import Derived.Test.YteceahbnafaeoaaSqVals
import Derived.SliceStrings
import Derived.Deep.Strs
import Derived.Deep.Slices
import Derived.ProofKit
import Derived.OpenShut
namespace Go.Proofs.Yteceahbnafaeoaa
set_option linter.unusedSimpArgs false
set_option linter.unusedVariables false
open Go.RowKit Go.Deep Go.WideShapes Go.ChangeShapes Go.ChangeMaps

theorem add_block (x : Addr) (i : Nat) : (x.add i).block = x.block := by unfold Addr.add; split <;> rfl
theorem cell_lt {w : World} {a : Addr} {v : Value} (h : w.cell? a = some v) : a.block < w.heap.size := World.block_lt_of_cell? w a h
theorem addr_add_zero (x : Addr) (i : Nat) : (x.add i).add 0 = x.add i := by
  obtain ⟨b, o, sp⟩ := x
  cases sp <;> simp [Addr.add]
theorem addr_more (b off j : Nat) : (⟨b, off, none⟩ : Addr).add j = ⟨b, off + j, none⟩ := by unfold Addr.add; split <;> simp_all
theorem wf_i64 {x : Int} (h : (Lit.int .i64 x).wf = true) : -9223372036854775808 ≤ x ∧ x ≤ 9223372036854775807 := by
  unfold Lit.wf at h
  rw [Bool.and_eq_true, decide_eq_true_eq, decide_eq_true_eq, show IntKind.i64.min = -9223372036854775808 by decide, show IntKind.i64.max = 9223372036854775807 by decide] at h
  exact h
theorem wf_u8 {x : Int} (h : (Lit.int .u8 x).wf = true) : 0 ≤ x ∧ x ≤ 255 := by
  unfold Lit.wf at h
  rw [Bool.and_eq_true, decide_eq_true_eq, decide_eq_true_eq, show IntKind.u8.min = 0 by decide, show IntKind.u8.max = 255 by decide] at h
  omega
theorem wf_u16 {x : Int} (h : (Lit.int .u16 x).wf = true) : 0 ≤ x ∧ x ≤ 65535 := by
  unfold Lit.wf at h
  rw [Bool.and_eq_true, decide_eq_true_eq, decide_eq_true_eq, show IntKind.u16.min = 0 by decide, show IntKind.u16.max = 65535 by decide] at h
  omega
/-- a list of machine integers, in a slice within its capacity -/
def IntsR (W : World) (v : Value) (xs : List Int) : Prop := IntsAt W v xs ∧ R64 xs ∧ CapOk v
def ListsR (W : World) (v : Value) (L : List (List Int)) : Prop := ListsAt W v L ∧ R64s L ∧ ∀ c ∈ L, c.length ≤ maxLen
theorem ints_cs {H : Type} {enc : TypeId × Value → H} {W : World} {fuel : Nat} {cs : List Value} {x : DataW H × List MemPlace} (h : DataW.trod enc Try.prog W 0 (fun _ => true) true fuel 22 cs = some x) :
    ∃ a len cap xs, cs = [.slice a len cap] ∧ IntsAt W (.slice a len cap) xs ∧ R64 xs ∧ len ≤ cap ∧ xs.length = len ∧ len ≤ maxLen := by
  rcases open_ints Try.underlying22 Try.underlying3 (by kernel_rfl) h with ⟨rfl, _⟩ | ⟨y, l, c, zs, rfl, _, hl, hm, hz, _, hcell, hwf⟩
  · exact ⟨_, _, _, [], rfl, IntsAt.empty _ _ _, (fun q hq => absurd hq (by simp)), Nat.le_refl _, rfl, Nat.zero_le _⟩
  · have hz : zs.length = c := by simpa using hz
    have hlt : (zs.take l).length = l := by rw [List.length_take]; omega
    refine ⟨_, _, _, zs.take l, rfl, ?_, fun q hq => wf_i64 (hwf q (List.mem_of_mem_take hq)), by omega, hlt, by omega⟩
    rcases Nat.eq_zero_or_pos l with h0 | h0
    · subst h0; exact ⟨_, _, by rw [hlt], fun h => absurd h (by simp)⟩
    · have hc0 := hcell 0 (by omega)
      have hsp := World.cell?_spot hc0
      obtain ⟨b, off, sp⟩ := y
      have hs : sp = none := by simpa [Addr.add] using hsp
      subst hs
      refine ⟨some ⟨b, off, none⟩, c, by rw [hlt], fun _ => ⟨b, off, rfl, ?_, fun j hj => ?_⟩⟩
      · have := cell_lt hc0; rwa [add_block] at this
      · have := hcell j (by omega)
        rw [addr_more] at this
        rw [this, List.getElem_take, List.getD_eq_getElem?_getD, List.getElem?_eq_getElem (by omega)]
        rfl
theorem ints_arg {H : Type} {enc : TypeId × Value → H} {W : World} {fuel : Nat} {a : Option Addr} {len cap : Nat} {x : DataW H × List MemPlace} (h : DataW.trod enc Try.prog W 0 (fun _ => true) true fuel 22 (Value.slice a len cap).cells.toList = some x) :
    ∃ xs : List Int, IntsR W (.slice a len cap) xs ∧ xs.length = len ∧ len ≤ maxLen := by
  obtain ⟨a', len', cap', xs, e, h1, hr, hc, h2, h3⟩ := ints_cs h
  simp [Value.cells] at e
  obtain ⟨rfl, rfl, rfl⟩ := e
  exact ⟨xs, ⟨h1, hr, fun a n c e => by cases e; exact hc⟩, h2, h3⟩
theorem cellsS : Try.prog.cellsOf 22 = 1 := by kernel_rfl
theorem lists_arg {H : Type} {enc : TypeId × Value → H} {W : World} {fuel : Nat} {a : Option Addr} {len cap : Nat} {x : DataW H × List MemPlace} (h : DataW.trod enc Try.prog W 0 (fun _ => true) true fuel 28 (Value.slice a len cap).cells.toList = some x) :
    ∃ L : List (List Int), ListsR W (.slice a len cap) L ∧ L.length = len ∧ len ≤ maxLen := by
  rcases open_slice Try.underlying28 h with ⟨hcs, _⟩ | ⟨y, l, c, m, n, D, Pl, hcs, _, hl, hm, hmm, _, hx⟩
  · simp [Value.cells] at hcs
    obtain ⟨rfl, rfl, rfl⟩ := hcs
    exact ⟨[], ⟨⟨Option.none, 0, rfl, fun h => absurd h (by simp)⟩, (fun c hc => absurd hc (by simp)), (fun c hc => absurd hc (by simp))⟩, rfl, Nat.zero_le _⟩
  · simp [Value.cells] at hcs
    obtain ⟨rfl, rfl, rfl⟩ := hcs
    have hmm : m = cap := by simpa using hmm
    have hE : ∀ i, ∃ p : Value × List Int, i < len → W.cell? (y.add i) = some p.1 ∧ IntsAt W p.1 p.2 ∧ R64 p.2 ∧ p.2.length ≤ maxLen := fun i => by
      by_cases hi : i < len
      · obtain ⟨cs', h1, h2⟩ := hx i (by omega)
        rw [cellsS] at h1
        obtain ⟨a', l', c', xs, rfl, h3, h5, _, h6, h7⟩ := ints_cs h2
        obtain ⟨_, _, h4⟩ := World.cells?_some h1
        refine ⟨(_, xs), fun _ => ⟨?_, h3, h5, by rw [h6]; exact h7⟩⟩
        have := h4 0 (by simp)
        rw [Nat.mul_one] at this
        simpa [addr_add_zero] using this
      · exact ⟨(undef, []), fun h => absurd h hi⟩
    obtain ⟨E, hE⟩ : ∃ E : Nat → Value × List Int, ∀ i, i < len → W.cell? (y.add i) = some (E i).1 ∧ IntsAt W (E i).1 (E i).2 ∧ R64 (E i).2 ∧ (E i).2.length ≤ maxLen := ⟨fun i => (hE i).choose, fun i => (hE i).choose_spec⟩
    have hlen : ((List.range len).map fun i => (E i).2).length = len := by simp
    refine ⟨(List.range len).map fun i => (E i).2, ⟨?_, fun c hc => ?_, fun c hc => ?_⟩, hlen, by omega⟩
    · rcases Nat.eq_zero_or_pos len with h0 | h0
      · subst h0; exact ⟨_, _, rfl, fun h => absurd h (by simp)⟩
      · have hc0 := (hE 0 h0).1
        have hsp := World.cell?_spot hc0
        obtain ⟨b, off, sp⟩ := y
        have hs : sp = none := by simpa [Addr.add] using hsp
        subst hs
        refine ⟨some ⟨b, off, none⟩, cap, by rw [hlen], fun _ => ⟨b, off, rfl, ?_, fun j hj => ?_⟩⟩
        · have := cell_lt hc0; rwa [add_block] at this
        · have hj : j < len := by rwa [hlen] at hj
          have := hE j hj
          rw [addr_more] at this
          exact ⟨_, this.1, by simpa using this.2.1⟩
    · obtain ⟨i, hi, rfl⟩ := List.mem_map.1 hc
      exact (hE i (by simpa using hi)).2.2.1
    · obtain ⟨i, hi, rfl⟩ := List.mem_map.1 hc
      exact (hE i (by simpa using hi)).2.2.2
end Go.Proofs.Yteceahbnafaeoaa
