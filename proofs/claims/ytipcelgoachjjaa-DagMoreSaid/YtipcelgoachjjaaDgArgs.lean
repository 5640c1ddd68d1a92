/- What came in: lists of integers and lists of links. -/
import Derived.Test.YtipcelgoachjjaaDgVals
import Derived.SliceStrings
import Derived.Deep.Strs
import Derived.Deep.Slices
import Derived.ProofKit
import Derived.OpenShut
namespace Go.Proofs.Ytipcelgoachjjaa
set_option linter.unusedSimpArgs false
set_option linter.unusedVariables false
open Go.RowKit Go.Deep Go.WideShapes Go.ChangeShapes Go.ChangeMaps

theorem add_block (x : Addr) (i : Nat) : (x.add i).block = x.block := by unfold Addr.add; split <;> rfl
theorem cell_lt {w : World} {a : Addr} {v : Value} (h : w.cell? a = some v) : a.block < w.heap.size := World.block_lt_of_cell? w a h
theorem addr_more (b off j : Nat) : (⟨b, off, none⟩ : Addr).add j = ⟨b, off + j, none⟩ := by unfold Addr.add; split <;> simp_all
/-- a list of machine integers -/
def IntsR (W : World) (v : Value) (xs : List Int) : Prop := IntsAt W v xs ∧ ∀ x ∈ xs, x ≤ 9223372036854775807
theorem wf_i64 {x : Int} (h : (Lit.int .i64 x).wf = true) : -9223372036854775808 ≤ x ∧ x ≤ 9223372036854775807 := by
  unfold Lit.wf at h
  rw [Bool.and_eq_true, decide_eq_true_eq, decide_eq_true_eq, show IntKind.i64.min = -9223372036854775808 by decide, show IntKind.i64.max = 9223372036854775807 by decide] at h
  exact h
theorem wf_u8 {x : Int} (h : (Lit.int .u8 x).wf = true) : 0 ≤ x ∧ x < 256 := by
  unfold Lit.wf at h
  rw [Bool.and_eq_true, decide_eq_true_eq, decide_eq_true_eq, show IntKind.u8.min = 0 by decide, show IntKind.u8.max = 255 by decide] at h
  omega
theorem ints_arg {H : Type} {enc : TypeId × Value → H} {W : World} {fuel : Nat} {a : Option Addr} {len cap : Nat} {x : DataW H × List MemPlace} (h : DataW.trod enc Try.prog W 0 (fun _ => true) true fuel 23 (Value.slice a len cap).cells.toList = some x) :
    ∃ xs : List Int, IntsR W (.slice a len cap) xs ∧ xs.length = len ∧ len ≤ maxLen := by
  rcases open_ints Try.underlying23 Try.underlying3 (by kernel_rfl) h with ⟨hcs, _⟩ | ⟨y, l, c, zs, hcs, _, hl, hm, hz, _, hcell, hwf⟩
  · simp [Value.cells] at hcs
    obtain ⟨rfl, rfl, rfl⟩ := hcs
    exact ⟨[], ⟨IntsAt.empty _ _ _, by simp⟩, rfl, Nat.zero_le _⟩
  · simp [Value.cells] at hcs
    obtain ⟨rfl, rfl, rfl⟩ := hcs
    have hz : zs.length = cap := by simpa using hz
    have hlt : (zs.take len).length = len := by rw [List.length_take]; omega
    refine ⟨zs.take len, ⟨?_, fun q hq => (wf_i64 (hwf q (List.mem_of_mem_take hq))).2⟩, hlt, by omega⟩
    rcases Nat.eq_zero_or_pos len with h0 | h0
    · subst h0; exact ⟨_, _, by rw [hlt], fun h => absurd h (by simp)⟩
    · have hc0 := hcell 0 (by omega)
      have hsp := World.cell?_spot hc0
      obtain ⟨b, off, sp⟩ := y
      have hs : sp = none := by simpa [Addr.add] using hsp
      subst hs
      refine ⟨some ⟨b, off, none⟩, cap, by rw [hlt], fun _ => ⟨b, off, rfl, ?_, fun j hj => ?_⟩⟩
      · have := cell_lt hc0; rwa [add_block] at this
      · have := hcell j (by omega)
        rw [addr_more] at this
        rw [this, List.getElem_take, List.getD_eq_getElem?_getD, List.getElem?_eq_getElem (by omega)]
        rfl
theorem link_under : ∃ f0 f1 f2 : Field, Try.prog.underlying 52 = some (.struct #[f0, f1, f2]) ∧ f0.type = 3 ∧ f1.type = 3 ∧ f2.type = 3 ∧ f0.offset = 0 ∧ f1.offset = 1 ∧ f2.offset = 2 :=
  ⟨_, _, _, Try.underlying52, rfl, rfl, rfl, rfl, rfl, rfl⟩
theorem cellsL : Try.prog.cellsOf 52 = 3 := by kernel_rfl
theorem cellsI : Try.prog.cellsOf 3 = 1 := by kernel_rfl
theorem link_cells {H : Type} {enc : TypeId × Value → H} {W : World} {n : Nat} {cs : List Value} {y : DataW H × List MemPlace} (h : DataW.trod enc Try.prog W 0 (fun _ => true) true n 52 cs = some y) :
    ∃ p l s : Int, cs = [.int .i64 p, .int .i64 l, .int .i64 s] := by
  obtain ⟨f0, f1, f2, hu, t0, t1, t2, o0, o1, o2⟩ := link_under
  obtain ⟨y0, y1, y2, n', _, hl, h0, h1, h2⟩ := trod_struct3 hu h
  rw [cellsL] at hl
  rw [t0, o0, cellsI] at h0
  rw [t1, o1, cellsI] at h1
  rw [t2, o2, cellsI] at h2
  match cs, hl with
  | [c0, c1, c2], _ =>
    obtain ⟨p, e0, _, w0⟩ := DataW.trod_int Try.underlying3 h0
    obtain ⟨l, e1, _, w1⟩ := DataW.trod_int Try.underlying3 h1
    obtain ⟨s, e2, _, w2⟩ := DataW.trod_int Try.underlying3 h2
    simp at e0 e1 e2
    subst e0 e1 e2
    exact ⟨p, l, s, rfl⟩
theorem links_arg {H : Type} {enc : TypeId × Value → H} {W : World} {fuel : Nat} {a : Option Addr} {len cap : Nat} {x : DataW H × List MemPlace} (h : DataW.trod enc Try.prog W 0 (fun _ => true) true fuel 22 (Value.slice a len cap).cells.toList = some x) :
    ∃ es : List LkV, LinksAt W (.slice a len cap) es ∧ es.length = len ∧ len ≤ maxLen := by
  rcases open_slice Try.underlying22 h with ⟨hcs, _⟩ | ⟨y, l, c, m, n, D, Pl, hcs, _, hl, hm, hmm, _, hx⟩
  · simp [Value.cells] at hcs
    obtain ⟨rfl, rfl, rfl⟩ := hcs
    exact ⟨[], ⟨Option.none, 0, rfl, fun h => absurd h (by simp)⟩, rfl, Nat.zero_le _⟩
  · simp [Value.cells] at hcs
    obtain ⟨rfl, rfl, rfl⟩ := hcs
    have hmm : m = cap := by simpa using hmm
    have hE : ∀ i, ∃ e : LkV, i < len → W.cells? 0 (y.add (i * 3)) 3 = some [.int .i64 e.f, .int .i64 e.t, .int .i64 e.c] := fun i => by
      by_cases hi : i < len
      · obtain ⟨cs', h1, h2⟩ := hx i (by omega)
        obtain ⟨p, l, s, rfl⟩ := link_cells h2
        rw [cellsL] at h1
        exact ⟨⟨p, l, s⟩, fun _ => h1⟩
      · exact ⟨⟨0, 0, 0⟩, fun h => absurd h hi⟩
    obtain ⟨E, hE⟩ : ∃ E : Nat → LkV, ∀ i, i < len → W.cells? 0 (y.add (i * 3)) 3 = some [.int .i64 (E i).f, .int .i64 (E i).t, .int .i64 (E i).c] := ⟨fun i => (hE i).choose, fun i => (hE i).choose_spec⟩
    have hlen : ((List.range len).map E).length = len := by simp
    have hlk : ∀ j, j < len → lk ((List.range len).map E) j = E j := fun j hj => by rw [lk_get (by simpa using hj)]; simp
    refine ⟨(List.range len).map E, ?_, hlen, by omega⟩
    rcases Nat.eq_zero_or_pos len with h0 | h0
    · subst h0; exact ⟨_, _, rfl, fun h => absurd h (by simp)⟩
    · have hcell : ∀ i, i < len → W.cell? ((y.add (i * 3)).add 0) = some (.int .i64 (E i).f) ∧ W.cell? ((y.add (i * 3)).add 1) = some (.int .i64 (E i).t) ∧ W.cell? ((y.add (i * 3)).add 2) = some (.int .i64 (E i).c) := fun i hi => by
        obtain ⟨_, _, h1⟩ := World.cells?_some (hE i hi)
        exact ⟨h1 0 (by decide), h1 1 (by decide), h1 2 (by decide)⟩
      have hc0 := (hcell 0 h0).1
      have hsp := World.cell?_spot hc0
      obtain ⟨b, off, sp⟩ := y
      have hs : sp = none := by simpa [Addr.add] using hsp
      subst hs
      refine ⟨some ⟨b, off, none⟩, cap, by rw [hlen], fun _ => ⟨b, off, rfl, ?_, fun j hj => ?_⟩⟩
      · have := cell_lt hc0; rwa [add_block, add_block] at this
      · have hj : j < len := by rwa [hlen] at hj
        have := hcell j hj
        rw [addr_more b off (j * 3), addr_more b (off + j * 3) 0, addr_more b (off + j * 3) 1, addr_more b (off + j * 3) 2] at this
        rw [hlk j hj]
        simpa using this
end Go.Proofs.Ytipcelgoachjjaa
