/- What came in: lists of strings and lists of edits, out of a row's reading of its arguments. -/
import Derived.Test.YtbdeakodmhcgdaaEdEdits
import Derived.SliceStrings
import Derived.Deep.Strs
import Derived.Deep.Slices
import Derived.ProofKit
import Derived.OpenShut
namespace Go.Proofs.Ytbdeakodmhcgdaa
set_option linter.unusedSimpArgs false
set_option linter.unusedVariables false
open Go.RowKit Go.Deep Go.WideShapes Go.ChangeShapes Go.ChangeMaps

theorem add_block (x : Addr) (i : Nat) : (x.add i).block = x.block := by unfold Addr.add; split <;> rfl
theorem cell_lt {w : World} {a : Addr} {v : Value} (h : w.cell? a = some v) : a.block < w.heap.size := World.block_lt_of_cell? w a h
theorem addr_more (b off j : Nat) : (⟨b, off, none⟩ : Addr).add j = ⟨b, off + j, none⟩ := by unfold Addr.add; split <;> simp_all
theorem strs_arg {H : Type} {enc : TypeId × Value → H} {W : World} {fuel : Nat} {a : Option Addr} {len cap : Nat} {x : DataW H × List MemPlace} (h : DataW.trod enc Try.prog W 0 (fun _ => true) true fuel 34 (Value.slice a len cap).cells.toList = some x) :
    ∃ xs : List ByteArray, StrsAt W (.slice a len cap) xs ∧ xs.length = len ∧ len ≤ maxLen := by
  rcases open_strings Try.underlying34 Try.underlying9 (by kernel_rfl) h with ⟨hcs, _⟩ | ⟨y, l, c, ss, hcs, _, hl, hm, hz, _, hcell, _⟩
  · simp [Value.cells] at hcs
    obtain ⟨rfl, rfl, rfl⟩ := hcs
    exact ⟨[], ⟨Option.none, 0, rfl, fun h => absurd h (by simp)⟩, rfl, Nat.zero_le _⟩
  · simp [Value.cells] at hcs
    obtain ⟨rfl, rfl, rfl⟩ := hcs
    have hz : ss.length = cap := by simpa using hz
    have hlt : (ss.take len).length = len := by rw [List.length_take]; omega
    refine ⟨ss.take len, ?_, hlt, by omega⟩
    rcases Nat.eq_zero_or_pos len with h0 | h0
    · subst h0; exact ⟨_, _, by rw [hlt], fun h => absurd h (by simp)⟩
    · have hc0 := hcell 0 (by omega)
      have hsp := World.cell?_spot hc0
      obtain ⟨b, off, sp⟩ := y
      have hs : sp = none := by simpa [Addr.add] using hsp
      subst hs
      refine ⟨some ⟨b, off, none⟩, cap, by rw [hlt], fun _ => ⟨b, off, rfl, ?_, fun j hj => ?_⟩⟩
      · have := cell_lt hc0; rwa [add_block] at this
      · have := hcell j (by omega)
        rw [show (⟨b, off, none⟩ : Addr).add j = ⟨b, off + j, none⟩ by unfold Addr.add; split <;> simp_all] at this
        rw [this, List.getElem_take, List.getD_eq_getElem?_getD, List.getElem?_eq_getElem (by omega)]
        rfl
theorem edit_under : ∃ f0 f1 f2 : Field, Try.prog.underlying 38 = some (.struct #[f0, f1, f2]) ∧ f0.type = 3 ∧ f1.type = 3 ∧ f2.type = 9 ∧ f0.offset = 0 ∧ f1.offset = 1 ∧ f2.offset = 2 :=
  ⟨_, _, _, Try.underlying38, rfl, rfl, rfl, rfl, rfl, rfl⟩
theorem cellsE : Try.prog.cellsOf 38 = 3 := by kernel_rfl
theorem cellsI : Try.prog.cellsOf 3 = 1 := by kernel_rfl
theorem cellsS : Try.prog.cellsOf 9 = 1 := by kernel_rfl
theorem edit_cells {H : Type} {enc : TypeId × Value → H} {W : World} {n : Nat} {cs : List Value} {y : DataW H × List MemPlace} (h : DataW.trod enc Try.prog W 0 (fun _ => true) true n 38 cs = some y) :
    ∃ (p l : Int) (s : ByteArray), cs = [.int .i64 p, .int .i64 l, .string s] ∧ (Lit.int .i64 p).wf = true ∧ (Lit.int .i64 l).wf = true ∧ s.size ≤ maxLen := by
  obtain ⟨f0, f1, f2, hu, t0, t1, t2, o0, o1, o2⟩ := edit_under
  obtain ⟨y0, y1, y2, n', _, hl, h0, h1, h2⟩ := trod_struct3 hu h
  rw [cellsE] at hl
  rw [t0, o0, cellsI] at h0
  rw [t1, o1, cellsI] at h1
  rw [t2, o2, cellsS] at h2
  match cs, hl with
  | [c0, c1, c2], _ =>
    obtain ⟨p, e0, _, w0⟩ := DataW.trod_int Try.underlying3 h0
    obtain ⟨l, e1, _, w1⟩ := DataW.trod_int Try.underlying3 h1
    obtain ⟨s, e2, _, w2⟩ := DataW.trod_string Try.underlying9 h2
    simp at e0 e1 e2
    subst e0 e1 e2
    exact ⟨p, l, s, rfl, w0, w1, w2⟩
theorem edits_arg {H : Type} {enc : TypeId × Value → H} {W : World} {fuel : Nat} {a : Option Addr} {len cap : Nat} {x : DataW H × List MemPlace} (h : DataW.trod enc Try.prog W 0 (fun _ => true) true fuel 27 (Value.slice a len cap).cells.toList = some x) :
    ∃ es : List EdV, EditsAt W (.slice a len cap) es ∧ es.length = len ∧ len ≤ maxLen := by
  rcases open_slice Try.underlying27 h with ⟨hcs, _⟩ | ⟨y, l, c, m, n, D, Pl, hcs, _, hl, hm, hmm, _, hx⟩
  · simp [Value.cells] at hcs
    obtain ⟨rfl, rfl, rfl⟩ := hcs
    exact ⟨[], ⟨Option.none, 0, rfl, fun h => absurd h (by simp)⟩, rfl, Nat.zero_le _⟩
  · simp [Value.cells] at hcs
    obtain ⟨rfl, rfl, rfl⟩ := hcs
    have hmm : m = cap := by simpa using hmm
    have hE : ∀ i, ∃ e : EdV, i < len → W.cells? 0 (y.add (i * 3)) 3 = some [.int .i64 e.place, .int .i64 e.len, .string e.text] := fun i => by
      by_cases hi : i < len
      · obtain ⟨cs', h1, h2⟩ := hx i (by omega)
        obtain ⟨p, l, s, rfl, _⟩ := edit_cells h2
        rw [cellsE] at h1
        exact ⟨⟨p, l, s⟩, fun _ => h1⟩
      · exact ⟨⟨0, 0, ByteArray.empty⟩, fun h => absurd h hi⟩
    obtain ⟨E, hE⟩ : ∃ E : Nat → EdV, ∀ i, i < len → W.cells? 0 (y.add (i * 3)) 3 = some [.int .i64 (E i).place, .int .i64 (E i).len, .string (E i).text] := ⟨fun i => (hE i).choose, fun i => (hE i).choose_spec⟩
    have hlen : ((List.range len).map E).length = len := by simp
    refine ⟨(List.range len).map E, ?_, hlen, by omega⟩
    rcases Nat.eq_zero_or_pos len with h0 | h0
    · subst h0; exact ⟨_, _, rfl, fun h => absurd h (by simp)⟩
    · have hcell : ∀ i, i < len → W.cell? ((y.add (i * 3)).add 0) = some (.int .i64 (E i).place) ∧ W.cell? ((y.add (i * 3)).add 1) = some (.int .i64 (E i).len) ∧ W.cell? ((y.add (i * 3)).add 2) = some (.string (E i).text) := fun i hi => by
        obtain ⟨_, _, h1⟩ := World.cells?_some (hE i hi)
        exact ⟨h1 0 (by decide), h1 1 (by decide), h1 2 (by decide)⟩
      have hc0 := (hcell 0 h0).1
      have hsp := World.cell?_spot hc0
      obtain ⟨b, off, sp⟩ := y
      have hs : sp = none := by simpa [Addr.add] using hsp
      subst hs
      refine ⟨some ⟨b, off, none⟩, cap, by rw [hlen], fun _ => ⟨b, off, rfl, ?_, fun j hj => ?_⟩⟩
      · have := cell_lt hc0; rwa [add_block, add_block] at this
      · have hj : j < len := by rwa [hlen] at hj
        have := hcell j hj
        rw [addr_more b off (j * 3), addr_more b (off + j * 3) 0, addr_more b (off + j * 3) 1, addr_more b (off + j * 3) 2] at this
        simpa using this
end Go.Proofs.Ytbdeakodmhcgdaa
