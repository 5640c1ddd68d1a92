/- What came in: lists of lexemes, out of a row's reading of its arguments. -/
import Derived.Test.YtdgihkgomfpmoaaGreatDoorMkVals
import Derived.SliceStrings
import Derived.Deep.Strs
import Derived.Deep.Slices
import Derived.Lib.SmallJoins
import Derived.ProofKit
import Derived.OpenShut
namespace Go.Proofs.YtdgihkgomfpmoaaGreatDoor
set_option linter.unusedSimpArgs false
set_option linter.unusedVariables false
open Go.RowKit Go.Deep Go.WideShapes Go.ChangeShapes Go.ChangeMaps

theorem add_block (x : Addr) (i : Nat) : (x.add i).block = x.block := by unfold Addr.add; split <;> rfl
theorem cell_lt {w : World} {a : Addr} {v : Value} (h : w.cell? a = some v) : a.block < w.heap.size := World.block_lt_of_cell? w a h
theorem addr_moreA (b off j : Nat) : (⟨b, off, none⟩ : Addr).add j = ⟨b, off + j, none⟩ := by unfold Addr.add; split <;> simp_all
/-- a lexeme that came in -/
def InX (x : Lx) : Prop := I64 x.k ∧ I64 x.o ∧ x.n.length ≤ 140737488351232 ∧ x.v.length ≤ 140737488351232
def LexIn (W : World) (v : Value) (L : List Lx) : Prop := LexAt W v L ∧ ∀ x ∈ L, InX x
theorem wf_i64 {x : Int} (h : (Lit.int .i64 x).wf = true) : -9223372036854775808 ≤ x ∧ x ≤ 9223372036854775807 := by
  unfold Lit.wf at h
  rw [Bool.and_eq_true, decide_eq_true_eq, decide_eq_true_eq, show IntKind.i64.min = -9223372036854775808 by decide, show IntKind.i64.max = 9223372036854775807 by decide] at h
  exact h
theorem wf_u8 {x : Int} (h : (Lit.int .u8 x).wf = true) : 0 ≤ x ∧ x < 256 := by
  unfold Lit.wf at h
  rw [Bool.and_eq_true, decide_eq_true_eq, decide_eq_true_eq, show IntKind.u8.min = 0 by decide, show IntKind.u8.max = 255 by decide] at h
  omega
theorem lit_i64 {p : Int} (h : (Lit.int .i64 p).wf = true) : I64 p := wf_i64 h
theorem lx_under : ∃ f0 f1 f2 f3 : Field, Tryz.prog.underlying 41 = some (.struct #[f0, f1, f2, f3]) ∧ f0.type = 3 ∧ f1.type = 9 ∧ f2.type = 9 ∧ f3.type = 3 ∧ f0.offset = 0 ∧ f1.offset = 1 ∧ f2.offset = 2 ∧ f3.offset = 3 :=
  ⟨_, _, _, _, Tryz.underlying41, rfl, rfl, rfl, rfl, rfl, rfl, rfl, rfl⟩
theorem cellsE : Tryz.prog.cellsOf 41 = 4 := by kernel_rfl
theorem cellsI : Tryz.prog.cellsOf 3 = 1 := by kernel_rfl
theorem cellsS : Tryz.prog.cellsOf 9 = 1 := by kernel_rfl
theorem lx_cells {H : Type} {enc : TypeId × Value → H} {W : World} {n : Nat} {cs : List Value} {y : DataW H × List MemPlace} (h : DataW.trod enc Tryz.prog W 0 (fun _ => true) true n 41 cs = some y)
    (hw : ∀ k ∈ y.1.weights Tryz.prog 41, k ≤ reachBytes) :
    ∃ x : Lx, cs = cellsX x ∧ InX x := by
  obtain ⟨f0, f1, f2, f3, hu, t0, t1, t2, t3, o0, o1, o2, o3⟩ := lx_under
  obtain ⟨y0, y1, y2, y3, n', hy, hl, h0, h1, h2, h3⟩ := Go.Joins.trod_struct4 hu h
  rw [cellsE] at hl
  rw [t0, o0, cellsI] at h0
  rw [t1, o1, cellsS] at h1
  rw [t2, o2, cellsS] at h2
  rw [t3, o3, cellsI] at h3
  match cs, hl with
  | [c0, c1, c2, c3], _ =>
    obtain ⟨p, e0, z0, w0⟩ := DataW.trod_int Tryz.underlying3 h0
    obtain ⟨s, e1, z1, w1⟩ := DataW.trod_string Tryz.underlying9 h1
    obtain ⟨r, e2, z2, w2⟩ := DataW.trod_string Tryz.underlying9 h2
    obtain ⟨l, e3, z3, w3⟩ := DataW.trod_int Tryz.underlying3 h3
    simp at e0 e1 e2 e3
    subst e0 e1 e2 e3
    have hws : ∀ k ∈ DataW.weightsEach Tryz.prog [f0.type, f1.type, f2.type, f3.type] [y0.1, y1.1, y2.1, y3.1], k ≤ reachBytes := by
      rw [hy] at hw
      simpa [DataW.weights, hu] using hw
    have a1 : s.data.toList.length ≤ reachBytes := hws _ (by rw [z1]; simp [DataW.weightsEach, DataW.weights])
    have a2 : r.data.toList.length ≤ reachBytes := hws _ (by rw [z2]; simp [DataW.weightsEach, DataW.weights])
    exact ⟨⟨p, s.data.toList, r.data.toList, l⟩, by simp [cellsX, baL_list], lit_i64 w0, lit_i64 w3, a1, a2⟩
theorem weights_all {H : Type} {P : Program} {e : TypeId} : ∀ {ds : List (DataW H)} {d : DataW H} {k : Nat}, d ∈ ds → k ∈ d.weights P e → k ∈ DataW.weightsAll P e ds
  | a :: r, d, k, hd, hk => by
    unfold DataW.weightsAll
    rcases List.mem_cons.1 hd with rfl | hd
    · exact List.mem_append_left _ hk
    · exact List.mem_append_right _ (weights_all hd hk)
theorem lex_arg {H : Type} {enc : TypeId × Value → H} {W : World} {fuel : Nat} {a : Option Addr} {len cap : Nat} {x : DataW H × List MemPlace} (h : DataW.trod enc Tryz.prog W 0 (fun _ => true) true fuel 24 (Value.slice a len cap).cells.toList = some x)
    (hw : ∀ k ∈ x.1.weights Tryz.prog 24, k ≤ reachBytes) :
    ∃ es : List Lx, LexIn W (.slice a len cap) es ∧ es.length = len ∧ len ≤ maxLen := by
  rcases DataW.trod_slice Tryz.underlying24 h with ⟨hcs, _⟩ | ⟨y, l, c, elems, rest, n, _, hcs, hx0, _, hlc, hm, hle, hx, _⟩
  · simp [Value.cells] at hcs
    obtain ⟨rfl, rfl, rfl⟩ := hcs
    exact ⟨[], ⟨⟨Option.none, 0, rfl, fun h => absurd h (by simp)⟩, fun x hx => by cases hx⟩, rfl, Nat.zero_le _⟩
  · simp [Value.cells] at hcs
    obtain ⟨rfl, rfl, rfl⟩ := hcs
    have hwa : ∀ k ∈ DataW.weightsAll Tryz.prog 41 (elems.map (·.1)), k ≤ reachBytes := fun k hk => by
      rw [hx0] at hw
      refine hw k ?_
      simp only [DataW.weights, Tryz.underlying24]
      exact List.mem_cons_of_mem _ (List.mem_append_left _ hk)
    have hE : ∀ i, ∃ e : Lx, i < len → W.cells? 0 (y.add (i * 4)) 4 = some (cellsX e) ∧ InX e := fun i => by
      by_cases hi : i < len
      · have h1 := hx i hi
        have hie : i < elems.length := by omega
        rw [List.getElem?_eq_getElem hie, Option.bind_eq_some_iff] at h1
        obtain ⟨cs', h1, h2⟩ := h1
        obtain ⟨x, rfl, hx⟩ := lx_cells h2 (fun k hk => hwa k (weights_all (List.mem_map.2 ⟨_, List.getElem_mem hie, rfl⟩) hk))
        rw [cellsE] at h1
        exact ⟨x, fun _ => ⟨h1, hx⟩⟩
      · exact ⟨⟨0, [], [], 0⟩, fun h => absurd h hi⟩
    obtain ⟨E, hE⟩ : ∃ E : Nat → Lx, ∀ i, i < len → W.cells? 0 (y.add (i * 4)) 4 = some (cellsX (E i)) ∧ InX (E i) := ⟨fun i => (hE i).choose, fun i => (hE i).choose_spec⟩
    have hlen : ((List.range len).map E).length = len := by simp
    refine ⟨(List.range len).map E, ⟨?_, fun x hx => ?_⟩, hlen, by omega⟩
    · rcases Nat.eq_zero_or_pos len with h0 | h0
      · subst h0; exact ⟨_, _, rfl, fun h => absurd h (by simp)⟩
      · have hcell : ∀ i, i < len → W.cell? ((y.add (i * 4)).add 0) = some (intV (E i).k) ∧ W.cell? ((y.add (i * 4)).add 1) = some (sV (E i).n) ∧ W.cell? ((y.add (i * 4)).add 2) = some (sV (E i).v) ∧ W.cell? ((y.add (i * 4)).add 3) = some (intV (E i).o) := fun i hi => by
          obtain ⟨_, _, h1⟩ := World.cells?_some (hE i hi).1
          exact ⟨h1 0 (by decide), h1 1 (by decide), h1 2 (by decide), h1 3 (by decide)⟩
        have hc0 := (hcell 0 h0).1
        have hsp := World.cell?_spot hc0
        obtain ⟨b, off, sp⟩ := y
        have hs : sp = none := by simpa [Addr.add] using hsp
        subst hs
        refine ⟨some ⟨b, off, none⟩, cap, by rw [hlen], fun _ => ⟨b, off, rfl, ?_, fun j hj => ?_⟩⟩
        · have := cell_lt hc0; rwa [add_block, add_block] at this
        · have hj : j < len := by rwa [hlen] at hj
          have := hcell j hj
          rw [addr_moreA b off (j * 4), addr_moreA b (off + j * 4) 0, addr_moreA b (off + j * 4) 1, addr_moreA b (off + j * 4) 2, addr_moreA b (off + j * 4) 3] at this
          simpa using this
    · obtain ⟨i, hi, rfl⟩ := List.mem_map.1 hx
      exact (hE i (List.mem_range.1 hi)).2
end Go.Proofs.YtdgihkgomfpmoaaGreatDoor
