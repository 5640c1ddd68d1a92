/- What came in: values and lists of values. -/
import Derived.Test.YtjcigjggfmfoeaaDoorCoVals
import Derived.SliceStrings
import Derived.Deep.Slices
import Derived.Lib.SmallJoins
import Derived.ProofKit
import Derived.OpenShut
namespace Go.Proofs.YtjcigjggfmfoeaaDoor
set_option linter.unusedSimpArgs false
set_option linter.unusedVariables false
set_option maxRecDepth 100000
open Go.RowKit Go.Deep Go.WideShapes Go.ChangeShapes Go.ChangeMaps

theorem add_block (x : Addr) (i : Nat) : (x.add i).block = x.block := by unfold Addr.add; split <;> rfl
theorem addr_more (b off j : Nat) : (⟨b, off, none⟩ : Addr).add j = ⟨b, off + j, none⟩ := by unfold Addr.add; split <;> simp_all
theorem wf_i64 {x : Int} (h : (Lit.int .i64 x).wf = true) : -9223372036854775808 ≤ x ∧ x ≤ 9223372036854775807 := by
  unfold Lit.wf at h
  rw [Bool.and_eq_true, decide_eq_true_eq, decide_eq_true_eq, show IntKind.i64.min = -9223372036854775808 by decide, show IntKind.i64.max = 9223372036854775807 by decide] at h
  exact h
theorem val_under : ∃ f0 f1 f2 f3 : Field, Tryd.prog.underlying 24 = some (.struct #[f0, f1, f2, f3]) ∧ (f0.type = 3 ∧ f1.type = 3 ∧ f2.type = 9 ∧ f3.type = 22) ∧ f0.offset = 0 ∧ f1.offset = 1 ∧ f2.offset = 2 ∧ f3.offset = 3 :=
  ⟨_, _, _, _, Tryd.underlying24, ⟨rfl, rfl, rfl, rfl⟩, rfl, rfl, rfl, rfl⟩
theorem cellsV : Tryd.prog.cellsOf 24 = 4 := by kernel_rfl
theorem cellsI : Tryd.prog.cellsOf 3 = 1 := by kernel_rfl
theorem cellsS : Tryd.prog.cellsOf 9 = 1 := by kernel_rfl
theorem cellsL : Tryd.prog.cellsOf 22 = 1 := by kernel_rfl
abbrev Any (_ : Nat) : Prop := True
theorem val_of_trod {H : Type} {enc : TypeId × Value → H} {W : World} (fuel : Nat) :
    (∀ cs y, DataW.trod enc Tryd.prog W 0 (fun _ => true) true fuel 24 cs = some y → ∃ (x : Val) (so : Option Addr) (sc : Nat), cs = [intV x.kd, intV x.nm, .string x.tx, .slice so x.its.length sc] ∧ VAt W Any (.agg #[intV x.kd, intV x.nm, .string x.tx, .slice so x.its.length sc]) x) ∧
    (∀ cs y, DataW.trod enc Tryd.prog W 0 (fun _ => true) true fuel 22 cs = some y → ∃ (a : Option Addr) (cap : Nat) (l : List Val), cs = [.slice a l.length cap] ∧ VsAt W Any (.slice a l.length cap) l ∧ l.length ≤ maxLen) := by
  induction fuel with
  | zero => exact ⟨fun cs y h => by simp [DataW.trod] at h, fun cs y h => by simp [DataW.trod] at h⟩
  | succ n ih =>
    refine ⟨fun cs y h => ?_, fun cs y h => ?_⟩
    · obtain ⟨f0, f1, f2, f3, hu, ⟨t0, t1, t2, t3⟩, o0, o1, o2, o3⟩ := val_under
      obtain ⟨xs, m, e, _, hl, hlen, hf⟩ := DataW.trod_struct hu h
      obtain rfl : n = m := by omega
      rw [cellsV] at hl
      match xs, hlen with
      | [y0, y1, y2, y3], _ =>
        have h0 := hf 0 f0 rfl
        have h1 := hf 1 f1 rfl
        have h2 := hf 2 f2 rfl
        have h3 := hf 3 f3 rfl
        rw [t0, o0, cellsI] at h0
        rw [t1, o1, cellsI] at h1
        rw [t2, o2, cellsS] at h2
        rw [t3, o3, cellsL] at h3
        match cs, hl with
        | [c0, c1, c2, c3], _ =>
          obtain ⟨k, e0, _, w0⟩ := DataW.trod_int Tryd.underlying3 h0
          obtain ⟨nn, e1, _, w1⟩ := DataW.trod_int Tryd.underlying3 h1
          obtain ⟨t, e2, _, w2⟩ := DataW.trod_string Tryd.underlying9 h2
          obtain ⟨a, cap, l, e3, hv, hm⟩ := ih.2 _ _ h3
          simp at e0 e1 e2 e3
          subst e0 e1 e2 e3
          refine ⟨.mk k nn t l, a, cap, rfl, vat_mk (wf_i64 w1).1 (wf_i64 w1).2 ?_ ?_ hv⟩
          · show t.size ≤ _; unfold maxLen at w2; omega
          · show l.length ≤ _; unfold maxLen at hm; omega
    · rcases DataW.trod_slice Tryd.underlying22 h with ⟨rfl, _⟩ | ⟨a, len, cap, elems, rest, m, e, rfl, _, hb, hl, hm, hlen, hel, _, _⟩
      · exact ⟨none, 0, [], rfl, VsAt.nil _ _ _ _, Nat.zero_le _⟩
      · obtain rfl : n = m := by omega
        rw [cellsV] at hel
        have hE : ∀ i, ∃ x : Val, i < len → ∃ (so : Option Addr) (sc : Nat), W.cells? 0 (a.add (i * 4)) 4 = some [intV x.kd, intV x.nm, .string x.tx, .slice so x.its.length sc] ∧ VAt W Any (.agg #[intV x.kd, intV x.nm, .string x.tx, .slice so x.its.length sc]) x := fun i => by
          by_cases hi : i < len
          · have h1 := hel i hi
            rw [List.getElem?_eq_getElem (by omega)] at h1
            obtain ⟨cs', h2, h3⟩ := Option.bind_eq_some_iff.1 h1
            obtain ⟨x, so, sc, rfl, hv⟩ := ih.1 _ _ h3
            exact ⟨x, fun _ => ⟨so, sc, h2, hv⟩⟩
          · exact ⟨.mk 0 0 ByteArray.empty [], fun h => absurd h hi⟩
        obtain ⟨E, hE⟩ : ∃ E : Nat → Val, ∀ i, i < len → ∃ (so : Option Addr) (sc : Nat), W.cells? 0 (a.add (i * 4)) 4 = some [intV (E i).kd, intV (E i).nm, .string (E i).tx, .slice so (E i).its.length sc] ∧ VAt W Any (.agg #[intV (E i).kd, intV (E i).nm, .string (E i).tx, .slice so (E i).its.length sc]) (E i) := ⟨fun i => (hE i).choose, fun i => (hE i).choose_spec⟩
        have hle : ((List.range len).map E).length = len := by simp
        refine ⟨some a, cap, (List.range len).map E, by rw [hle], ?_, by omega⟩
        refine ⟨some a, cap, rfl, fun h0 => ?_⟩
        rw [hle] at h0
        obtain ⟨_, _, hc, _⟩ := hE 0 h0
        have hcell := (World.cells?_some hc).2.2 0 (by decide)
        have hlt := World.block_lt_of_cell? W _ hcell
        have hsp := World.cell?_spot hcell
        obtain ⟨b, off, sp⟩ := a
        have hs : sp = none := by simpa [Addr.add] using hsp
        subst hs
        rw [add_block, add_block] at hlt
        refine ⟨b, off, rfl, trivial, hlt, its_mk fun j hj => ?_⟩
        rw [hle] at hj
        obtain ⟨so, sc, hc, hv⟩ := hE j hj
        have hcs := (World.cells?_some hc).2.2
        have q0 := hcs 0 (by decide)
        have q1 := hcs 1 (by decide)
        have q2 := hcs 2 (by decide)
        have q3 := hcs 3 (by decide)
        rw [addr_more, addr_more] at q0 q1 q2 q3
        have hg : ((List.range len).map E)[j]'(by rw [hle]; exact hj) = E j := by simp
        rw [hg]
        exact ⟨_, q0, q1, q2, q3, hv⟩
theorem vals_arg {H : Type} {enc : TypeId × Value → H} {W : World} {fuel : Nat} {a : Option Addr} {len cap : Nat} {y : DataW H × List MemPlace} (h : DataW.trod enc Tryd.prog W 0 (fun _ => true) true fuel 22 (Value.slice a len cap).cells.toList = some y) :
    ∃ l : List Val, VsAt W Any (.slice a len cap) l ∧ l.length = len ∧ len ≤ maxLen := by
  obtain ⟨a', cap', l, e, hv, hm⟩ := (val_of_trod fuel).2 _ _ h
  simp [Value.cells] at e
  obtain ⟨rfl, rfl, rfl⟩ := e
  exact ⟨l, hv, rfl, hm⟩
theorem val_arg {H : Type} {enc : TypeId × Value → H} {W : World} {fuel : Nat} {c0 c1 c2 c3 : Value} {y : DataW H × List MemPlace} (h : DataW.trod enc Tryd.prog W 0 (fun _ => true) true fuel 24 [c0, c1, c2, c3] = some y) :
    ∃ x : Val, VAt W Any (.agg #[c0, c1, c2, c3]) x := by
  obtain ⟨x, so, sc, e, hv⟩ := (val_of_trod fuel).1 _ _ h
  simp at e
  obtain ⟨rfl, rfl, rfl, rfl⟩ := e
  exact ⟨x, hv⟩
end Go.Proofs.YtjcigjggfmfoeaaDoor
