/- Stage 10 (transcript): TrArgs, put together by merge10.py. -/
import Derived.Test.YtmfcepfagbkceaaGreatDoorOh
import Derived.Test.YtmfcepfagbkceaaGreatDoorOc2
namespace Go.Proofs.YtmfcepfagbkceaaGreatDoor
set_option linter.unusedSimpArgs false
set_option linter.unusedVariables false
set_option maxRecDepth 100000
open Go.RowKit Go.Deep Go.WideShapes Go.ChangeShapes Go.ChangeMaps
def NdIn (W : World) (v : Value) (l : List Nd) : Prop := VsAt W (fun _ => True) v l
theorem nd_under : ∃ f0 f1 f2 f3 : Field, Tryz.prog.underlying 42 = some (.struct #[f0, f1, f2, f3]) ∧ (f0.type = 3 ∧ f1.type = 9 ∧ f2.type = 3 ∧ f3.type = 24) ∧ f0.offset = 0 ∧ f1.offset = 1 ∧ f2.offset = 2 ∧ f3.offset = 3 :=
  ⟨_, _, _, _, Tryz.underlying42, ⟨rfl, rfl, rfl, rfl⟩, rfl, rfl, rfl, rfl⟩
theorem cellsN : Tryz.prog.cellsOf 42 = 4 := by kernel_rfl
theorem cellsNL : Tryz.prog.cellsOf 24 = 1 := by kernel_rfl
theorem sV_of (t : ByteArray) : (.string t : Value) = sV t.data.toList := by unfold sV; rw [baL_list]
theorem nd_of_trod {H : Type} {enc : TypeId × Value → H} {W : World} (fuel : Nat) :
    (∀ cs y, DataW.trod enc Tryz.prog W 0 (fun _ => true) true fuel 42 cs = some y → ∃ (x : Nd) (so : Option Addr) (sc : Nat), cs = [intV x.kd, sV x.tx, intV x.nm, .slice so x.ps.length sc] ∧ VAt W (fun _ => True) (.agg #[intV x.kd, sV x.tx, intV x.nm, .slice so x.ps.length sc]) x) ∧
    (∀ cs y, DataW.trod enc Tryz.prog W 0 (fun _ => true) true fuel 24 cs = some y → ∃ (a : Option Addr) (cap : Nat) (l : List Nd), cs = [.slice a l.length cap] ∧ VsAt W (fun _ => True) (.slice a l.length cap) l ∧ l.length ≤ maxLen) := by
  induction fuel with
  | zero => exact ⟨fun cs y h => by simp [DataW.trod] at h, fun cs y h => by simp [DataW.trod] at h⟩
  | succ n ih =>
    refine ⟨fun cs y h => ?_, fun cs y h => ?_⟩
    · obtain ⟨f0, f1, f2, f3, hu, ⟨t0, t1, t2, t3⟩, o0, o1, o2, o3⟩ := nd_under
      obtain ⟨xs, m, e, _, hl, hlen, hf⟩ := DataW.trod_struct hu h
      obtain rfl : n = m := by omega
      rw [cellsN] at hl
      match xs, hlen with
      | [y0, y1, y2, y3], _ =>
        have h0 := hf 0 f0 rfl
        have h1 := hf 1 f1 rfl
        have h2 := hf 2 f2 rfl
        have h3 := hf 3 f3 rfl
        rw [t0, o0, cellsI] at h0
        rw [t1, o1, cellsS] at h1
        rw [t2, o2, cellsI] at h2
        rw [t3, o3, cellsNL] at h3
        match cs, hl with
        | [c0, c1, c2, c3], _ =>
          obtain ⟨k, e0, _, w0⟩ := DataW.trod_int Tryz.underlying3 h0
          obtain ⟨t, e1, _, w1⟩ := DataW.trod_string Tryz.underlying9 h1
          obtain ⟨nn, e2, _, w2⟩ := DataW.trod_int Tryz.underlying3 h2
          obtain ⟨a, cap, l, e3, hv, hm⟩ := ih.2 _ _ h3
          simp at e0 e1 e2 e3
          subst e0 e1 e2 e3
          rw [show (Value.string t) = sV t.data.toList from sV_of t]
          refine ⟨.mk k t.data.toList nn l, a, cap, rfl, vat_mk (wf_i64 w2).1 (wf_i64 w2).2 ?_ ?_ hv⟩
          · have : t.data.toList.length = t.size := by rw [Array.length_toList]; rfl
            show t.data.toList.length ≤ _
            rw [this]
            unfold maxLen at w1; omega
          · show l.length ≤ _; unfold maxLen at hm; omega
    · rcases DataW.trod_slice Tryz.underlying24 h with ⟨rfl, _⟩ | ⟨a, len, cap, elems, rest, m, e, rfl, _, hb, hl, hm, hlen, hel, _, _⟩
      · exact ⟨none, 0, [], rfl, VsAt.nil _ _ _ _, Nat.zero_le _⟩
      · obtain rfl : n = m := by omega
        rw [cellsN] at hel
        have hE : ∀ i, ∃ x : Nd, i < len → ∃ (so : Option Addr) (sc : Nat), W.cells? 0 (a.add (i * 4)) 4 = some [intV x.kd, sV x.tx, intV x.nm, .slice so x.ps.length sc] ∧ VAt W (fun _ => True) (.agg #[intV x.kd, sV x.tx, intV x.nm, .slice so x.ps.length sc]) x := fun i => by
          by_cases hi : i < len
          · have h1 := hel i hi
            rw [List.getElem?_eq_getElem (by omega)] at h1
            obtain ⟨cs', h2, h3⟩ := Option.bind_eq_some_iff.1 h1
            obtain ⟨x, so, sc, rfl, hv⟩ := ih.1 _ _ h3
            exact ⟨x, fun _ => ⟨so, sc, h2, hv⟩⟩
          · exact ⟨.mk 0 [] 0 [], fun h => absurd h hi⟩
        obtain ⟨E, hE⟩ : ∃ E : Nat → Nd, ∀ i, i < len → ∃ (so : Option Addr) (sc : Nat), W.cells? 0 (a.add (i * 4)) 4 = some [intV (E i).kd, sV (E i).tx, intV (E i).nm, .slice so (E i).ps.length sc] ∧ VAt W (fun _ => True) (.agg #[intV (E i).kd, sV (E i).tx, intV (E i).nm, .slice so (E i).ps.length sc]) (E i) := ⟨fun i => (hE i).choose, fun i => (hE i).choose_spec⟩
        have hle : ((List.range len).map E).length = len := by simp
        refine ⟨some a, cap, (List.range len).map E, by rw [hle], ?_, by omega⟩
        refine ⟨some a, cap, rfl, fun h0 => ?_⟩
        rw [hle] at h0
        obtain ⟨_, _, hc, _⟩ := hE 0 h0
        have hcell := (World.cells?_some hc).2.2 0 (by decide)
        have hlt := World.block_lt_of_cell? W _ hcell
        have hsp := World.cell?_spot hcell
        obtain ⟨b, off, sp⟩ := a
        have hs : sp = none := by simpa [Addr.add] using hsp
        subst hs
        rw [add_block, add_block] at hlt
        refine ⟨b, off, rfl, trivial, hlt, its_mk fun j hj => ?_⟩
        rw [hle] at hj
        obtain ⟨so, sc, hc, hv⟩ := hE j hj
        have hcs := (World.cells?_some hc).2.2
        have q0 := hcs 0 (by decide)
        have q1 := hcs 1 (by decide)
        have q2 := hcs 2 (by decide)
        have q3 := hcs 3 (by decide)
        rw [addr_moreA, addr_moreA] at q0 q1 q2 q3
        have hg : ((List.range len).map E)[j]'(by rw [hle]; exact hj) = E j := by simp
        rw [hg]
        exact ⟨_, q0, q1, q2, q3, hv⟩
theorem nds_arg {H : Type} {enc : TypeId × Value → H} {W : World} {fuel : Nat} {a : Option Addr} {len cap : Nat} {y : DataW H × List MemPlace} (h : DataW.trod enc Tryz.prog W 0 (fun _ => true) true fuel 24 (Value.slice a len cap).cells.toList = some y)
    (hw : ∀ k ∈ y.1.weights Tryz.prog 24, k ≤ reachBytes) :
    ∃ l : List Nd, NdIn W (.slice a len cap) l ∧ l.length = len ∧ len ≤ maxLen := by
  obtain ⟨a', cap', l, e, hv, hm⟩ := (nd_of_trod fuel).2 _ _ h
  simp [Value.cells] at e
  obtain ⟨rfl, rfl, rfl⟩ := e
  exact ⟨l, hv, rfl, hm⟩
end Go.Proofs.YtmfcepfagbkceaaGreatDoor
