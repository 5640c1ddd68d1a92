/- slices.Backward over elements, and Reverse. -/
import Derived.Test.YtjjdihkjkmhjnaaGpLit
import Derived.Test.YtjjdihkjkmhjnaaGpWrite
import Derived.Shelf.Abstract
import Derived.Shelf.RegionOpen
import Derived.OwnWalkIn
import Derived.TacticsInMore
import Derived.LoopNIn
import Derived.LoopIn
namespace Go.Proofs.Ytjjdihkjkmhjnaa
set_option linter.unusedSimpArgs false
set_option linter.unusedVariables false
set_option maxRecDepth 100000
open Go.RowKit Go.Deep Go.Shelf
theorem wide_fn (k : FuncId) : Fence.wide.fn k = True := rfl
attribute [local go_sem] Oper.semAt_some wide_fn

/-! ### whole rows inside a fence -/
theorem wpListIn_load_mid {F : Fence} {n : Nat} {P : Program} {ops : Array Oper} {rest : List Oper} {op : Oper} {a : Act} {w : World} {Q : Exit → Act → World → Prop} (hgd : op.guard = none) (ty : TypeId) (x : Operand) (ho : op.op = .load ty x)
    (b o : Nat) (hx : a.eval x = .pointer (some ⟨b, o, none⟩)) (cs : List Value) (d : TypeDesc) (hc : w.rangeAt b o cs)
    (hu : P.underlying ty = some d) (hd : d.isRow = true) (hi : (P.info? ty).map (·.size) = some cs.length)
    (h : wpListIn F n P ops Q rest (a.put op.dst (.agg cs.toArray)) w) : wpListIn F n P ops Q (op :: rest) a w :=
  wpListIn_plain hgd fun K hK => by
    unfold Oper.wpIn
    refine ⟨?_, ?_⟩
    · simp [Oper.about, ho]
    · rw [Oper.semAt_plain F _ _ (by rw [ho]; intro c hc'; cases hc')]
      unfold execOp
      simp only [ho, hx, Instr.loadAt, Instr.sureAddr, Sem.run_bind, Sem.run_pure, Result.andThen_ok, run_loadVar_mid w b o ty cs d hc hu hd hi]
      exact hK _ _ h
theorem wpListIn_store_into {F : Fence} {n : Nat} {P : Program} {ops : Array Oper} {rest : List Oper} {o : Oper} {a : Act} {w : World} {Q : Exit → Act → World → Prop} (hgd : o.guard = none) (ty : TypeId) (x y : Operand) (ho : o.op = .store ty x y)
    (g : Nat) (cells : Array Value) (hx : a.eval x = .pointer (some ⟨g, 0, none⟩)) (hy : a.eval y = .agg cells)
    (t : TypeId) (old : Array Value) (hg : w.heap[g]? = some (.cells old t (0, 0))) (hi : (P.info? ty).map (·.size) = some cells.size)
    (hold : old.size = cells.size) (h1 : ∀ v ∈ cells.toList, v.oneCell' = true)
    (h : wpListIn F n P ops Q rest (a.put o.dst undef) (w.setRow g cells)) : wpListIn F n P ops Q (o :: rest) a w :=
  wpListIn_plain hgd fun K hK => by
    unfold Oper.wpIn
    refine ⟨?_, ?_⟩
    · simp [Oper.about, ho]
    · rw [Oper.semAt_plain F _ _ (by rw [ho]; intro c hc'; cases hc')]
      unfold execOp
      simp only [ho, hx, hy, Instr.storeAt, Instr.sureAddr, Sem.run_bind, Sem.run_pure, Result.andThen_ok, run_storeVar_row w g t ty old cells hg hi hold (Array.all_eq_true_iff_forall_mem.2 fun v hv => h1 v (by simpa using hv))]
      exact hK _ _ h
/-! ### what Backward hands over -/
/-- a place and an element, not long -/
abbrev BEl := { p : Nat × El // p.2.txt.length ≤ 64 }
abbrev encB (p : BEl) : Array Value := #[.int .i64 p.1.1, .agg (elA p.1.2)]
def yl (l : List El) (k : Nat) : List (Nat × El) := (List.range k).map fun j => (l.length - 1 - j, l.getD (l.length - 1 - j) .any)
theorem yl_succ (l : List El) (k : Nat) : yl l (k + 1) = yl l k ++ [(l.length - 1 - k, l.getD (l.length - 1 - k) .any)] := by
  rw [yl, List.range_succ, List.map_append]; rfl
theorem yl_len (l : List El) (k : Nat) : (yl l k).length = k := by simp [yl]
theorem yl_all (l : List El) : (yl l l.length).map (·.2) = l.reverse := by
  apply List.ext_getElem?
  intro i
  rw [yl, List.map_map, List.getElem?_map]
  by_cases h : i < l.length
  · rw [List.getElem?_range h, List.getElem?_reverse h]
    simp only [Option.map_some, Function.comp_def, List.getD_eq_getElem?_getD]
    rw [List.getElem?_eq_getElem (by omega)]; rfl
  · rw [List.getElem?_eq_none (by simpa using h), List.getElem?_eq_none (by simpa using h)]; rfl
/-- below n₀ all is as it was, and the slice's box holds what it held -/
def KB (Bs n₀ : Nat) (A B : World) : Prop := Below n₀ A B ∧ B.cell? ⟨Bs, 0, none⟩ = A.cell? ⟨Bs, 0, none⟩
theorem KB.t {Bs n₀ : Nat} {A B C : World} (h : KB Bs n₀ A B) (k : KB Bs n₀ B C) : KB Bs n₀ A C := ⟨h.1.trans k.1, k.2.trans h.2⟩
theorem KB.b {Bs n₀ : Nat} {w : World} (hn : n₀ ≤ w.heap.size) (hB : Bs < w.heap.size) (W : World) (l : Nat) (o o' : Obj) (hl : w.heap.size ≤ l) (h : W.heap[l]? = some o) (h1 : o.isCells = false) (h2 : o.isWalk = false) : KB Bs n₀ W (W.putObj l o') :=
  ⟨belowK_b hn W l o o' hl h h1 h2, (belowK_b (n₀ := w.heap.size) (Nat.le_refl _) W l o o' hl h h1 h2).cell (p := ⟨Bs, 0, none⟩) hB⟩
set_option maxHeartbeats 2000000 in
theorem back1_in (lp Bs n₀ : Nat) (l : List El) (hl64 : l.length ≤ 64) (va : Option Addr) (vc : Nat) (w0 : World) (hn0 : n₀ = w0.heap.size) (hv : EAt w0 (.slice va l.length vc) l) (HT : ∀ x ∈ l, x.txt.length ≤ 64) (J Jx : List BEl → World → Prop)
    (hY : ∀ pre x W, J pre W → pre.length < l.length → YieldAt Fence.wide 7 Try.prog lp (encB x) W fun e W' =>
      (e = .returned (.bool true) ∧ J (pre ++ [x]) W' ∧ KB Bs n₀ W W') ∨ (e = .returned (.bool false) ∧ Jx (pre ++ [x]) W'))
    (W : World) (hW : Below n₀ w0 W) (hBs : W.cell? ⟨Bs, 0, none⟩ = some (.slice va l.length vc)) (h0 : J [] W) :
    CallsIn Fence.wide 8 Try.prog 55 #[.func (.yield lp) #[] #[], .pointer (some ⟨Bs, 0, none⟩)] W fun e W' => (∃ v, e = .returned v) ∧
      ((∃ ys : List BEl, ys.map (·.1) = yl l l.length ∧ J ys W') ∨ (∃ pre : List BEl, True ∧ Jx pre W')) := by
  have HV := Lib.hid hv
  have HSZ := Lib.hid hn0
  clear hv hn0
  refine callsIn_of_wp Try.func55 rfl trivial ?_ rfl
  simp only [Try.ntmps55, List.size_toArray, List.length_cons, List.length_nil, Nat.reduceAdd, Nat.reduceSub, Array.replicate_succ, Array.replicate_zero, List.push_toArray, List.append_toArray, List.nil_append, List.cons_append]
  gi_wp2
  gi_loopw [3] (fun i wr => ∃ (k : Nat) (z : Int) (ys : List BEl), k ≤ l.length ∧ i = .int .i64 z ∧ Hid (z = (l.length : Int) - 1 - k ∧ ys.map (·.1) = yl l k) ∧ J ys wr ∧ Below n₀ w0 wr ∧ wr.cell? ⟨Bs, 0, none⟩ = some (.slice va l.length vc)) (fun i _ => (intOf i + 1).toNat)
  case atStart => exact ⟨0, (l.length : Int) - 1, [], Nat.zero_le _, rfl, Lib.hid ⟨by omega, rfl⟩, h0, hW, hBs⟩
  case round =>
    obtain ⟨k, z, ys, hk, rfl, HZ, hJ, hBe, hcs⟩ := hrel
    obtain ⟨wk, rfl⟩ : ∃ x, x = wr := ⟨_, rfl⟩
    by_cases hlt : k < l.length
    · obtain ⟨m, hm⟩ : ∃ m : Nat, z = m := ⟨l.length - 1 - k, by have := HZ.out.1; omega⟩
      subst hm
      have hmk : m = l.length - 1 - k := by have := HZ.out.1; omega
      have hml : m < l.length := by omega
      have hm0 : (0 : Int) ≤ m := by omega
      have hm1 : (m : Int) < l.length := by omega
      have hm64 : (m : Int) ≤ 64 := by omega
      have hBe' : Below w0.heap.size w0 wk := by rw [← HSZ.out]; exact hBe
      obtain ⟨bb, off, rfl, hbb, hrg⟩ := (HV.out.below hBe').get hml
      have hgd : l.getD m .any = l[m] := by rw [List.getD_eq_getElem?_getD, List.getElem?_eq_getElem hml]; rfl
      have HRG := Lib.hid hrg
      have HYS := Lib.hid (show yl l (k + 1) = yl l k ++ [(m, l[m])] by rw [yl_succ, ← hmk, hgd])
      obtain ⟨x, hx⟩ : ∃ x, l[m] = x := ⟨_, rfl⟩
      rw [hx] at HRG HYS
      have hxt : x.txt.length ≤ 64 := HT x (by rw [← hx]; exact List.getElem_mem hml)
      obtain ⟨fn, tmps, assign, body, hy, hR⟩ := hY _ ⟨(m, x), hxt⟩ wk hJ (by have := congrArg List.length HZ.out.2; rw [List.length_map, yl_len] at this; omega)
      dsimp only [encB] at hy
      have HJ := Lib.hid hJ
      have HBE := Lib.hid hBe
      have HMK := Lib.hid hmk
      clear hJ hBe hBe' hrg hgd hx hmk
      gi_wp2_with (refine wpListIn_load_mid rfl 55 (.tmp 15) rfl bb (off + m * 258) rfl (elL x) _ HRG.out Try.underlying55 rfl (by rw [elL_length]; exact (zero_of_info info_el).2) ?_; rw [← elA_eq])
      refine hR.mono ?_
      rintro e W3 (⟨rfl, hJ3, hk3⟩ | ⟨rfl, hJx3⟩)
      · have HB3 := Lib.hid (And.intro (HBE.out.trans hk3.1) (hk3.2.trans hcs))
        clear hk3 hcs
        gi_wp2
        refine ⟨⟨k + 1, (m : Int) - 1, _, by omega, rfl, Lib.hid ⟨by have := HMK.out; omega, by rw [List.map_append, HZ.out.2, HYS.out]; rfl⟩, hJ3, HB3.out.1, HB3.out.2⟩, by simp only [intOf]; omega⟩
      · gi_wp2
        refine bodyPost_ret (results_none rfl _ _ _) rfl ?_
        exact ⟨⟨_, rfl⟩, .inr ⟨_, trivial, hJx3⟩⟩
    · obtain rfl : k = l.length := by omega
      obtain rfl : z = -1 := by have := HZ.out.1; omega
      gi_wp2
      go_end0
      exact ⟨⟨_, rfl⟩, .inl ⟨_, HZ.out.2, hJ⟩⟩
set_option maxHeartbeats 1000000 in
theorem backward_any (v : Value) (a : Option Addr) (n c : Nat) (hv : v = .slice a n c) (w : World) :
    Calls Try.prog 39 #[v] w fun e w' => e = .returned (.func (.func 55) #[] #[.pointer (some ⟨w.heap.size, 0, none⟩)]) ∧ w' = w.alloc (.cells #[v] 45) := by
  subst hv
  go_enter Try.func39, Try.ntmps39
  go_wp2
  go_ret
  exact ⟨rfl, rfl⟩
/-- Backward hands over a value that stops -/
theorem back_stops (Bs : Nat) (l : List El) (hl64 : l.length ≤ 64) (HT : ∀ x ∈ l, x.txt.length ≤ 64) (va : Option Addr) (vc : Nat) (w0 w : World) (hv : EAt w0 (.slice va l.length vc) l) (h0 : Below w0.heap.size w0 w) (hBs : Bs < w.heap.size)
    (hc : w.cell? ⟨Bs, 0, none⟩ = some (.slice va l.length vc)) :
    SeqStopsK Fence.wide 8 Try.prog 55 #[.pointer (some ⟨Bs, 0, none⟩)] encB (KB Bs w0.heap.size) (fun ys => ys.map (·.1) = yl l l.length) (fun _ => True) l.length w := fun lp J Jx W hW _ _ hY hJ0 =>
  back1_in lp Bs w0.heap.size l hl64 va vc w0 rfl hv HT J Jx hY W (h0.trans (hW.mono h0.size)) ((hW.cell (p := ⟨Bs, 0, none⟩) hBs).trans hc) hJ0
end Go.Proofs.Ytjjdihkjkmhjnaa
