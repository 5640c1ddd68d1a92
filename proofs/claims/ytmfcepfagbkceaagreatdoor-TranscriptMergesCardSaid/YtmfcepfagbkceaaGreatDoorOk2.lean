/- Stage 10 (transcript): TpForm, put together by merge10.py. -/
import Derived.Test.YtmfcepfagbkceaaGreatDoorOk
import Derived.Deep.MidRow
import Derived.Deep.WholeRow
import Derived.Laws.Rows
namespace Go.Proofs.YtmfcepfagbkceaaGreatDoor
set_option linter.unusedSimpArgs false
set_option linter.unusedVariables false
set_option maxRecDepth 100000
open Go.RowKit Go.Shelf Go.Deep
theorem isText_any (k : Int) (t : Bs) (n : Int) (s : Value) (r : Bool) (hr : (k == 1) = r) (w : World) :
    Calls Tryz.prog 52 #[ndV k t n s] w fun e w' => e = .returned (.bool r) ∧ Below w.heap.size w w' := by
  go_enter Tryz.func52, Tryz.ntmps52
  go_wp2
  go_ret
  exact ⟨rfl, below_alloc _ _⟩
abbrev fC : Value := .func (.func 105) #[] #[]
abbrev fN : Value := .func (.func 106) #[] #[]
abbrev fW : Value := .func (.func 107) #[] #[]
def fnK (k : Nat) : Value := match k with | 1 => fC | 3 => fN | 4 => fN | 10 => fW | 11 => fN | _ => .nilFunc
def mxK (k : Nat) : Int := match k with | 6 => 64 | 8 => 8 | 9 => 8 | _ => 0
def ptK (k : Nat) : Bool := match k with | 7 => true | 8 => true | 9 => true | 10 => true | 11 => true | _ => false
def tgK (k : Nat) : Bs := match k with | 2 => tLb | 3 => tPb | 4 => tSec | 5 => tV | 6 => tGap | 7 => tUn | 8 => tAdd | 9 => tDel | 10 => tAb | 11 => tName | _ => []
def fmC (k : Nat) : List Value := [sV (tgK k), fnK k, intV (mxK k), .bool (ptK k)]
def formsL : List Value := fmC 0 ++ (fmC 1 ++ (fmC 2 ++ (fmC 3 ++ (fmC 4 ++ (fmC 5 ++ (fmC 6 ++ (fmC 7 ++ (fmC 8 ++ (fmC 9 ++ (fmC 10 ++ fmC 11))))))))))
def formsA : Array Value := formsL.toArray
def forms0 : Array Value := (List.flatten (List.replicate 12 [.string ⟨#[]⟩, .nilFunc, .int .i64 0, .bool false])).toArray
theorem formsA_size : formsA.size = 48 := by decide
theorem forms0_size : forms0.size = 48 := by decide
abbrev faT : TypeId := 107
abbrev fmT : TypeId := 81
theorem info_forms : (Tryz.prog.info? faT).map (fun i => (i.zero, i.size)) = some (some (.agg forms0), 48) := by kernel_rfl
theorem built_forms : Tryz.prog.built faT [(1, .agg (fmC 1).toArray), (2, .agg (fmC 2).toArray), (3, .agg (fmC 3).toArray), (4, .agg (fmC 4).toArray), (5, .agg (fmC 5).toArray), (6, .agg (fmC 6).toArray), (7, .agg (fmC 7).toArray), (8, .agg (fmC 8).toArray), (9, .agg (fmC 9).toArray), (10, .agg (fmC 10).toArray), (11, .agg (fmC 11).toArray)] = some formsA := by kernel_rfl
theorem size_forms : (Tryz.prog.info? faT).map (·.size) = some formsA.size := by rw [formsA_size]; exact (zero_of_info info_forms).2
theorem formsA_one : ∀ v ∈ formsA.toList, v.oneCell' = true := by
  intro v hv
  simp [formsA, formsL, fmC, fnK, mxK, ptK, tgK] at hv
  rcases hv with h | h | h | h | h | h | h | h | h | h | h | h | h | h | h | h | h | h | h | h | h | h | h | h | h | h | h | h | h | h | h | h | h | h | h | h | h | h | h | h | h | h | h | h | h | h | h | h <;> subst h <;> rfl
theorem below_setRowT (W : World) (g : Nat) (cs : Array Value) {B : Nat} (h : B ≤ g) : Below B W (W.setRow g cs) :=
  ⟨rfl, rfl, rfl, by simp, fun k hk => setRow_other W g k cs (by omega)⟩
theorem wpList_store_intoT {P : Program} {ops : Array Oper} {rest : List Oper} {o : Oper} {a : Act} {w : World} {Q : Exit → Act → World → Prop} (hgd : o.guard = none) (ty : TypeId) (x y : Operand) (ho : o.op = .store ty x y)
    (g : Nat) (cells : Array Value) (hx : a.eval x = .pointer (some ⟨g, 0, none⟩)) (hy : a.eval y = .agg cells)
    (t : TypeId) (old : Array Value) (hg : w.heap[g]? = some (.cells old t (0, 0))) (hi : (P.info? ty).map (·.size) = some cells.size)
    (hold : old.size = cells.size) (h1 : ∀ v ∈ cells.toList, v.oneCell' = true)
    (h : ∀ w', w'.heap[g]? = some (.cells cells t (0, 0)) → (∀ k, k ≠ g → w'.heap[k]? = w.heap[k]?) → (∀ B, B ≤ g → Below B w w') → wpList P ops Q rest (a.put o.dst undef) w') : wpList P ops Q (o :: rest) a w :=
  wpList_store_row hgd ty x y ho g cells hx hy t old hg hi hold (Array.all_eq_true_iff_forall_mem.2 fun v hv => h1 v (by simpa using hv))
    (h _ (setRow_heap w g old cells t (0, 0) hg) (fun k hk => setRow_other w g k cells hk) (fun B hB => below_setRowT w g cells hB))
theorem wpList_build_asT {P : Program} {ops : Array Oper} {rest : List Oper} {o : Oper} {a : Act} {w : World} {Q : Exit → Act → World → Prop} (hg : o.guard = none) (t : TypeId) (parts : Array (Nat × Operand)) (ho : o.op = .build t parts)
    (vals : List (Nat × Value)) (hv : (parts.map fun (i, x) => (i, a.eval x)).toList = vals) (cells : Array Value) (hc : P.built t vals = some cells) (h : wpList P ops Q rest (a.put o.dst (.agg cells)) w) : wpList P ops Q (o :: rest) a w :=
  wpList_build hg t parts ho (by rw [hv, hc]; rfl) (by rw [hv, hc]; exact h)
set_option maxHeartbeats 2000000 in
theorem forms_any (w : World) :
    Calls Tryz.prog 83 #[] w fun e w' => e = .returned (.agg formsA) ∧ Below w.heap.size w w' := by
  obtain ⟨hz, hi⟩ := zero_of_info info_forms
  have HI := Lib.hid hi
  clear hi
  have HG := Lib.hid (World.alloc_heap_new w (.cells forms0 faT))
  have HB := Lib.hid ((Below.refl w.heap.size w).alloc (Nat.le_refl _) (.cells forms0 faT))
  go_enter Tryz.func83, Tryz.ntmps83
  go_wp2_with (first
    | (refine wpList_build_asT rfl faT _ rfl _ rfl formsA built_forms ?_)
    | (refine wpList_store_intoT rfl faT (.tmp 0) (.tmp 12) rfl w.heap.size formsA rfl rfl faT forms0 HG.out size_forms (by rw [formsA_size, forms0_size]) formsA_one ?_; intro W1 g1 g2 g3))
  refine bodyPost_ret (v := .agg formsA) ?_ rfl ⟨rfl, HB.out.trans (g3 _ (Nat.le_refl _))⟩
  exact results_cell_row rfl _ _ _ _ _ _ _ rfl g1 Tryz.underlying107 rfl size_forms
end Go.Proofs.YtmfcepfagbkceaaGreatDoor
