/- Stage 10 (transcript): TpFormOf TpCheck, put together by merge10.py. -/
import Derived.Test.YtmfcepfagbkceaaGreatDoorOk2
import Derived.Test.YtmfcepfagbkceaaGreatDoorOg
import Derived.Test.YtmfcepfagbkceaaGreatDoorOb
import Derived.Deep.QuietTactic
import Derived.BigQuiet
namespace Go.Proofs.YtmfcepfagbkceaaGreatDoor
set_option linter.unusedSimpArgs false
set_option linter.unusedVariables false
set_option maxRecDepth 100000
open Go.RowKit Go.Shelf Go.Deep
abbrev fm0V : Value := .agg #[.string ⟨#[]⟩, .nilFunc, .int .i64 0, .bool false]
theorem form_res {w w1 W1 : World} (h1 : Below (w.alloc (.cells #[.string ⟨#[]⟩, .nilFunc, .int .i64 0, .bool false] fmT (0, 0))).heap.size (w.alloc (.cells #[.string ⟨#[]⟩, .nilFunc, .int .i64 0, .bool false] fmT (0, 0))) w1)
    (g2 : ∀ k, k ≠ w1.heap.size → W1.heap[k]? = (w1.alloc (.cells forms0 faT)).heap[k]?) (g3 : ∀ B, B ≤ w1.heap.size → Below B (w1.alloc (.cells forms0 faT)) W1) :
    W1.frozen? ⟨w.heap.size, 0, none⟩ = false ∧ W1.frozen? ⟨w.heap.size, 1, none⟩ = false ∧ W1.frozen? ⟨w.heap.size, 2, none⟩ = false ∧ W1.frozen? ⟨w.heap.size, 3, none⟩ = false ∧
      Hid (W1.heap[w.heap.size]? = some (.cells #[.string ⟨#[]⟩, .nilFunc, .int .i64 0, .bool false] fmT (0, 0)) ∧ Below w.heap.size w W1) := by
  have hs : w.heap.size < w1.heap.size := by have := h1.size; simp at this; omega
  have hb : W1.heap[w.heap.size]? = some (.cells #[.string ⟨#[]⟩, .nilFunc, .int .i64 0, .bool false] fmT (0, 0)) := by
    rw [g2 _ (by omega), Below.heap_alloc _ _ _ hs, h1.block _ (by simp)]
    exact World.alloc_heap_new _ _
  refine ⟨heap_free hb _, heap_free hb _, heap_free hb _, heap_free hb _, Lib.hid ⟨hb, ?_⟩⟩
  exact (((Below.refl _ w).alloc (Nat.le_refl _) _).trans (h1.mono (by simp))).trans (((Below.refl _ _).alloc (by omega) _).trans (g3 _ (by omega)))
theorem form_cells_1 {W : World} {g : Nat} (h : W.heap[g]? = some (.cells formsA faT (0, 0))) : W.cell? ⟨g, 4, none⟩ = some (sV []) ∧ W.cell? ⟨g, 4 + 1, none⟩ = some (fC : Value) ∧ W.cell? ⟨g, 4 + 2, none⟩ = some (intV 0) ∧ W.cell? ⟨g, 4 + 3, none⟩ = some (.bool false) := by
  unfold World.cell?; rw [h]; exact ⟨rfl, rfl, rfl, rfl⟩
theorem form_cells_2 {W : World} {g : Nat} (h : W.heap[g]? = some (.cells formsA faT (0, 0))) : W.cell? ⟨g, 8, none⟩ = some (sV tLb) ∧ W.cell? ⟨g, 8 + 1, none⟩ = some (.nilFunc : Value) ∧ W.cell? ⟨g, 8 + 2, none⟩ = some (intV 0) ∧ W.cell? ⟨g, 8 + 3, none⟩ = some (.bool false) := by
  unfold World.cell?; rw [h]; exact ⟨rfl, rfl, rfl, rfl⟩
theorem form_cells_3 {W : World} {g : Nat} (h : W.heap[g]? = some (.cells formsA faT (0, 0))) : W.cell? ⟨g, 12, none⟩ = some (sV tPb) ∧ W.cell? ⟨g, 12 + 1, none⟩ = some (fN : Value) ∧ W.cell? ⟨g, 12 + 2, none⟩ = some (intV 0) ∧ W.cell? ⟨g, 12 + 3, none⟩ = some (.bool false) := by
  unfold World.cell?; rw [h]; exact ⟨rfl, rfl, rfl, rfl⟩
theorem form_cells_4 {W : World} {g : Nat} (h : W.heap[g]? = some (.cells formsA faT (0, 0))) : W.cell? ⟨g, 16, none⟩ = some (sV tSec) ∧ W.cell? ⟨g, 16 + 1, none⟩ = some (fN : Value) ∧ W.cell? ⟨g, 16 + 2, none⟩ = some (intV 0) ∧ W.cell? ⟨g, 16 + 3, none⟩ = some (.bool false) := by
  unfold World.cell?; rw [h]; exact ⟨rfl, rfl, rfl, rfl⟩
theorem form_cells_5 {W : World} {g : Nat} (h : W.heap[g]? = some (.cells formsA faT (0, 0))) : W.cell? ⟨g, 20, none⟩ = some (sV tV) ∧ W.cell? ⟨g, 20 + 1, none⟩ = some (.nilFunc : Value) ∧ W.cell? ⟨g, 20 + 2, none⟩ = some (intV 0) ∧ W.cell? ⟨g, 20 + 3, none⟩ = some (.bool false) := by
  unfold World.cell?; rw [h]; exact ⟨rfl, rfl, rfl, rfl⟩
theorem form_cells_6 {W : World} {g : Nat} (h : W.heap[g]? = some (.cells formsA faT (0, 0))) : W.cell? ⟨g, 24, none⟩ = some (sV tGap) ∧ W.cell? ⟨g, 24 + 1, none⟩ = some (.nilFunc : Value) ∧ W.cell? ⟨g, 24 + 2, none⟩ = some (intV 64) ∧ W.cell? ⟨g, 24 + 3, none⟩ = some (.bool false) := by
  unfold World.cell?; rw [h]; exact ⟨rfl, rfl, rfl, rfl⟩
theorem form_cells_7 {W : World} {g : Nat} (h : W.heap[g]? = some (.cells formsA faT (0, 0))) : W.cell? ⟨g, 28, none⟩ = some (sV tUn) ∧ W.cell? ⟨g, 28 + 1, none⟩ = some (.nilFunc : Value) ∧ W.cell? ⟨g, 28 + 2, none⟩ = some (intV 0) ∧ W.cell? ⟨g, 28 + 3, none⟩ = some (.bool true) := by
  unfold World.cell?; rw [h]; exact ⟨rfl, rfl, rfl, rfl⟩
theorem form_cells_8 {W : World} {g : Nat} (h : W.heap[g]? = some (.cells formsA faT (0, 0))) : W.cell? ⟨g, 32, none⟩ = some (sV tAdd) ∧ W.cell? ⟨g, 32 + 1, none⟩ = some (.nilFunc : Value) ∧ W.cell? ⟨g, 32 + 2, none⟩ = some (intV 8) ∧ W.cell? ⟨g, 32 + 3, none⟩ = some (.bool true) := by
  unfold World.cell?; rw [h]; exact ⟨rfl, rfl, rfl, rfl⟩
theorem form_cells_9 {W : World} {g : Nat} (h : W.heap[g]? = some (.cells formsA faT (0, 0))) : W.cell? ⟨g, 36, none⟩ = some (sV tDel) ∧ W.cell? ⟨g, 36 + 1, none⟩ = some (.nilFunc : Value) ∧ W.cell? ⟨g, 36 + 2, none⟩ = some (intV 8) ∧ W.cell? ⟨g, 36 + 3, none⟩ = some (.bool true) := by
  unfold World.cell?; rw [h]; exact ⟨rfl, rfl, rfl, rfl⟩
theorem form_cells_10 {W : World} {g : Nat} (h : W.heap[g]? = some (.cells formsA faT (0, 0))) : W.cell? ⟨g, 40, none⟩ = some (sV tAb) ∧ W.cell? ⟨g, 40 + 1, none⟩ = some (fW : Value) ∧ W.cell? ⟨g, 40 + 2, none⟩ = some (intV 0) ∧ W.cell? ⟨g, 40 + 3, none⟩ = some (.bool true) := by
  unfold World.cell?; rw [h]; exact ⟨rfl, rfl, rfl, rfl⟩
theorem form_cells_11 {W : World} {g : Nat} (h : W.heap[g]? = some (.cells formsA faT (0, 0))) : W.cell? ⟨g, 44, none⟩ = some (sV tName) ∧ W.cell? ⟨g, 44 + 1, none⟩ = some (fN : Value) ∧ W.cell? ⟨g, 44 + 2, none⟩ = some (intV 0) ∧ W.cell? ⟨g, 44 + 3, none⟩ = some (.bool true) := by
  unfold World.cell?; rw [h]; exact ⟨rfl, rfl, rfl, rfl⟩
set_option maxHeartbeats 2000000 in
theorem formOf_1 (w : World) :
    Calls Tryz.prog 55 #[intV 1] w fun e w' => e = .returned (.tuple #[.agg #[sV [], fC, intV 0, .bool false], .bool true]) ∧ Below w.heap.size w w' := by
  obtain ⟨hz, hi⟩ := zero_of_info info_forms
  have HI := Lib.hid hi
  clear hi
  go_enter Tryz.func55, Tryz.ntmps55
  go_wp2_with (first
    | (go_at_call 83; refine (forms_any _).mono ?_; rintro e w1 ⟨rfl, h1⟩)
    | (refine wpList_store_intoT rfl faT (.tmp 4) (.tmp 5) rfl w1.heap.size formsA rfl rfl faT forms0 (World.alloc_heap_new _ _) size_forms (by rw [formsA_size, forms0_size]) formsA_one ?_; intro W1 g1 g2 g3; obtain ⟨q0, q1, q2, q3⟩ := form_cells_1 g1; obtain ⟨r0, r1, r2, r3, HR⟩ := form_res h1 g2 g3; obtain ⟨e0, e1, e2, e3⟩ := box4T HR.out.1))
  obtain ⟨z1, z2, z3⟩ := set4P (N := w.heap.size) HR.out.1 (Nat.le_refl _) rfl
  refine bodyPost_ret (v := .tuple #[.agg #[sV [], fC, intV 0, .bool false], .bool true]) ?_ rfl ⟨rfl, HR.out.2.trans z3⟩
  obtain ⟨y0, y1, y2, y3⟩ := heap4P z1
  simp [results, Tryz.f55, go_sem, y0, y1, y2, y3]
set_option maxHeartbeats 2000000 in
theorem formOf_2 (w : World) :
    Calls Tryz.prog 55 #[intV 2] w fun e w' => e = .returned (.tuple #[.agg #[sV tLb, .nilFunc, intV 0, .bool false], .bool true]) ∧ Below w.heap.size w w' := by
  obtain ⟨hz, hi⟩ := zero_of_info info_forms
  have HI := Lib.hid hi
  clear hi
  go_enter Tryz.func55, Tryz.ntmps55
  go_wp2_with (first
    | (go_at_call 83; refine (forms_any _).mono ?_; rintro e w1 ⟨rfl, h1⟩)
    | (refine wpList_store_intoT rfl faT (.tmp 4) (.tmp 5) rfl w1.heap.size formsA rfl rfl faT forms0 (World.alloc_heap_new _ _) size_forms (by rw [formsA_size, forms0_size]) formsA_one ?_; intro W1 g1 g2 g3; obtain ⟨q0, q1, q2, q3⟩ := form_cells_2 g1; obtain ⟨r0, r1, r2, r3, HR⟩ := form_res h1 g2 g3; obtain ⟨e0, e1, e2, e3⟩ := box4T HR.out.1))
  obtain ⟨z1, z2, z3⟩ := set4P (N := w.heap.size) HR.out.1 (Nat.le_refl _) rfl
  refine bodyPost_ret (v := .tuple #[.agg #[sV tLb, .nilFunc, intV 0, .bool false], .bool true]) ?_ rfl ⟨rfl, HR.out.2.trans z3⟩
  obtain ⟨y0, y1, y2, y3⟩ := heap4P z1
  simp [results, Tryz.f55, go_sem, y0, y1, y2, y3]
set_option maxHeartbeats 2000000 in
theorem formOf_3 (w : World) :
    Calls Tryz.prog 55 #[intV 3] w fun e w' => e = .returned (.tuple #[.agg #[sV tPb, fN, intV 0, .bool false], .bool true]) ∧ Below w.heap.size w w' := by
  obtain ⟨hz, hi⟩ := zero_of_info info_forms
  have HI := Lib.hid hi
  clear hi
  go_enter Tryz.func55, Tryz.ntmps55
  go_wp2_with (first
    | (go_at_call 83; refine (forms_any _).mono ?_; rintro e w1 ⟨rfl, h1⟩)
    | (refine wpList_store_intoT rfl faT (.tmp 4) (.tmp 5) rfl w1.heap.size formsA rfl rfl faT forms0 (World.alloc_heap_new _ _) size_forms (by rw [formsA_size, forms0_size]) formsA_one ?_; intro W1 g1 g2 g3; obtain ⟨q0, q1, q2, q3⟩ := form_cells_3 g1; obtain ⟨r0, r1, r2, r3, HR⟩ := form_res h1 g2 g3; obtain ⟨e0, e1, e2, e3⟩ := box4T HR.out.1))
  obtain ⟨z1, z2, z3⟩ := set4P (N := w.heap.size) HR.out.1 (Nat.le_refl _) rfl
  refine bodyPost_ret (v := .tuple #[.agg #[sV tPb, fN, intV 0, .bool false], .bool true]) ?_ rfl ⟨rfl, HR.out.2.trans z3⟩
  obtain ⟨y0, y1, y2, y3⟩ := heap4P z1
  simp [results, Tryz.f55, go_sem, y0, y1, y2, y3]
set_option maxHeartbeats 2000000 in
theorem formOf_4 (w : World) :
    Calls Tryz.prog 55 #[intV 4] w fun e w' => e = .returned (.tuple #[.agg #[sV tSec, fN, intV 0, .bool false], .bool true]) ∧ Below w.heap.size w w' := by
  obtain ⟨hz, hi⟩ := zero_of_info info_forms
  have HI := Lib.hid hi
  clear hi
  go_enter Tryz.func55, Tryz.ntmps55
  go_wp2_with (first
    | (go_at_call 83; refine (forms_any _).mono ?_; rintro e w1 ⟨rfl, h1⟩)
    | (refine wpList_store_intoT rfl faT (.tmp 4) (.tmp 5) rfl w1.heap.size formsA rfl rfl faT forms0 (World.alloc_heap_new _ _) size_forms (by rw [formsA_size, forms0_size]) formsA_one ?_; intro W1 g1 g2 g3; obtain ⟨q0, q1, q2, q3⟩ := form_cells_4 g1; obtain ⟨r0, r1, r2, r3, HR⟩ := form_res h1 g2 g3; obtain ⟨e0, e1, e2, e3⟩ := box4T HR.out.1))
  obtain ⟨z1, z2, z3⟩ := set4P (N := w.heap.size) HR.out.1 (Nat.le_refl _) rfl
  refine bodyPost_ret (v := .tuple #[.agg #[sV tSec, fN, intV 0, .bool false], .bool true]) ?_ rfl ⟨rfl, HR.out.2.trans z3⟩
  obtain ⟨y0, y1, y2, y3⟩ := heap4P z1
  simp [results, Tryz.f55, go_sem, y0, y1, y2, y3]
set_option maxHeartbeats 2000000 in
theorem formOf_5 (w : World) :
    Calls Tryz.prog 55 #[intV 5] w fun e w' => e = .returned (.tuple #[.agg #[sV tV, .nilFunc, intV 0, .bool false], .bool true]) ∧ Below w.heap.size w w' := by
  obtain ⟨hz, hi⟩ := zero_of_info info_forms
  have HI := Lib.hid hi
  clear hi
  go_enter Tryz.func55, Tryz.ntmps55
  go_wp2_with (first
    | (go_at_call 83; refine (forms_any _).mono ?_; rintro e w1 ⟨rfl, h1⟩)
    | (refine wpList_store_intoT rfl faT (.tmp 4) (.tmp 5) rfl w1.heap.size formsA rfl rfl faT forms0 (World.alloc_heap_new _ _) size_forms (by rw [formsA_size, forms0_size]) formsA_one ?_; intro W1 g1 g2 g3; obtain ⟨q0, q1, q2, q3⟩ := form_cells_5 g1; obtain ⟨r0, r1, r2, r3, HR⟩ := form_res h1 g2 g3; obtain ⟨e0, e1, e2, e3⟩ := box4T HR.out.1))
  obtain ⟨z1, z2, z3⟩ := set4P (N := w.heap.size) HR.out.1 (Nat.le_refl _) rfl
  refine bodyPost_ret (v := .tuple #[.agg #[sV tV, .nilFunc, intV 0, .bool false], .bool true]) ?_ rfl ⟨rfl, HR.out.2.trans z3⟩
  obtain ⟨y0, y1, y2, y3⟩ := heap4P z1
  simp [results, Tryz.f55, go_sem, y0, y1, y2, y3]
set_option maxHeartbeats 2000000 in
theorem formOf_6 (w : World) :
    Calls Tryz.prog 55 #[intV 6] w fun e w' => e = .returned (.tuple #[.agg #[sV tGap, .nilFunc, intV 64, .bool false], .bool true]) ∧ Below w.heap.size w w' := by
  obtain ⟨hz, hi⟩ := zero_of_info info_forms
  have HI := Lib.hid hi
  clear hi
  go_enter Tryz.func55, Tryz.ntmps55
  go_wp2_with (first
    | (go_at_call 83; refine (forms_any _).mono ?_; rintro e w1 ⟨rfl, h1⟩)
    | (refine wpList_store_intoT rfl faT (.tmp 4) (.tmp 5) rfl w1.heap.size formsA rfl rfl faT forms0 (World.alloc_heap_new _ _) size_forms (by rw [formsA_size, forms0_size]) formsA_one ?_; intro W1 g1 g2 g3; obtain ⟨q0, q1, q2, q3⟩ := form_cells_6 g1; obtain ⟨r0, r1, r2, r3, HR⟩ := form_res h1 g2 g3; obtain ⟨e0, e1, e2, e3⟩ := box4T HR.out.1))
  obtain ⟨z1, z2, z3⟩ := set4P (N := w.heap.size) HR.out.1 (Nat.le_refl _) rfl
  refine bodyPost_ret (v := .tuple #[.agg #[sV tGap, .nilFunc, intV 64, .bool false], .bool true]) ?_ rfl ⟨rfl, HR.out.2.trans z3⟩
  obtain ⟨y0, y1, y2, y3⟩ := heap4P z1
  simp [results, Tryz.f55, go_sem, y0, y1, y2, y3]
set_option maxHeartbeats 2000000 in
theorem formOf_7 (w : World) :
    Calls Tryz.prog 55 #[intV 7] w fun e w' => e = .returned (.tuple #[.agg #[sV tUn, .nilFunc, intV 0, .bool true], .bool true]) ∧ Below w.heap.size w w' := by
  obtain ⟨hz, hi⟩ := zero_of_info info_forms
  have HI := Lib.hid hi
  clear hi
  go_enter Tryz.func55, Tryz.ntmps55
  go_wp2_with (first
    | (go_at_call 83; refine (forms_any _).mono ?_; rintro e w1 ⟨rfl, h1⟩)
    | (refine wpList_store_intoT rfl faT (.tmp 4) (.tmp 5) rfl w1.heap.size formsA rfl rfl faT forms0 (World.alloc_heap_new _ _) size_forms (by rw [formsA_size, forms0_size]) formsA_one ?_; intro W1 g1 g2 g3; obtain ⟨q0, q1, q2, q3⟩ := form_cells_7 g1; obtain ⟨r0, r1, r2, r3, HR⟩ := form_res h1 g2 g3; obtain ⟨e0, e1, e2, e3⟩ := box4T HR.out.1))
  obtain ⟨z1, z2, z3⟩ := set4P (N := w.heap.size) HR.out.1 (Nat.le_refl _) rfl
  refine bodyPost_ret (v := .tuple #[.agg #[sV tUn, .nilFunc, intV 0, .bool true], .bool true]) ?_ rfl ⟨rfl, HR.out.2.trans z3⟩
  obtain ⟨y0, y1, y2, y3⟩ := heap4P z1
  simp [results, Tryz.f55, go_sem, y0, y1, y2, y3]
set_option maxHeartbeats 2000000 in
theorem formOf_8 (w : World) :
    Calls Tryz.prog 55 #[intV 8] w fun e w' => e = .returned (.tuple #[.agg #[sV tAdd, .nilFunc, intV 8, .bool true], .bool true]) ∧ Below w.heap.size w w' := by
  obtain ⟨hz, hi⟩ := zero_of_info info_forms
  have HI := Lib.hid hi
  clear hi
  go_enter Tryz.func55, Tryz.ntmps55
  go_wp2_with (first
    | (go_at_call 83; refine (forms_any _).mono ?_; rintro e w1 ⟨rfl, h1⟩)
    | (refine wpList_store_intoT rfl faT (.tmp 4) (.tmp 5) rfl w1.heap.size formsA rfl rfl faT forms0 (World.alloc_heap_new _ _) size_forms (by rw [formsA_size, forms0_size]) formsA_one ?_; intro W1 g1 g2 g3; obtain ⟨q0, q1, q2, q3⟩ := form_cells_8 g1; obtain ⟨r0, r1, r2, r3, HR⟩ := form_res h1 g2 g3; obtain ⟨e0, e1, e2, e3⟩ := box4T HR.out.1))
  obtain ⟨z1, z2, z3⟩ := set4P (N := w.heap.size) HR.out.1 (Nat.le_refl _) rfl
  refine bodyPost_ret (v := .tuple #[.agg #[sV tAdd, .nilFunc, intV 8, .bool true], .bool true]) ?_ rfl ⟨rfl, HR.out.2.trans z3⟩
  obtain ⟨y0, y1, y2, y3⟩ := heap4P z1
  simp [results, Tryz.f55, go_sem, y0, y1, y2, y3]
set_option maxHeartbeats 2000000 in
theorem formOf_9 (w : World) :
    Calls Tryz.prog 55 #[intV 9] w fun e w' => e = .returned (.tuple #[.agg #[sV tDel, .nilFunc, intV 8, .bool true], .bool true]) ∧ Below w.heap.size w w' := by
  obtain ⟨hz, hi⟩ := zero_of_info info_forms
  have HI := Lib.hid hi
  clear hi
  go_enter Tryz.func55, Tryz.ntmps55
  go_wp2_with (first
    | (go_at_call 83; refine (forms_any _).mono ?_; rintro e w1 ⟨rfl, h1⟩)
    | (refine wpList_store_intoT rfl faT (.tmp 4) (.tmp 5) rfl w1.heap.size formsA rfl rfl faT forms0 (World.alloc_heap_new _ _) size_forms (by rw [formsA_size, forms0_size]) formsA_one ?_; intro W1 g1 g2 g3; obtain ⟨q0, q1, q2, q3⟩ := form_cells_9 g1; obtain ⟨r0, r1, r2, r3, HR⟩ := form_res h1 g2 g3; obtain ⟨e0, e1, e2, e3⟩ := box4T HR.out.1))
  obtain ⟨z1, z2, z3⟩ := set4P (N := w.heap.size) HR.out.1 (Nat.le_refl _) rfl
  refine bodyPost_ret (v := .tuple #[.agg #[sV tDel, .nilFunc, intV 8, .bool true], .bool true]) ?_ rfl ⟨rfl, HR.out.2.trans z3⟩
  obtain ⟨y0, y1, y2, y3⟩ := heap4P z1
  simp [results, Tryz.f55, go_sem, y0, y1, y2, y3]
set_option maxHeartbeats 2000000 in
theorem formOf_10 (w : World) :
    Calls Tryz.prog 55 #[intV 10] w fun e w' => e = .returned (.tuple #[.agg #[sV tAb, fW, intV 0, .bool true], .bool true]) ∧ Below w.heap.size w w' := by
  obtain ⟨hz, hi⟩ := zero_of_info info_forms
  have HI := Lib.hid hi
  clear hi
  go_enter Tryz.func55, Tryz.ntmps55
  go_wp2_with (first
    | (go_at_call 83; refine (forms_any _).mono ?_; rintro e w1 ⟨rfl, h1⟩)
    | (refine wpList_store_intoT rfl faT (.tmp 4) (.tmp 5) rfl w1.heap.size formsA rfl rfl faT forms0 (World.alloc_heap_new _ _) size_forms (by rw [formsA_size, forms0_size]) formsA_one ?_; intro W1 g1 g2 g3; obtain ⟨q0, q1, q2, q3⟩ := form_cells_10 g1; obtain ⟨r0, r1, r2, r3, HR⟩ := form_res h1 g2 g3; obtain ⟨e0, e1, e2, e3⟩ := box4T HR.out.1))
  obtain ⟨z1, z2, z3⟩ := set4P (N := w.heap.size) HR.out.1 (Nat.le_refl _) rfl
  refine bodyPost_ret (v := .tuple #[.agg #[sV tAb, fW, intV 0, .bool true], .bool true]) ?_ rfl ⟨rfl, HR.out.2.trans z3⟩
  obtain ⟨y0, y1, y2, y3⟩ := heap4P z1
  simp [results, Tryz.f55, go_sem, y0, y1, y2, y3]
set_option maxHeartbeats 2000000 in
theorem formOf_11 (w : World) :
    Calls Tryz.prog 55 #[intV 11] w fun e w' => e = .returned (.tuple #[.agg #[sV tName, fN, intV 0, .bool true], .bool true]) ∧ Below w.heap.size w w' := by
  obtain ⟨hz, hi⟩ := zero_of_info info_forms
  have HI := Lib.hid hi
  clear hi
  go_enter Tryz.func55, Tryz.ntmps55
  go_wp2_with (first
    | (go_at_call 83; refine (forms_any _).mono ?_; rintro e w1 ⟨rfl, h1⟩)
    | (refine wpList_store_intoT rfl faT (.tmp 4) (.tmp 5) rfl w1.heap.size formsA rfl rfl faT forms0 (World.alloc_heap_new _ _) size_forms (by rw [formsA_size, forms0_size]) formsA_one ?_; intro W1 g1 g2 g3; obtain ⟨q0, q1, q2, q3⟩ := form_cells_11 g1; obtain ⟨r0, r1, r2, r3, HR⟩ := form_res h1 g2 g3; obtain ⟨e0, e1, e2, e3⟩ := box4T HR.out.1))
  obtain ⟨z1, z2, z3⟩ := set4P (N := w.heap.size) HR.out.1 (Nat.le_refl _) rfl
  refine bodyPost_ret (v := .tuple #[.agg #[sV tName, fN, intV 0, .bool true], .bool true]) ?_ rfl ⟨rfl, HR.out.2.trans z3⟩
  obtain ⟨y0, y1, y2, y3⟩ := heap4P z1
  simp [results, Tryz.f55, go_sem, y0, y1, y2, y3]
set_option maxHeartbeats 2000000 in
theorem formOf_lo (k : Int) (h1 : decide (k < 1) = true) (w : World) :
    Calls Tryz.prog 55 #[intV k] w fun e w' => e = .returned (.tuple #[fm0V, .bool false]) ∧ Below w.heap.size w w' := by
  obtain ⟨hz, hi⟩ := zero_of_info info_forms
  have HI := Lib.hid hi
  clear hi
  go_enter Tryz.func55, Tryz.ntmps55
  go_wp2_with (first
    | (go_at_call 83; refine (forms_any _).mono ?_; rintro e w1 ⟨rfl, h1⟩)
    | (refine wpList_store_intoT rfl faT (.tmp 4) (.tmp 5) rfl w1.heap.size formsA rfl rfl faT forms0 (World.alloc_heap_new _ _) size_forms (by rw [formsA_size, forms0_size]) formsA_one ?_; intro W1 g1 g2 g3; obtain ⟨r0, r1, r2, r3, HR⟩ := form_res h1 g2 g3; obtain ⟨e0, e1, e2, e3⟩ := box4T HR.out.1))
  obtain ⟨z1, z2, z3⟩ := set4P (N := w.heap.size) HR.out.1 (Nat.le_refl _) rfl
  refine bodyPost_ret (v := .tuple #[fm0V, .bool false]) ?_ rfl ⟨rfl, HR.out.2.trans z3⟩
  obtain ⟨y0, y1, y2, y3⟩ := heap4P z1
  simp [results, Tryz.f55, go_sem, y0, y1, y2, y3]
set_option maxHeartbeats 2000000 in
theorem formOf_hi (k : Int) (h0 : decide (k < 1) = false) (h12 : decide (12 ≤ k) = true) (w : World) :
    Calls Tryz.prog 55 #[intV k] w fun e w' => e = .returned (.tuple #[fm0V, .bool false]) ∧ Below w.heap.size w w' := by
  obtain ⟨hz, hi⟩ := zero_of_info info_forms
  have HI := Lib.hid hi
  clear hi
  go_enter Tryz.func55, Tryz.ntmps55
  go_wp2_with (first
    | (go_at_call 83; refine (forms_any _).mono ?_; rintro e w1 ⟨rfl, h1⟩)
    | (refine wpList_store_intoT rfl faT (.tmp 4) (.tmp 5) rfl w1.heap.size formsA rfl rfl faT forms0 (World.alloc_heap_new _ _) size_forms (by rw [formsA_size, forms0_size]) formsA_one ?_; intro W1 g1 g2 g3; obtain ⟨r0, r1, r2, r3, HR⟩ := form_res h1 g2 g3; obtain ⟨e0, e1, e2, e3⟩ := box4T HR.out.1))
  obtain ⟨z1, z2, z3⟩ := set4P (N := w.heap.size) HR.out.1 (Nat.le_refl _) rfl
  refine bodyPost_ret (v := .tuple #[fm0V, .bool false]) ?_ rfl ⟨rfl, HR.out.2.trans z3⟩
  obtain ⟨y0, y1, y2, y3⟩ := heap4P z1
  simp [results, Tryz.f55, go_sem, y0, y1, y2, y3]
def fmOf (k : Int) : Value := .agg #[sV (tgK k.toNat), fnK k.toNat, intV (mxK k.toNat), .bool (ptK k.toNat)]
theorem formOf_any (k : Int) (h1 : 1 ≤ k) (h11 : k ≤ 11) (w : World) :
    Calls Tryz.prog 55 #[intV k] w fun e w' => e = .returned (.tuple #[fmOf k, .bool true]) ∧ Below w.heap.size w w' := by
  have hk : k = 1 ∨ k = 2 ∨ k = 3 ∨ k = 4 ∨ k = 5 ∨ k = 6 ∨ k = 7 ∨ k = 8 ∨ k = 9 ∨ k = 10 ∨ k = 11 := by omega
  rcases hk with rfl | rfl | rfl | rfl | rfl | rfl | rfl | rfl | rfl | rfl | rfl
  · exact formOf_1 w
  · exact formOf_2 w
  · exact formOf_3 w
  · exact formOf_4 w
  · exact formOf_5 w
  · exact formOf_6 w
  · exact formOf_7 w
  · exact formOf_8 w
  · exact formOf_9 w
  · exact formOf_10 w
  · exact formOf_11 w
theorem formOf_none (k : Int) (h : k < 1 ∨ 11 < k) (w : World) :
    Calls Tryz.prog 55 #[intV k] w fun e w' => e = .returned (.tuple #[fm0V, .bool false]) ∧ Below w.heap.size w w' := by
  by_cases h1 : k < 1
  · exact formOf_lo k (decide_eq_true h1) w
  · exact formOf_hi k (decide_eq_false h1) (decide_eq_true (by omega)) w
end Go.Proofs.YtmfcepfagbkceaaGreatDoor
namespace Go.Proofs.YtmfcepfagbkceaaGreatDoor
set_option linter.unusedSimpArgs false
set_option linter.unusedVariables false
set_option maxRecDepth 100000
open Go.RowKit Go.Shelf Go.Deep
theorem emptyT_str (t : Bs) : (baL t).toList.isEmpty = decide (t = []) := emptyL t
theorem data_baL (t : Bs) : (baL t).data.toList = t := rfl
def txE (k : Int) (t : Bs) : Int := if k = 1 then (if t = [] then 5 else if chk t ≠ 0 then 11 else 0) else if k = 10 then (if wordB t then 0 else 14) else (if nameB t then 0 else 14)
set_option maxHeartbeats 1000000 in
theorem checkC_any (t : Bs) (ht : t.length ≤ maxLen) (r : Int) (hr : (if t = [] then 5 else if chk t ≠ 0 then 11 else 0) = r) (w : World) :
    Calls Tryz.prog 105 #[sV t] w fun e w' => e = .returned (intV r) ∧ Below w.heap.size w w' := by
  have HC := Lib.hid (fun W => Go.Proofs.YtmfcepfagbkceaaGreatDoor.C01.check_any (baL t) (by rw [baL_size]; exact ht) W)
  rw [data_baL] at HC
  obtain ⟨c, hc⟩ : ∃ c, chk t = c := ⟨_, rfl⟩
  rw [hc] at hr HC
  have hx := toL t
  by_cases h0 : t = []
  · rw [if_pos h0] at hr
    have q0 : (t == ([] : Bs)) = true := by simp [h0]
    have q1 : t.isEmpty = true := by simp [h0]
    have HZ := Lib.hid hr
    clear h0 hr hc
    go_enter Tryz.func105, Tryz.ntmps105
    go_wp2
    go_ret
    exact ⟨by rw [← HZ.out]; rfl, Below.refl _ _⟩
  · rw [if_neg h0] at hr
    have q0 : (t == ([] : Bs)) = false := by simpa using h0
    have q1 : t.isEmpty = false := by cases t; exact absurd rfl h0; rfl
    have HZ := Lib.hid hr
    clear h0 hr hc
    by_cases hc0 : c = 0
    · have q2 : (c == 0) = true := by simp [hc0]
      have q3 : (c != 0) = false := by simp [hc0]
      have HE := Lib.hid (show r = 0 by rw [← HZ.out, if_neg (by simp [hc0])])
      clear hc0
      go_enter Tryz.func105, Tryz.ntmps105
      go_wp2_with fail
      refine (HC.out _).mono ?_
      rintro e' w1 ⟨rfl, h1⟩
      have H1 := Lib.hid h1
      clear h1
      go_wp2
      go_ret
      exact ⟨by rw [HE.out]; rfl, H1.out⟩
    · have q2 : (c == 0) = false := by simpa using hc0
      have q3 : (c != 0) = true := by simpa using hc0
      have HE := Lib.hid (show r = 11 by rw [← HZ.out, if_pos hc0])
      clear hc0
      go_enter Tryz.func105, Tryz.ntmps105
      go_wp2_with fail
      refine (HC.out _).mono ?_
      rintro e' w1 ⟨rfl, h1⟩
      have H1 := Lib.hid h1
      clear h1
      go_wp2
      go_ret
      exact ⟨by rw [HE.out]; rfl, H1.out⟩
theorem checkN_any (t : Bs) (ht : t.length ≤ maxLen) (r : Int) (hr : (if nameB t then (0 : Int) else 14) = r) (w : World) :
    Calls Tryz.prog 106 #[sV t] w fun e w' => e = .returned (intV r) ∧ Below w.heap.size w w' := by
  have HC := Lib.hid (fun W => Go.Proofs.YtmfcepfagbkceaaGreatDoor.C01.name_any (baL t) (by rw [baL_size]; exact ht) W)
  rw [data_baL] at HC
  obtain ⟨c, hc⟩ : ∃ c, nameB t = c := ⟨_, rfl⟩
  rw [hc] at hr HC
  clear hc
  cases c
  all_goals
    have HZ := Lib.hid hr
    clear hr
    go_enter Tryz.func106, Tryz.ntmps106
    go_wp2_with fail
    refine (HC.out _).mono ?_
    rintro e' w1 ⟨rfl, rfl⟩
    go_wp2
    go_ret
    exact ⟨by rw [← HZ.out]; rfl, Below.refl _ _⟩
theorem checkW_any (t : Bs) (ht : t.length ≤ maxLen) (r : Int) (hr : (if wordB t then (0 : Int) else 14) = r) (w : World) :
    Calls Tryz.prog 107 #[sV t] w fun e w' => e = .returned (intV r) ∧ Below w.heap.size w w' := by
  have HC := Lib.hid (fun W => Go.Proofs.YtmfcepfagbkceaaGreatDoor.C01.word_any (baL t) W)
  rw [data_baL] at HC
  obtain ⟨c, hc⟩ : ∃ c, wordB t = c := ⟨_, rfl⟩
  rw [hc] at hr HC
  clear hc
  cases c
  all_goals
    have HZ := Lib.hid hr
    clear hr
    go_enter Tryz.func107, Tryz.ntmps107
    go_wp2_with fail
    refine (HC.out _).mono ?_
    rintro e' w1 ⟨rfl, h1⟩
    have H1 := Lib.hid h1
    clear h1
    go_wp2
    go_ret
    exact ⟨by rw [← HZ.out]; rfl, H1.out⟩
end Go.Proofs.YtmfcepfagbkceaaGreatDoor
