/- Stage 10 (transcript): TpAlone, put together by merge10.py. -/
import Derived.Test.YtmfcepfagbkceaaGreatDoorOl
namespace Go.Proofs.YtmfcepfagbkceaaGreatDoor
set_option linter.unusedSimpArgs false
set_option linter.unusedVariables false
set_option maxRecDepth 100000
open Go.RowKit Go.Shelf Go.Deep
abbrev fT : TypeId := 79
theorem eqInNN (d : Nat) (W : World) : (Op.equalIn (d + 1) fT .nilFunc .nilFunc).run Tryz.prog W = .ok true W := by
  simp [Op.equalIn, run_underlying Tryz.underlying79]
theorem eqNN (W : World) : (Op.equal fT .nilFunc .nilFunc).run Tryz.prog W = .ok true W := eqInNN 9999 W
theorem eqInFN (d : Nat) (F : FuncId) (W : World) : (Op.equalIn (d + 1) fT (.func (.func F) #[] #[]) .nilFunc).run Tryz.prog W = .ok false W := by
  simp [Op.equalIn, run_underlying Tryz.underlying79]
theorem eqFN (F : FuncId) (W : World) : (Op.equal fT (.func (.func F) #[] #[]) .nilFunc).run Tryz.prog W = .ok false W := eqInFN 9999 F W
theorem neqNN (W : World) : Sem.run Tryz.prog (binOp BinOp.neq fT .nilFunc .nilFunc) W = .ok (.bool false) W := by
  simp only [binOp]; simp [eqNN]
theorem eqlNN (W : World) : Sem.run Tryz.prog (binOp BinOp.eql fT .nilFunc .nilFunc) W = .ok (.bool true) W := by
  simp only [binOp]; simp [eqNN]
theorem neqFN (F : FuncId) (W : World) : Sem.run Tryz.prog (binOp BinOp.neq fT (.func (.func F) #[] #[]) .nilFunc) W = .ok (.bool true) W := by
  simp only [binOp]; simp [eqFN]
theorem eqlFN (F : FuncId) (W : World) : Sem.run Tryz.prog (binOp BinOp.eql fT (.func (.func F) #[] #[]) .nilFunc) W = .ok (.bool false) W := by
  simp only [binOp]; simp [eqFN]
def alF (fnil tb nb mz pb pt mg lo hi ez : Bool) (e : Int) : Int := if (!tb && fnil) || ((!nb && mz) || (pb && !pt)) then 8 else if pt && !pb then 5 else if !fnil && !ez then e else if mg && (lo || hi) then 2 else 0
theorem below_quietT {w w1 : World} {N m : Nat} (h : Below N w w1) : Below N w (w1.drewN m) := h.trans (below_drewN_n _ _ _)
theorem alone_kept {W2 w3 : World} {nq B F : Nat} {v x : Value} (h : Below (W2.drewN nq).heap.size (W2.drewN nq) w3) (p : W2.cell? ⟨B, 2, none⟩ = some v) (f : W2.cell? ⟨F, 2, none⟩ = some x) : w3.cell? ⟨B, 2, none⟩ = some v ∧ w3.cell? ⟨F, 2, none⟩ = some x :=
  ⟨(h.cell (p := ⟨B, 2, none⟩) (cellT_lt p)).trans p, (h.cell (p := ⟨F, 2, none⟩) (cellT_lt f)).trans f⟩
theorem ret_intT {a b : Int} (h : a = b) : Ending.returned (intV a) = .returned (intV b) := by rw [h]
set_option maxHeartbeats 4000000 in
theorem alone_nil (k : Int) (t : Bs) (n : Int) (a : Option Addr) (m c : Nat) (tg : Bs) (mx : Int) (tb nb mz pb pt mg lo hi : Bool)
    (htb : (t == ([] : Bs)) = tb) (hnb : (n == 0) = nb) (hmz : (mx == 0) = mz) (hpb : decide ((0 : Int) < (m : Int)) = pb) (hmg : decide (0 < mx) = mg) (hlo : decide (n < 1) = lo) (hhi : decide (mx < n) = hi)
    (r : Int) (hr : alF true tb nb mz pb pt mg lo hi true 0 = r) (w : World)
    (hf : ∀ W, Calls Tryz.prog 55 #[intV k] W fun e w' => e = .returned (.tuple #[.agg #[sV tg, .nilFunc, intV mx, .bool pt], .bool true]) ∧ Below W.heap.size W w') :
    Calls Tryz.prog 58 #[.agg #[intV k, sV t, intV n, .slice a m c]] w fun e w' => e = .returned (intV r) ∧ Below w.heap.size w w' := by
  have HF := Lib.hid hf
  have HR := Lib.hid hr
  have hx := toL t
  have hnm : (n != 0) = !nb := by rw [← hnb]; rfl
  have hte : t.isEmpty = tb := by rw [← htb]; cases t <;> rfl
  have hpb2 : decide (0 < m) = pb := by rw [← hpb]; exact decide_eq_decide.2 (by omega)
  have hq1 := neqNN
  have hq2 := eqlNN
  clear hf hr
  go_enter Tryz.func58, Tryz.ntmps58
  go_wp2_with fail
  refine (HF.out _).mono ?_
  rintro e' w1 ⟨rfl, h1⟩
  have hbx := (h1.block w.heap.size (by simp)).trans (World.alloc_heap_new w (.cells #[intV k, sV t, intV n, .slice a m c] nT (0, 0)))
  have HB1 := Lib.hid (Below.trans ((Below.refl w.heap.size w).alloc (Nat.le_refl _) _) (h1.mono (by simp)))
  have hlt := heap_ltT hbx
  have HS1 := Lib.hid (show w.heap.size < w1.heap.size from hlt)
  clear h1
  obtain ⟨W2, hW2⟩ : ∃ X, w1.alloc (.cells #[sV tg, .nilFunc, intV mx, .bool pt] fmT (0, 0)) = X := ⟨_, rfl⟩
  have hb2 := (by rw [← hW2]; exact (Below.heap_alloc _ _ _ hlt).trans hbx : W2.heap[w.heap.size]? = some (.cells #[intV k, sV t, intV n, .slice a m c] nT (0, 0)))
  have hf2 := (by rw [← hW2]; exact World.alloc_heap_new _ _ : W2.heap[w1.heap.size]? = some (.cells #[sV tg, .nilFunc, intV mx, .bool pt] fmT (0, 0)))
  have HB2 := Lib.hid (show Below w.heap.size w W2 by rw [← hW2]; exact HB1.out.alloc (by omega) _)
  obtain ⟨p0, p1, p2, p3⟩ := box4T hb2
  obtain ⟨f0, f1, f2, f3⟩ := box4T hf2
  have HW := Lib.hid hW2
  clear hbx hlt hb2 hf2 hW2
  go_upto_region 2 with fail
  rw [HW.out]
  go_wp2_with fail
  go_quiet (fail)
  have ways : (pb = true ∧ 0 < m) ∨ (pb = false ∧ ¬ 0 < m) := by
    cases hp : pb
    · rw [hp] at hpb; exact .inr ⟨rfl, by have := of_decide_eq_false hpb; omega⟩
    · rw [hp] at hpb; exact .inl ⟨rfl, by have := of_decide_eq_true hpb; omega⟩
  cases tb <;> cases nb <;> cases mz <;> (rcases ways with ⟨rfl, hm⟩ | ⟨rfl, hm⟩) <;> cases pt
  all_goals first
    | (go_wp2; go_ret; exact ⟨ret_intT (by rw [← HR.out]; rfl), below_quietT HB2.out⟩)
    | (cases mg
       · go_wp2; go_ret; exact ⟨ret_intT (by rw [← HR.out]; rfl), below_quietT HB2.out⟩
       · cases lo <;> cases hi <;> (go_wp2; go_ret; exact ⟨ret_intT (by rw [← HR.out]; rfl), below_quietT HB2.out⟩))
set_option maxHeartbeats 4000000 in
theorem alone_fn (k : Int) (t : Bs) (n : Int) (a : Option Addr) (m c : Nat) (tg : Bs) (F : FuncId) (e : Int) (mx : Int) (tb nb mz pb pt mg lo hi : Bool)
    (htb : (t == ([] : Bs)) = tb) (hnb : (n == 0) = nb) (hmz : (mx == 0) = mz) (hpb : decide ((0 : Int) < (m : Int)) = pb) (hmg : decide (0 < mx) = mg) (hlo : decide (n < 1) = lo) (hhi : decide (mx < n) = hi)
    (r : Int) (ez : Bool) (hez : (e == 0) = ez) (hr : alF false tb nb mz pb pt mg lo hi ez e = r) (w : World)
    (hf : ∀ W, Calls Tryz.prog 55 #[intV k] W fun e w' => e = .returned (.tuple #[.agg #[sV tg, .func (.func F) #[] #[], intV mx, .bool pt], .bool true]) ∧ Below W.heap.size W w')
    (hfe : ∀ args W, (callFunc F args).run Tryz.prog W = .ok (.enter F args) W) (hfc : ∀ W, Calls Tryz.prog F #[sV t] W fun e' w' => e' = .returned (intV e) ∧ Below W.heap.size W w') :
    Calls Tryz.prog 58 #[.agg #[intV k, sV t, intV n, .slice a m c]] w fun e w' => e = .returned (intV r) ∧ Below w.heap.size w w' := by
  have HF := Lib.hid hf
  have HFC := Lib.hid hfc
  have hne : (e != 0) = !ez := by rw [← hez]; rfl
  have HR := Lib.hid hr
  have hx := toL t
  have hnm : (n != 0) = !nb := by rw [← hnb]; rfl
  have hte : t.isEmpty = tb := by rw [← htb]; cases t <;> rfl
  have hpb2 : decide (0 < m) = pb := by rw [← hpb]; exact decide_eq_decide.2 (by omega)
  have hq1 := neqFN F
  have hq2 := eqlFN F
  clear hf hr hfc
  go_enter Tryz.func58, Tryz.ntmps58
  go_wp2_with fail
  refine (HF.out _).mono ?_
  rintro e' w1 ⟨rfl, h1⟩
  have hbx := (h1.block w.heap.size (by simp)).trans (World.alloc_heap_new w (.cells #[intV k, sV t, intV n, .slice a m c] nT (0, 0)))
  have HB1 := Lib.hid (Below.trans ((Below.refl w.heap.size w).alloc (Nat.le_refl _) _) (h1.mono (by simp)))
  have hlt := heap_ltT hbx
  have HS1 := Lib.hid (show w.heap.size < w1.heap.size from hlt)
  clear h1
  obtain ⟨W2, hW2⟩ : ∃ X, w1.alloc (.cells #[sV tg, .func (.func F) #[] #[], intV mx, .bool pt] fmT (0, 0)) = X := ⟨_, rfl⟩
  have hb2 := (by rw [← hW2]; exact (Below.heap_alloc _ _ _ hlt).trans hbx : W2.heap[w.heap.size]? = some (.cells #[intV k, sV t, intV n, .slice a m c] nT (0, 0)))
  have hf2 := (by rw [← hW2]; exact World.alloc_heap_new _ _ : W2.heap[w1.heap.size]? = some (.cells #[sV tg, .func (.func F) #[] #[], intV mx, .bool pt] fmT (0, 0)))
  have HB2 := Lib.hid (show Below w.heap.size w W2 by rw [← hW2]; exact HB1.out.alloc (by omega) _)
  obtain ⟨p0, p1, p2, p3⟩ := box4T hb2
  obtain ⟨f0, f1, f2, f3⟩ := box4T hf2
  have HW := Lib.hid hW2
  clear hbx hlt hb2 hf2 hW2
  go_upto_region 2 with fail
  rw [HW.out]
  go_wp2_with fail
  go_quiet (fail)
  have ways : (pb = true ∧ 0 < m) ∨ (pb = false ∧ ¬ 0 < m) := by
    cases hp : pb
    · rw [hp] at hpb; exact .inr ⟨rfl, by have := of_decide_eq_false hpb; omega⟩
    · rw [hp] at hpb; exact .inl ⟨rfl, by have := of_decide_eq_true hpb; omega⟩
  cases tb <;> cases nb <;> cases mz <;> (rcases ways with ⟨rfl, hm⟩ | ⟨rfl, hm⟩) <;> cases pt
  all_goals first
    | (go_wp2; go_ret; exact ⟨ret_intT (by rw [← HR.out]; rfl), below_quietT HB2.out⟩)
    | (go_wp2_with fail
       refine (HFC.out _).mono ?_
       rintro e' w3 ⟨rfl, h3⟩
       have HB3 := Lib.hid (below_then (below_quietT HB2.out) h3)
       obtain ⟨u2, u3⟩ := alone_kept h3 p2 f2
       clear h3 p0 p1 p2 p3 f0 f1 f2 f3
       cases ez
       · go_wp2; go_ret; exact ⟨ret_intT (by rw [← HR.out]; rfl), HB3.out⟩
       · cases mg
         · go_wp2; go_ret; exact ⟨ret_intT (by rw [← HR.out]; rfl), HB3.out⟩
         · cases lo <;> cases hi <;> (go_wp2; go_ret; exact ⟨ret_intT (by rw [← HR.out]; rfl), HB3.out⟩))
end Go.Proofs.YtmfcepfagbkceaaGreatDoor
