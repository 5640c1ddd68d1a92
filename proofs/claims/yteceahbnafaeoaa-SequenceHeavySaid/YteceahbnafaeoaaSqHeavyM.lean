/- Two rows of one's own, one of them in a box: for SequenceHeavy. -/
import Derived.Test.YteceahbnafaeoaaSqLongest
import Derived.Deep.AppendLies
import Derived.OneCell
namespace Go.Proofs.Yteceahbnafaeoaa
set_option linter.unusedSimpArgs false
set_option linter.unusedVariables false
set_option maxRecDepth 100000
open Go.RowKit Go.Deep

def U8At (W : World) (v : Value) (zs : List Int) : Prop :=
  ∃ a cap, v = .slice a zs.length cap ∧ (0 < zs.length → ∃ b off, a = some ⟨b, off, none⟩ ∧ b < W.heap.size ∧ ∀ j (h : j < zs.length), W.cell? ⟨b, off + j, none⟩ = some (.int .u8 zs[j]))
theorem U8At.slice {W : World} {v : Value} {zs : List Int} (h : U8At W v zs) : ∃ a cap, v = .slice a zs.length cap := by obtain ⟨a, c, rfl, _⟩ := h; exact ⟨a, c, rfl⟩
theorem U8At.elem {W : World} {a : Option Addr} {n cap : Nat} {zs : List Int} (h : U8At W (.slice a n cap) zs) {j : Nat} (hj : j < zs.length) :
    ∃ b off, a = some ⟨b, off, none⟩ ∧ b < W.heap.size ∧ W.cell? ⟨b, off + j, none⟩ = some (.int .u8 zs[j]) := by
  obtain ⟨a', c', e, hc⟩ := h
  cases e
  obtain ⟨b, off, rfl, hb, hcs⟩ := hc (by omega)
  exact ⟨b, off, rfl, hb, hcs j hj⟩
structure Two (W : World) (R : Nat) (v1 : Value) (x1 : List Int) (v2 : Value) (x2 : List Int) : Prop where
  box : W.cell? ⟨R, 0, none⟩ = some v1
  free : W.frozen? ⟨R, 0, none⟩ = false
  o1 : W.ownsRow (R + 1) 3 1 v1 x1.length (x1.map intV)
  o2 : W.ownsRow (R + 1) 3 1 v2 x2.length (x2.map intV)
  apart : ∀ g, v1.ownBlock = some g → v2.ownBlock ≠ some g
theorem frozen_block {W W' : World} {R : Nat} (h : W'.heap[R]? = W.heap[R]?) : W'.frozen? ⟨R, 0, none⟩ = W.frozen? ⟨R, 0, none⟩ := by
  unfold World.frozen?
  simp only
  rw [h]
theorem own_ne {W : World} {R : Nat} {v : Value} {n : Nat} {xs : List Value} (h : W.ownsRow (R + 1) 3 1 v n xs) : v.ownBlock ≠ some R := fun e => by
  have := (h.lt R e).1; omega
theorem Two.keep2 {W w1 : World} {R : Nat} {v1 v2 : Value} {x1 x2 : List Int} {ob : Obj} (h : Two W R v1 x1 v2 x2) (hg : (W.alloc ob).grownBy w1 v1.ownBlock) : w1.ownsRow (R + 1) 3 1 v2 x2.length (x2.map intV) := by
  refine World.ownsRow.kept (h.o2.alloc ob) hg ?_
  cases hv : v1.ownBlock with
  | none =>
    cases hv2 : v2.ownBlock with
    | none => exact Or.inl rfl
    | some g => exact Or.inr (by simp)
  | some g => exact Or.inr (h.apart g hv)
/-- both rows one longer, and the box anew -/
theorem Two.step {W A w1 A2 w2 : World} {R g1 g2 c1 c2 : Nat} {v1 v2 : Value} {x1 x2 : List Int} {p1 p2 : Int} {ob1 ob2 : Obj} (h : Two W R v1 x1 v2 x2)
    (hA : A = W.alloc ob1) (hg1 : A.grownBy w1 v1.ownBlock) (o1 : w1.ownsRow (R + 1) 3 1 (.slice (some ⟨g1, 0, none⟩) (x1.length + 1) c1) (x1.length + 1) (x1.map intV ++ [intV p1])) (k1 : v1.ownBlock = some g1 ∨ g1 = W.heap.size + 1) (l1 : g1 < w1.heap.size)
    (hA2 : A2 = w1.alloc ob2) (hg2 : A2.grownBy w2 v2.ownBlock) (o2 : w2.ownsRow (R + 1) 3 1 (.slice (some ⟨g2, 0, none⟩) (x2.length + 1) c2) (x2.length + 1) (x2.map intV ++ [intV p2])) (k2 : v2.ownBlock = some g2 ∨ g2 = w1.heap.size + 1) :
    w2.cell? ⟨R, 0, none⟩ = some v1 ∧ w2.frozen? ⟨R, 0, none⟩ = false ∧ Below R W w2 ∧ Two (w2.setCell ⟨R, 0, none⟩ (.slice (some ⟨g1, 0, none⟩) (x1.length + 1) c1)) R (.slice (some ⟨g1, 0, none⟩) (x1.length + 1) c1) (x1 ++ [p1]) (.slice (some ⟨g2, 0, none⟩) (x2.length + 1) c2) (x2 ++ [p2]) := by
  subst hA hA2
  have hR : R < W.heap.size := World.block_lt_of_cell? W ⟨R, 0, none⟩ h.box
  have sA : (W.alloc ob1).heap.size = W.heap.size + 1 := by simp
  have s1 := hg1.size
  rw [sA] at s1
  have hb1 : w1.heap[R]? = W.heap[R]? := (hg1.block R (by omega) (fun e => own_ne h.o1 e.symm)).trans (by rw [World.alloc]; simp [Array.getElem?_push, show ¬ R = W.heap.size by omega])
  have sA2 : (w1.alloc ob2).heap.size = w1.heap.size + 1 := by simp
  have s2 := hg2.size
  rw [sA2] at s2
  have hb2 : w2.heap[R]? = w1.heap[R]? := (hg2.block R (by omega) (fun e => own_ne h.o2 e.symm)).trans (by rw [World.alloc]; simp [Array.getElem?_push, show ¬ R = w1.heap.size by omega])
  have hbb := hb2.trans hb1
  have hBelow : Below R W w2 := by
    refine (((Below.refl R W).alloc (by omega) ob1).grown hg1 (by omega) (fun k e => ?_)).alloc (by omega) ob2 |>.grown hg2 (by omega) (fun k e => ?_)
    · have := (h.o1.lt k e).1; omega
    · have := (h.o2.lt k e).1; omega
  have hne12 : ∀ g, v2.ownBlock = some g → g ≠ g1 := fun g e e2 => by
    subst e2
    rcases k1 with k1 | k1
    · exact h.apart _ k1 e
    · have := (h.o2.lt _ e).2; omega
  have ho1 : w2.ownsRow (R + 1) 3 1 (.slice (some ⟨g1, 0, none⟩) (x1.length + 1) c1) (x1.length + 1) (x1.map intV ++ [intV p1]) :=
    World.ownsRow.kept (o1.alloc ob2) hg2 (Or.inr fun e => hne12 g1 e.symm rfl)
  have hg12 : g1 ≠ g2 := fun e => by
    subst e
    rcases k2 with k2 | k2
    · exact hne12 _ k2 rfl
    · omega
  have hcb : w2.cell? ⟨R, 0, none⟩ = some v1 := (World.cell?_of_block (a := ⟨R, 0, none⟩) hbb).trans h.box
  refine ⟨hcb, (frozen_block hbb).trans h.free, hBelow, ?_, ?_, ?_, ?_, ?_⟩
  · exact World.cell?_setCell_same w2 ⟨R, 0, none⟩ _ hcb
  · rw [World.frozen?_setCell]; exact (frozen_block hbb).trans h.free
  · have := ownsRow_setCell_below ho1 (a := ⟨R, 0, none⟩) (by simp) (.slice (some ⟨g1, 0, none⟩) (x1.length + 1) c1)
    simpa using this
  · have := ownsRow_setCell_below o2 (a := ⟨R, 0, none⟩) (by simp) (.slice (some ⟨g1, 0, none⟩) (x1.length + 1) c1)
    simpa using this
  · intro g e e2
    simp [Value.ownBlock] at e e2
    omega
theorem toW_len (ws : List Int) : (toW ws).length = ws.length := by simp [toW]
theorem sumW_take (ws c : List Int) (k : Nat) (hk : k < c.length) (q : Nat) (hq : c[k] = q) (hql : q < ws.length) (h0 : 0 ≤ ws[q]) : (sumW (toW ws) (c.take (k + 1)) : Int) = sumW (toW ws) (c.take k) + ws[q] := by
  rw [take_succ_int c k hk]
  unfold sumW
  rw [List.map_append, List.sum_append, List.map_singleton, List.sum_singleton, hq, Int.toNat_natCast]
  have : (toW ws).getD q 0 = ws[q].toNat := by
    rw [List.getD_eq_getElem?_getD]
    simp [toW, hql]
  rw [this]
  omega
set_option maxHeartbeats 4000000 in
/-- the closure that adds the weights -/
theorem sum_any (ws c : List Int) (r : Nat) (hr : sumW (toW ws) c = r) (hw : ∀ x ∈ ws, 0 ≤ x ∧ x ≤ 255) (hc : ∀ x ∈ c, inB ws x = true) (hcl : c.length ≤ 12) (hwl : ws.length ≤ 12) (R : Nat) (vw : Value) (v : Value) (W : World) (hb : W.cell? ⟨R, 0, none⟩ = some vw) (hvw : IntsAt W vw ws) (hv : IntsAt W v c) :
    Calls Try.prog 38 #[v, .pointer (some ⟨R, 0, none⟩)] W fun e w' => e = .returned (intV r) ∧ Below W.heap.size W w' := by
  have HV := Lib.hid hv
  have HW := Lib.hid hvw
  obtain ⟨a, cap, rfl⟩ := hv.slice
  obtain ⟨aw, cw, rfl⟩ := hvw.slice
  have HR := Lib.hid hr
  have hR : R < W.heap.size := World.block_lt_of_cell? W ⟨R, 0, none⟩ hb
  have HB0 := Lib.hid hb
  clear hv hvw hr hb
  go_enter Try.func38, Try.ntmps38
  go_wp2
  go_loopw [4, 9] (fun n i wr => ∃ k s : Nat, k ≤ c.length ∧ i = .int .i64 k ∧ n = .int .i64 s ∧ s = sumW (toW ws) (c.take k) ∧ s ≤ 255 * k ∧ Below W.heap.size W wr) (fun _ i _ => c.length - (intOf i).toNat)
  case atStart => exact ⟨0, 0, Nat.zero_le _, rfl, rfl, rfl, Nat.le_refl _, Below.refl _ _⟩
  case round =>
    obtain ⟨k, s, hk, rfl, rfl, hs, hsb, hB⟩ := hrel
    obtain ⟨wk, rfl⟩ : ∃ x, x = wr := ⟨_, rfl⟩
    have HB := Lib.hid hB
    have HS := Lib.hid hs
    have hbx := (hB.cell (p := ⟨R, 0, none⟩) hR).trans HB0.out
    by_cases hlt : k < c.length
    · obtain ⟨q, hq, hql⟩ := inB_nat (hc c[k] (List.getElem_mem hlt))
      obtain ⟨g, go, rfl, hgb, c1⟩ := HV.out.elem hlt
      obtain ⟨b, off, rfl, hbb, c2⟩ := HW.out.elem hql
      have d1 := (hB.cell (p := ⟨g, go + k, none⟩) hgb).trans c1
      have d2 := (hB.cell (p := ⟨b, off + q, none⟩) hbb).trans c2
      have hx := hw ws[q] (List.getElem_mem hql)
      have HT := Lib.hid (sumW_take ws c k hlt q hq hql hx.1)
      rw [hq] at d1
      obtain ⟨x, hxx⟩ : ∃ x, ws[q] = x := ⟨_, rfl⟩
      rw [hxx] at d2 hx HT
      obtain ⟨y, rfl⟩ : ∃ y : Nat, x = y := ⟨x.toNat, by omega⟩
      have hy : y ≤ 255 := by omega
      have t2 : decide (ws.length ≤ q) = false := decide_eq_false (by omega)
      have t3 : ¬ ws.length ≤ q := by omega
      clear hs hB hq c1 c2 hxx hx
      go_wp2
      go_roundw
      case rel => exact ⟨k + 1, s + y, by omega, by go_num, by go_num, by have := HT.out; have := HS.out; omega, by omega, HB.out⟩
      case measure => simp [intOf]; omega
    · obtain rfl : k = c.length := by omega
      clear hs hB
      go_wp2
      go_ret
      exact ⟨ret_int (by rw [HS.out, List.take_length, HR.out]), HB.out⟩
end Go.Proofs.Yteceahbnafaeoaa
