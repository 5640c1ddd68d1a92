/- The program of layer 9: tagOf, what a tag can have, checkTag. -/
import Derived.Test.YtdgihkgomfpmoaaGreatDoorMkPN
import Derived.Deep.Cut
import Derived.Laws.EntriesVeiled
namespace Go.Proofs.YtdgihkgomfpmoaaGreatDoor
set_option linter.unusedSimpArgs false
set_option linter.unusedVariables false
set_option maxRecDepth 100000
open Go.RowKit Go.Deep

/- structs in boxes -/
theorem heap3 {w : World} {b : Nat} {c0 c1 c2 : Value} {t : TypeId} (h : w.heap[b]? = some (.cells #[c0, c1, c2] t (0, 0))) : w.cell? ⟨b, 0, none⟩ = some c0 ∧ w.cell? ⟨b, 1, none⟩ = some c1 ∧ w.cell? ⟨b, 2, none⟩ = some c2 := by
  simp [World.cell?, h]
theorem heap4P {w : World} {b : Nat} {c0 c1 c2 c3 : Value} {t : TypeId} (h : w.heap[b]? = some (.cells #[c0, c1, c2, c3] t (0, 0))) : w.cell? ⟨b, 0, none⟩ = some c0 ∧ w.cell? ⟨b, 1, none⟩ = some c1 ∧ w.cell? ⟨b, 2, none⟩ = some c2 ∧ w.cell? ⟨b, 3, none⟩ = some c3 := by
  simp [World.cell?, h]
theorem heap_free {w : World} {b : Nat} {cs : Array Value} {t : TypeId} (h : w.heap[b]? = some (.cells cs t (0, 0))) (o : Nat) : w.frozen? ⟨b, o, none⟩ = false := by simp [World.frozen?, h]
theorem set_step {w : World} {b : Nat} {cs : Array Value} {t : TypeId} (o : Nat) (x : Value) (hw : w.heap[b]? = some (.cells cs t (0, 0))) : (w.setCell ⟨b, o, none⟩ x).heap[b]? = some (.cells (cs.setIfInBounds o x) t (0, 0)) := by
  obtain ⟨hlt, hk⟩ := Array.getElem?_eq_some_iff.1 hw
  show (w.heap.modify b _)[b]? = _
  rw [Array.getElem?_eq_getElem (by rw [Array.size_modify]; exact hlt), Array.getElem_modify_self, hk]; simp
theorem set3 {w1 W3 : World} {b N : Nat} {c0 c1 c2 x0 x1 x2 : Value} {t : TypeId} (h : w1.heap[b]? = some (.cells #[c0, c1, c2] t (0, 0))) (hN : N ≤ b)
    (hW : ((w1.setCell ⟨b, 0, none⟩ x0).setCell ⟨b, 1, none⟩ x1).setCell ⟨b, 2, none⟩ x2 = W3) :
    W3.heap[b]? = some (.cells #[x0, x1, x2] t (0, 0)) ∧ (∀ k, k ≠ b → W3.heap[k]? = w1.heap[k]?) ∧ Below N w1 W3 := by
  subst hW
  refine ⟨set_step 2 x2 (set_step 1 x1 (set_step 0 x0 h)), fun k hk => ?_, ?_⟩
  · rw [Below.heap_setCell _ _ _ _ hk, Below.heap_setCell _ _ _ _ hk, Below.heap_setCell _ _ _ _ hk]
  · exact (((Below.refl _ _).setCell (p := ⟨b, 0, none⟩) hN _).setCell (p := ⟨b, 1, none⟩) hN _).setCell (p := ⟨b, 2, none⟩) hN _
theorem set4P {w1 W4 : World} {b N : Nat} {c0 c1 c2 c3 x0 x1 x2 x3 : Value} {t : TypeId} (h : w1.heap[b]? = some (.cells #[c0, c1, c2, c3] t (0, 0))) (hN : N ≤ b)
    (hW : (((w1.setCell ⟨b, 0, none⟩ x0).setCell ⟨b, 1, none⟩ x1).setCell ⟨b, 2, none⟩ x2).setCell ⟨b, 3, none⟩ x3 = W4) :
    W4.heap[b]? = some (.cells #[x0, x1, x2, x3] t (0, 0)) ∧ (∀ k, k ≠ b → W4.heap[k]? = w1.heap[k]?) ∧ Below N w1 W4 := by
  subst hW
  refine ⟨set_step 3 x3 (set_step 2 x2 (set_step 1 x1 (set_step 0 x0 h))), fun k hk => ?_, ?_⟩
  · rw [Below.heap_setCell _ _ _ _ hk, Below.heap_setCell _ _ _ _ hk, Below.heap_setCell _ _ _ _ hk, Below.heap_setCell _ _ _ _ hk]
  · exact ((((Below.refl _ _).setCell (p := ⟨b, 0, none⟩) hN _).setCell (p := ⟨b, 1, none⟩) hN _).setCell (p := ⟨b, 2, none⟩) hN _).setCell (p := ⟨b, 3, none⟩) hN _
/-- what tagOf gives -/
def TagOfP (n : Bs) (w : World) (e : Ending) (w' : World) : Prop :=
  (isTag n = true ∧ ∃ (f : FuncId) (lb : Array Value), e = .returned (.tuple #[.agg #[sV n, .bool (emptyT n), .func (.func f) #[] lb], .bool true]) ∧ IsVal 0 n (.func (.func f) #[] lb) w' ∧ Below w.heap.size w w') ∨
  (isTag n = false ∧ e = .returned (.tuple #[.agg #[sV [], .bool false, .nilFunc], .bool false]) ∧ Below w.heap.size w w')
theorem tag_take {n : Bs} {k : Nat} (h : k < tagsL.length) (hn : n ≠ tagsL[k]) (hp : n ∉ tagsL.take k) : n ∉ tagsL.take (k + 1) := by
  rw [List.take_succ_eq_append_getElem h, List.mem_append]
  rintro (h1 | h1)
  · exact hp h1
  · exact hn (by simpa using h1)
theorem beq_bs (a b : Bs) : (a == b) = decide (a = b) := by rw [Bool.eq_iff_iff]; simp
set_option maxHeartbeats 2000000 in
theorem tagOf_any (n : Bs) (w : World) :
    Calls Tryz.prog 66 #[sV n] w (TagOfP n w) := by
  have hnl : (baL n).toList = n := toL n
  obtain ⟨z, hz⟩ : ∃ z, baL n = z := ⟨_, rfl⟩
  show Calls Tryz.prog _ #[.string (baL n)] w _
  rw [hz] at hnl ⊢
  have HZ := Lib.hid hnl
  clear hz hnl
  go_enter Tryz.func66, Tryz.ntmps66
  go_wp2_with fail
  refine (tags_any _).mono ?_
  rintro e w1 ⟨g, rfl, hg, hg1, h1⟩
  have hlt : w.heap.size < w1.heap.size := by have := h1.size; simp at this; omega
  have hb0 : w1.heap[w.heap.size]? = some (.cells #[.string ⟨#[]⟩, .bool false, .nilFunc] 60 (0, 0)) := (h1.block _ (by simp)).trans (World.alloc_heap_new _ _)
  have HB0 := Lib.hid hb0
  have H1 := Lib.hid (show Below w.heap.size w w1 from (below_alloc w _).trans (h1.mono (by simp)))
  have HG := Lib.hid hg
  have hgB : g ≠ w.heap.size := by simp at hg1; omega
  clear h1 hg hb0 hg1
  go_wp2
  go_loopw [8] (fun iv wr => ∃ k : Nat, k ≤ 10 ∧ iv = .int .i64 k ∧ Below w1.heap.size w1 wr ∧ Hid (n ∉ tagsL.take k)) (fun iv _ => 10 - (intOf iv).toNat)
  case atStart => exact ⟨0, by omega, rfl, Below.refl _ _, Lib.hid (by simp)⟩
  case round =>
    obtain ⟨k, hk, rfl, hB, HN⟩ := hrel
    obtain ⟨wk, rfl⟩ : ∃ x, x = wr := ⟨_, rfl⟩
    have HB := Lib.hid hB
    by_cases hlt10 : k < 10
    · have hge : k < tagsL.length := hlt10
      obtain ⟨fv, c0, c1, c2, hv⟩ := HG.out.2 k hge
      obtain ⟨ff, lb, _, hfv, _⟩ := id hv
      subst hfv
      have hgl := HG.out.1
      have d0 := (hB.cell (p := ⟨g, k * 3, none⟩) hgl).trans c0
      have d1 := (hB.cell (p := ⟨g, k * 3 + 1, none⟩) hgl).trans c1
      have d2 := (hB.cell (p := ⟨g, k * 3 + 2, none⟩) hgl).trans c2
      have HV := Lib.hid (hv.below hB)
      have hb := (hB.block _ hlt).trans HB0.out
      have HBK := Lib.hid hb
      have hsz := hB.size
      obtain ⟨t, ht⟩ : ∃ t, tagsL[k] = t := ⟨_, rfl⟩
      rw [ht] at d0 d1 HV
      have htl : (baL t).toList = t := toL t
      obtain ⟨y, hy⟩ : ∃ y, baL t = y := ⟨_, rfl⟩
      rw [show sV t = .string (baL t) from rfl, hy] at d0
      rw [hy] at htl
      have HTL := Lib.hid htl
      have HY := Lib.hid hy
      have hkI : decide ((k : Int) < 10) = true := decide_eq_true (by omega)
      have hk0 : (0 : Int) ≤ (k : Int) := by omega
      have hk1 : (k : Int) < 10 := by omega
      obtain ⟨bb, hbb⟩ : ∃ bb, emptyT t = bb := ⟨_, rfl⟩
      rw [hbb] at d1
      by_cases hn : n = t
      · have heq : (y.toList == z.toList) = true := by rw [HTL.out, HZ.out, hn]; simp
        have hmem : isTag n = true := by
          unfold isTag
          rw [List.contains_iff_mem, hn, ← ht]
          exact List.getElem_mem hge
        have HNT := Lib.hid (And.intro hn (And.intro hmem hbb))
        obtain ⟨wn, hwn⟩ : ∃ x, wk.alloc (.cells #[.string y, .bool bb, .func (.func ff) #[] lb] 60) = x := ⟨_, rfl⟩
        have hAl : Below wk.heap.size wk wn := by rw [← hwn]; exact below_alloc _ _
        have hbn : wn.heap[w.heap.size]? = some (.cells #[.string ⟨#[]⟩, .bool false, .nilFunc] 60 (0, 0)) := (hAl.block _ (by omega)).trans hb
        obtain ⟨q0, q1, q2⟩ := heap3 hbn
        have f0 := heap_free hbn 0
        have f1 := heap_free hbn 1
        have f2 := heap_free hbn 2
        have hnew : wn.heap[wk.heap.size]? = some (.cells #[.string y, .bool bb, .func (.func ff) #[] lb] 60 (0, 0)) := by rw [← hwn]; exact World.alloc_heap_new _ _
        obtain ⟨r0, r1, r2⟩ := heap3 hnew
        obtain ⟨W3, hW3⟩ : ∃ X, ((wn.setCell ⟨w.heap.size, 0, none⟩ (.string y)).setCell ⟨w.heap.size, 1, none⟩ (.bool bb)).setCell ⟨w.heap.size, 2, none⟩ (.func (.func ff) #[] lb) = X := ⟨_, rfl⟩
        have HS := Lib.hid (set3 hbn (Nat.le_refl _) hW3)
        have HA := Lib.hid hAl
        have HW := Lib.hid hW3
        have HWN := Lib.hid hwn
        clear hn hmem hwn hAl hbn hnew hW3 htl hy ht hbb c0 c1 c2 hv hB hb
        go_upto_region 5 with fail
        rw [HWN.out]
        go_wp2
        rw [HW.out]
        obtain ⟨k1, k2, k3⟩ := HS.out
        obtain ⟨e0, e1, e2⟩ := heap3 k1
        obtain ⟨n1, n2, n3⟩ := HNT.out
        refine bodyPost_ret (v := .tuple #[.agg #[.string y, .bool bb, .func (.func ff) #[] lb], .bool true]) (by simp [results, Tryz.results66, go_sem, e0, e1, e2]) rfl (.inl ⟨n2, ff, lb, by rw [n1, n3, ← HY.out], ?_, H1.out.trans ((HB.out.mono (Nat.le_of_lt hlt)).trans ((HA.out.mono (by omega)).trans k3))⟩)
        rw [n1]
        refine ((HV.out.below HA.out).keep (w' := W3) fun k hk _ => k2 k (by simp at hk; omega)).any
      · have heq : (y.toList == z.toList) = false := by rw [HTL.out, HZ.out, beq_eq_false_iff_ne]; exact fun h => hn h.symm
        have HNX := Lib.hid (tag_take hge (by rw [ht]; exact hn) HN.out)
        clear hn htl hy ht hbb c0 c1 c2 hv hB hb
        go_wp2
        go_roundw
        case rel => exact ⟨k + 1, by omega, by go_num, HB.out.alloc (by omega) _, HNX⟩
        case measure => simp [intOf]; omega
    · obtain rfl : k = 10 := by omega
      have hb := (hB.block _ hlt).trans HB0.out
      obtain ⟨q0, q1, q2⟩ := heap3 hb
      have f0 := heap_free hb 0
      have f1 := heap_free hb 1
      have f2 := heap_free hb 2
      obtain ⟨W3, hW3⟩ : ∃ X, ((wk.setCell ⟨w.heap.size, 0, none⟩ (.string ⟨#[]⟩)).setCell ⟨w.heap.size, 1, none⟩ (.bool false)).setCell ⟨w.heap.size, 2, none⟩ .nilFunc = X := ⟨_, rfl⟩
      have HS := Lib.hid (set3 hb (Nat.le_refl _) hW3)
      have HW := Lib.hid hW3
      clear hB hb hW3
      go_wp2
      rw [HW.out]
      obtain ⟨k1, k2, k3⟩ := HS.out
      obtain ⟨e0, e1, e2⟩ := heap3 k1
      have hno : isTag n = false := by
        rw [Bool.eq_false_iff]
        intro h
        unfold isTag at h
        rw [List.contains_iff_mem] at h
        exact HN.out h
      refine bodyPost_ret (v := .tuple #[.agg #[sV [], .bool false, .nilFunc], .bool false]) (by simp [results, Tryz.results66, go_sem, e0, e1, e2]; rfl) rfl (.inr ⟨hno, rfl, H1.out.trans ((HB.out.mono (Nat.le_of_lt hlt)).trans k3)⟩)
end Go.Proofs.YtdgihkgomfpmoaaGreatDoor
