/- Stage 10 (transcript): MkPT MkPC, put together by merge10.py. -/
import Derived.Test.YtmfcepfagbkceaaGreatDoorOd4
import Derived.Deep.Cut
import Derived.Laws.EntriesVeiled
namespace Go.Proofs.YtmfcepfagbkceaaGreatDoor
set_option linter.unusedSimpArgs false
set_option linter.unusedVariables false
set_option maxRecDepth 100000
open Go.RowKit Go.Deep
theorem heap3 {w : World} {b : Nat} {c0 c1 c2 : Value} {t : TypeId} (h : w.heap[b]? = some (.cells #[c0, c1, c2] t (0, 0))) : w.cell? ⟨b, 0, none⟩ = some c0 ∧ w.cell? ⟨b, 1, none⟩ = some c1 ∧ w.cell? ⟨b, 2, none⟩ = some c2 := by
  simp [World.cell?, h]
theorem heap4P {w : World} {b : Nat} {c0 c1 c2 c3 : Value} {t : TypeId} (h : w.heap[b]? = some (.cells #[c0, c1, c2, c3] t (0, 0))) : w.cell? ⟨b, 0, none⟩ = some c0 ∧ w.cell? ⟨b, 1, none⟩ = some c1 ∧ w.cell? ⟨b, 2, none⟩ = some c2 ∧ w.cell? ⟨b, 3, none⟩ = some c3 := by
  simp [World.cell?, h]
theorem heap_free {w : World} {b : Nat} {cs : Array Value} {t : TypeId} (h : w.heap[b]? = some (.cells cs t (0, 0))) (o : Nat) : w.frozen? ⟨b, o, none⟩ = false := by simp [World.frozen?, h]
theorem set_step {w : World} {b : Nat} {cs : Array Value} {t : TypeId} (o : Nat) (x : Value) (hw : w.heap[b]? = some (.cells cs t (0, 0))) : (w.setCell ⟨b, o, none⟩ x).heap[b]? = some (.cells (cs.setIfInBounds o x) t (0, 0)) := by
  obtain ⟨hlt, hk⟩ := Array.getElem?_eq_some_iff.1 hw
  show (w.heap.modify b _)[b]? = _
  rw [Array.getElem?_eq_getElem (by rw [Array.size_modify]; exact hlt), Array.getElem_modify_self, hk]; simp
theorem set3 {w1 W3 : World} {b N : Nat} {c0 c1 c2 x0 x1 x2 : Value} {t : TypeId} (h : w1.heap[b]? = some (.cells #[c0, c1, c2] t (0, 0))) (hN : N ≤ b)
    (hW : ((w1.setCell ⟨b, 0, none⟩ x0).setCell ⟨b, 1, none⟩ x1).setCell ⟨b, 2, none⟩ x2 = W3) :
    W3.heap[b]? = some (.cells #[x0, x1, x2] t (0, 0)) ∧ (∀ k, k ≠ b → W3.heap[k]? = w1.heap[k]?) ∧ Below N w1 W3 := by
  subst hW
  refine ⟨set_step 2 x2 (set_step 1 x1 (set_step 0 x0 h)), fun k hk => ?_, ?_⟩
  · rw [Below.heap_setCell _ _ _ _ hk, Below.heap_setCell _ _ _ _ hk, Below.heap_setCell _ _ _ _ hk]
  · exact (((Below.refl _ _).setCell (p := ⟨b, 0, none⟩) hN _).setCell (p := ⟨b, 1, none⟩) hN _).setCell (p := ⟨b, 2, none⟩) hN _
theorem set4P {w1 W4 : World} {b N : Nat} {c0 c1 c2 c3 x0 x1 x2 x3 : Value} {t : TypeId} (h : w1.heap[b]? = some (.cells #[c0, c1, c2, c3] t (0, 0))) (hN : N ≤ b)
    (hW : (((w1.setCell ⟨b, 0, none⟩ x0).setCell ⟨b, 1, none⟩ x1).setCell ⟨b, 2, none⟩ x2).setCell ⟨b, 3, none⟩ x3 = W4) :
    W4.heap[b]? = some (.cells #[x0, x1, x2, x3] t (0, 0)) ∧ (∀ k, k ≠ b → W4.heap[k]? = w1.heap[k]?) ∧ Below N w1 W4 := by
  subst hW
  refine ⟨set_step 3 x3 (set_step 2 x2 (set_step 1 x1 (set_step 0 x0 h))), fun k hk => ?_, ?_⟩
  · rw [Below.heap_setCell _ _ _ _ hk, Below.heap_setCell _ _ _ _ hk, Below.heap_setCell _ _ _ _ hk, Below.heap_setCell _ _ _ _ hk]
  · exact ((((Below.refl _ _).setCell (p := ⟨b, 0, none⟩) hN _).setCell (p := ⟨b, 1, none⟩) hN _).setCell (p := ⟨b, 2, none⟩) hN _).setCell (p := ⟨b, 3, none⟩) hN _
def TagOfP (n : Bs) (w : World) (e : Ending) (w' : World) : Prop :=
  (isTag n = true ∧ ∃ (f : FuncId) (lb : Array Value), e = .returned (.tuple #[.agg #[sV n, .bool (emptyT n), .func (.func f) #[] lb], .bool true]) ∧ IsVal 0 n (.func (.func f) #[] lb) w' ∧ Below w.heap.size w w') ∨
  (isTag n = false ∧ e = .returned (.tuple #[.agg #[sV [], .bool false, .nilFunc], .bool false]) ∧ Below w.heap.size w w')
theorem tag_take {n : Bs} {k : Nat} (h : k < tagsL.length) (hn : n ≠ tagsL[k]) (hp : n ∉ tagsL.take k) : n ∉ tagsL.take (k + 1) := by
  rw [List.take_succ_eq_append_getElem h, List.mem_append]
  rintro (h1 | h1)
  · exact hp h1
  · exact hn (by simpa using h1)
set_option maxHeartbeats 2000000 in
theorem tagOf_any (n : Bs) (w : World) :
    Calls Tryz.prog 134 #[sV n] w (TagOfP n w) := by
  have hnl : (baL n).toList = n := toL n
  obtain ⟨z, hz⟩ : ∃ z, baL n = z := ⟨_, rfl⟩
  show Calls Tryz.prog _ #[.string (baL n)] w _
  rw [hz] at hnl ⊢
  have HZ := Lib.hid hnl
  clear hz hnl
  go_enter Tryz.func134, Tryz.ntmps134
  go_wp2_with fail
  refine (tags_any _).mono ?_
  rintro e w1 ⟨g, rfl, hg, hg1, h1⟩
  have hlt : w.heap.size < w1.heap.size := by have := h1.size; simp at this; omega
  have hb0 : w1.heap[w.heap.size]? = some (.cells #[.string ⟨#[]⟩, .bool false, .nilFunc] 135 (0, 0)) := (h1.block _ (by simp)).trans (World.alloc_heap_new _ _)
  have HB0 := Lib.hid hb0
  have H1 := Lib.hid (show Below w.heap.size w w1 from (below_alloc w _).trans (h1.mono (by simp)))
  have HG := Lib.hid hg
  have hgB : g ≠ w.heap.size := by simp at hg1; omega
  clear h1 hg hb0 hg1
  go_wp2
  go_loopw [8] (fun iv wr => ∃ k : Nat, k ≤ 10 ∧ iv = .int .i64 k ∧ Below w1.heap.size w1 wr ∧ Hid (n ∉ tagsL.take k)) (fun iv _ => 10 - (intOf iv).toNat)
  case atStart => exact ⟨0, by omega, rfl, Below.refl _ _, Lib.hid (by simp)⟩
  case round =>
    obtain ⟨k, hk, rfl, hB, HN⟩ := hrel
    obtain ⟨wk, rfl⟩ : ∃ x, x = wr := ⟨_, rfl⟩
    have HB := Lib.hid hB
    by_cases hlt10 : k < 10
    · have hge : k < tagsL.length := hlt10
      obtain ⟨fv, c0, c1, c2, hv⟩ := HG.out.2 k hge
      obtain ⟨ff, lb, _, hfv, _⟩ := id hv
      subst hfv
      have hgl := HG.out.1
      have d0 := (hB.cell (p := ⟨g, k * 3, none⟩) hgl).trans c0
      have d1 := (hB.cell (p := ⟨g, k * 3 + 1, none⟩) hgl).trans c1
      have d2 := (hB.cell (p := ⟨g, k * 3 + 2, none⟩) hgl).trans c2
      have HV := Lib.hid (hv.below hB)
      have hb := (hB.block _ hlt).trans HB0.out
      have HBK := Lib.hid hb
      have hsz := hB.size
      obtain ⟨t, ht⟩ : ∃ t, tagsL[k] = t := ⟨_, rfl⟩
      rw [ht] at d0 d1 HV
      have htl : (baL t).toList = t := toL t
      obtain ⟨y, hy⟩ : ∃ y, baL t = y := ⟨_, rfl⟩
      rw [show sV t = .string (baL t) from rfl, hy] at d0
      rw [hy] at htl
      have HTL := Lib.hid htl
      have HY := Lib.hid hy
      have hkI : decide ((k : Int) < 10) = true := decide_eq_true (by omega)
      have hk0 : (0 : Int) ≤ (k : Int) := by omega
      have hk1 : (k : Int) < 10 := by omega
      obtain ⟨bb, hbb⟩ : ∃ bb, emptyT t = bb := ⟨_, rfl⟩
      rw [hbb] at d1
      by_cases hn : n = t
      · have heq : (y.toList == z.toList) = true := by rw [HTL.out, HZ.out, hn]; simp
        have hmem : isTag n = true := by
          unfold isTag
          rw [List.contains_iff_mem, hn, ← ht]
          exact List.getElem_mem hge
        have HNT := Lib.hid (And.intro hn (And.intro hmem hbb))
        obtain ⟨wn, hwn⟩ : ∃ x, wk.alloc (.cells #[.string y, .bool bb, .func (.func ff) #[] lb] 135) = x := ⟨_, rfl⟩
        have hAl : Below wk.heap.size wk wn := by rw [← hwn]; exact below_alloc _ _
        have hbn : wn.heap[w.heap.size]? = some (.cells #[.string ⟨#[]⟩, .bool false, .nilFunc] 135 (0, 0)) := (hAl.block _ (by omega)).trans hb
        obtain ⟨q0, q1, q2⟩ := heap3 hbn
        have f0 := heap_free hbn 0
        have f1 := heap_free hbn 1
        have f2 := heap_free hbn 2
        have hnew : wn.heap[wk.heap.size]? = some (.cells #[.string y, .bool bb, .func (.func ff) #[] lb] 135 (0, 0)) := by rw [← hwn]; exact World.alloc_heap_new _ _
        obtain ⟨r0, r1, r2⟩ := heap3 hnew
        obtain ⟨W3, hW3⟩ : ∃ X, ((wn.setCell ⟨w.heap.size, 0, none⟩ (.string y)).setCell ⟨w.heap.size, 1, none⟩ (.bool bb)).setCell ⟨w.heap.size, 2, none⟩ (.func (.func ff) #[] lb) = X := ⟨_, rfl⟩
        have HS := Lib.hid (set3 hbn (Nat.le_refl _) hW3)
        have HA := Lib.hid hAl
        have HW := Lib.hid hW3
        have HWN := Lib.hid hwn
        clear hn hmem hwn hAl hbn hnew hW3 htl hy ht hbb c0 c1 c2 hv hB hb
        go_upto_region 5 with fail
        rw [HWN.out]
        go_wp2
        rw [HW.out]
        obtain ⟨k1, k2, k3⟩ := HS.out
        obtain ⟨e0, e1, e2⟩ := heap3 k1
        obtain ⟨n1, n2, n3⟩ := HNT.out
        refine bodyPost_ret (v := .tuple #[.agg #[.string y, .bool bb, .func (.func ff) #[] lb], .bool true]) (by simp [results, Tryz.results134, go_sem, e0, e1, e2]) rfl (.inl ⟨n2, ff, lb, by rw [n1, n3, ← HY.out], ?_, H1.out.trans ((HB.out.mono (Nat.le_of_lt hlt)).trans ((HA.out.mono (by omega)).trans k3))⟩)
        rw [n1]
        refine ((HV.out.below HA.out).keep (w' := W3) fun k hk _ => k2 k (by simp at hk; omega)).any
      · have heq : (y.toList == z.toList) = false := by rw [HTL.out, HZ.out, beq_eq_false_iff_ne]; exact fun h => hn h.symm
        have HNX := Lib.hid (tag_take hge (by rw [ht]; exact hn) HN.out)
        clear hn htl hy ht hbb c0 c1 c2 hv hB hb
        go_wp2
        go_roundw
        case rel => exact ⟨k + 1, by omega, by go_num, HB.out.alloc (by omega) _, HNX⟩
        case measure => simp [intOf]; omega
    · obtain rfl : k = 10 := by omega
      have hb := (hB.block _ hlt).trans HB0.out
      obtain ⟨q0, q1, q2⟩ := heap3 hb
      have f0 := heap_free hb 0
      have f1 := heap_free hb 1
      have f2 := heap_free hb 2
      obtain ⟨W3, hW3⟩ : ∃ X, ((wk.setCell ⟨w.heap.size, 0, none⟩ (.string ⟨#[]⟩)).setCell ⟨w.heap.size, 1, none⟩ (.bool false)).setCell ⟨w.heap.size, 2, none⟩ .nilFunc = X := ⟨_, rfl⟩
      have HS := Lib.hid (set3 hb (Nat.le_refl _) hW3)
      have HW := Lib.hid hW3
      clear hB hb hW3
      go_wp2
      rw [HW.out]
      obtain ⟨k1, k2, k3⟩ := HS.out
      obtain ⟨e0, e1, e2⟩ := heap3 k1
      have hno : isTag n = false := by
        rw [Bool.eq_false_iff]
        intro h
        unfold isTag at h
        rw [List.contains_iff_mem] at h
        exact HN.out h
      refine bodyPost_ret (v := .tuple #[.agg #[sV [], .bool false, .nilFunc], .bool false]) (by simp [results, Tryz.results134, go_sem, e0, e1, e2]; rfl) rfl (.inr ⟨hno, rfl, H1.out.trans ((HB.out.mono (Nat.le_of_lt hlt)).trans k3)⟩)
end Go.Proofs.YtmfcepfagbkceaaGreatDoor
namespace Go.Proofs.YtmfcepfagbkceaaGreatDoor
set_option linter.unusedSimpArgs false
set_option linter.unusedVariables false
set_option maxRecDepth 100000
open Go.RowKit Go.Deep
set_option maxHeartbeats 400000 in
theorem hasForm_any (x : Value) (hx : ∃ m, x = .string m) (b : Bool) (f : FuncId) (lb : Array Value) (k : Int) (r : Bool) (hr : (b == (k == 4)) = r) (w : World) :
    Calls Tryz.prog 139 #[.agg #[x, .bool b, .func (.func f) #[] lb], intV k] w fun e w' => e = .returned (.bool r) ∧ Below w.heap.size w w' := by
  obtain ⟨m, rfl⟩ := hx
  go_enter Tryz.func139, Tryz.ntmps139
  go_wp2
  go_ret
  exact ⟨rfl, below_alloc _ _⟩
set_option maxHeartbeats 400000 in
theorem canHave_any (x : Value) (hx : ∃ m, x = .string m) (b : Bool) (f : FuncId) (lb : Array Value) (k : Int) (n v : Bs) (hv : v.length ≤ 1048576) (w : World) [T w] (hf : IsVal 0 n (.func (.func f) #[] lb) w) (r : Bool) (hr : (if k = 3 then decide (v = []) else rightB n v) = r) :
    Calls Tryz.prog 140 #[.agg #[x, .bool b, .func (.func f) #[] lb], intV k, sV v] w fun e w' => e = .returned (.bool r) ∧ Below w.heap.size w w' := by
  obtain ⟨m, rfl⟩ := hx
  obtain ⟨f', lb', B, e1, h2, _, h4⟩ := hf
  cases e1
  by_cases hk : k = 3
  · rw [if_pos hk] at hr
    have hk3 : (k == 3) = true := by simp [hk]
    have HN := Lib.hid (fun W => isNone_any v r hr W)
    clear h2 h4 hr hk
    go_enter Tryz.func140, Tryz.ntmps140
    go_wp2_with fail
    refine (HN.out _).mono ?_
    rintro e w1 ⟨rfl, rfl⟩
    go_wp2
    go_ret
    exact ⟨rfl, below_alloc _ _⟩
  · rw [if_neg hk] at hr
    have hk3 : (k == 3) = false := by simpa using hk
    have hB := below_alloc w (.cells #[.string m, .bool b, .func (.func f) #[] lb] 135)
    have HN := Lib.hid (h4 v r (w.alloc (.cells #[.string m, .bool b, .func (.func f) #[] lb] 135)) hr hv (fun c hc => cell_old0 hc _))
    have HB := Lib.hid hB
    clear h4 hr hk hB
    go_enter Tryz.func140, Tryz.ntmps140
    go_wp2_with fail
    refine HN.out.mono ?_
    rintro e w1 ⟨rfl, h1⟩
    have H1 := Lib.hid (below_then HB.out h1)
    clear h1
    go_wp2
    go_ret
    exact ⟨rfl, H1.out⟩
def ctR (k : Int) (n v : Bs) : Int := if isTag n = false ∨ emptyT n ≠ decide (k = 4) then 12 else if (if k = 3 then decide (v = []) else rightB n v) = false then 3 else 0
set_option maxHeartbeats 1000000 in
theorem checkTag_any (k : Int) (n v : Bs) (o : Int) (hn : n.length ≤ maxLen) (hv : v.length ≤ 1048576) (r : Int) (hr : ctR k n v = r) (w : World) [T w] :
    Calls Tryz.prog 116 #[.agg #[intV k, sV n, sV v, intV o]] w fun e w' => e = .returned (intV r) ∧ Below w.heap.size w w' := by
  obtain ⟨w0, hw0⟩ : ∃ x, w.alloc (.cells #[intV k, sV n, sV v, intV o] 52) = x := ⟨_, rfl⟩
  have hB0 : Below w.heap.size w w0 := by rw [← hw0]; exact below_alloc _ _
  have hbx : w0.heap[w.heap.size]? = some (.cells #[intV k, sV n, sV v, intV o] 52 (0, 0)) := by rw [← hw0]; exact World.alloc_heap_new _ _
  have hsz : w0.heap.size = w.heap.size + 1 := by rw [← hw0]; simp
  have HT := Lib.hid (fun W => tagOf_any n W)
  have HW0 := Lib.hid hw0
  have HB0 := Lib.hid hB0
  have HBX := Lib.hid hbx
  have HR := Lib.hid hr
  haveI : T w0 := T.below hB0
  obtain ⟨c0, c1, c2, c3⟩ := heap4P hbx
  clear hw0 hB0 hr
  go_enter Tryz.func116, Tryz.ntmps116
  go_upto_region 1 with fail
  rw [HW0.out]
  go_wp2_with fail
  refine (HT.out w0).mono ?_
  clear HT c0 c1 c2 c3 hbx
  rintro e w1 (⟨hT, f, lb, rfl, hf, h1⟩ | ⟨hT, rfl, h1⟩)
  · have hbx1 := (h1.block _ (by omega)).trans HBX.out
    obtain ⟨w2, hw2⟩ : ∃ x, w1.alloc (.cells #[sV n, .bool (emptyT n), .func (.func f) #[] lb] 135) = x := ⟨_, rfl⟩
    have hB2 : Below w1.heap.size w1 w2 := by rw [← hw2]; exact below_alloc _ _
    have hbt2 : w2.heap[w1.heap.size]? = some (.cells #[sV n, .bool (emptyT n), .func (.func f) #[] lb] 135 (0, 0)) := by rw [← hw2]; exact World.alloc_heap_new _ _
    have hs1 := h1.size
    have hs2 : w2.heap.size = w1.heap.size + 1 := by rw [← hw2]; simp
    have hbx2 := (hB2.block _ (by omega)).trans hbx1
    obtain ⟨c0, c1, c2, c3⟩ := heap4P hbx2
    obtain ⟨t0, t1, t2⟩ := heap3 hbt2
    have HW2 := Lib.hid hw2
    have H2 := Lib.hid (HB0.out.trans ((h1.mono (by omega)).trans (hB2.mono (by omega))))
    haveI : T w2 := T.below H2.out
    have HF := Lib.hid (hf.below hB2)
    obtain ⟨hb, hhb⟩ : ∃ hb, (emptyT n == (k == 4)) = hb := ⟨_, rfl⟩
    have HHF := Lib.hid (fun W => hasForm_any (sV n) ⟨_, rfl⟩ (emptyT n) f lb k hb hhb W)
    have HBX2 := Lib.hid (And.intro hbx2 hbt2)
    have HHB := Lib.hid hhb
    clear hf h1 hw2 hbx1 hbx2 hbt2 hB2 hhb
    go_upto_region 2 with fail
    rw [HW2.out]
    go_wp2_with fail
    refine (HHF.out w2).mono ?_
    rintro e w3 ⟨rfl, h3⟩
    have hbx3 := (h3.block _ (by omega)).trans HBX2.out.1
    have hbt3 := (h3.block _ (by omega)).trans HBX2.out.2
    have H3 := Lib.hid (HF.out.below h3)
    have HB3 := Lib.hid (below_then H2.out h3)
    haveI : T w3 := T.below HB3.out
    clear c0 c1 c2 c3 t0 t1 t2 h3
    have hk4 : (k == 4) = decide (k = 4) := by rw [Bool.eq_iff_iff]; simp
    cases hb
    · have hr : r = 12 := by
        have := HHB.out
        rw [hk4, beq_eq_false_iff_ne] at this
        rw [← HR.out, ctR, if_pos (.inr this)]
      have HRR := Lib.hid hr
      clear hr hk4 hbx3 hbt3
      go_wp2
      go_ret
      exact ⟨ret_intM HRR.out.symm, HB3.out⟩
    · obtain ⟨c0, c1, c2, c3⟩ := heap4P hbx3
      obtain ⟨t0, t1, t2⟩ := heap3 hbt3
      obtain ⟨cc, hcc⟩ : ∃ cc, (if k = 3 then decide (v = []) else rightB n v) = cc := ⟨_, rfl⟩
      have HCH := Lib.hid (canHave_any (sV n) ⟨_, rfl⟩ (emptyT n) f lb k n v hv w3 H3.out cc hcc)
      have hr : r = if cc = false then 3 else 0 := by
        have := HHB.out
        rw [hk4, beq_iff_eq] at this
        rw [← HR.out, ctR, if_neg (by rw [hT]; simp [this]), hcc]
      have HRR := Lib.hid hr
      clear hr hcc hk4 hbx3 hbt3
      go_wp2_with fail
      refine HCH.out.mono ?_
      rintro e w4 ⟨rfl, h4⟩
      have H4 := Lib.hid (below_then HB3.out h4)
      clear h4 c0 c1 c2 c3 t0 t1 t2
      cases cc
      all_goals
        go_wp2
        go_ret
        exact ⟨ret_intM HRR.out.symm, H4.out⟩
  · have hr : r = 12 := by rw [← HR.out, ctR, if_pos (.inl hT)]
    have H1 := Lib.hid (below_then HB0.out h1)
    have HRR := Lib.hid hr
    clear h1 hr
    go_wp2
    go_ret
    exact ⟨ret_intM HRR.out.symm, below_then H1.out (below_alloc _ _)⟩
set_option maxHeartbeats 400000 in
theorem around_any (k : Int) (w : World) :
    Calls Tryz.prog 117 #[intV k] w fun e w' => e = .returned (.tuple #[sV (if k = 3 then [60, 47] else [60]), sV (if k = 4 then [47, 62] else [62])]) ∧ w' = w := by
  by_cases h3 : k = 3
  · subst h3
    go_enter Tryz.func117, Tryz.ntmps117
    go_wp2
    go_ret2
    exact ⟨rfl, rfl⟩
  · have g3 : (k == 3) = false := by simpa using h3
    by_cases h4 : k = 4
    · subst h4
      clear h3 g3
      go_enter Tryz.func117, Tryz.ntmps117
      go_wp2
      go_ret2
      exact ⟨rfl, rfl⟩
    · have g4 : (k == 4) = false := by simpa using h4
      rw [if_neg h3, if_neg h4]
      clear h3 h4
      go_enter Tryz.func117, Tryz.ntmps117
      go_wp2
      go_ret2
      exact ⟨rfl, rfl⟩
def wrF (k : Int) (n v : Bs) : Bs := if k = 1 then v else if v = [] then (if k = 3 then [60, 47] else [60]) ++ n ++ (if k = 4 then [47, 62] else [62]) else (if k = 3 then [60, 47] else [60]) ++ n ++ [32] ++ v ++ (if k = 4 then [47, 62] else [62])
theorem wr_form {k : Int} {n v : Bs} (hk : k = 1 ∨ k = 2 ∨ k = 3 ∨ k = 4) (h3 : k = 3 → v = []) : wrF k n v = formF k n v := by
  rcases hk with rfl | rfl | rfl | rfl
  · rfl
  · unfold wrF formF bodyL
    by_cases h : v = [] <;> simp [h]
  · rw [h3 rfl]; rfl
  · unfold wrF formF bodyL
    by_cases h : v = [] <;> simp [h]
theorem emptyL (v : Bs) : (baL v).toList.isEmpty = decide (v = []) := by rw [toL]; cases v <;> simp
set_option maxHeartbeats 2000000 in
theorem written_any (k : Int) (n v : Bs) (o : Int) (t : Bs) (ht : wrF k n v = t) (hn : n.length ≤ 1048576) (hv : v.length ≤ 1048576) (w : World) :
    Calls Tryz.prog 93 #[.agg #[intV k, sV n, sV v, intV o]] w fun e w' => e = .returned (sV t) ∧ Below w.heap.size w w' := by
  have hev := emptyL v
  have HB := Lib.hid (fun o => alloc_below w o)
  by_cases k1 : k = 1
  · have q1 : (k == 1) = true := by simp [k1]
    have e : t = v := by rw [← ht, wrF, if_pos k1]
    subst e
    clear ht k1 hev
    go_enter Tryz.func93, Tryz.ntmps93
    go_wp2
    go_ret
    exact ⟨rfl, HB.out _⟩
  · have q1 : (k == 1) = false := by simpa using k1
    rw [wrF, if_neg k1] at ht
    have HA := Lib.hid (fun W => around_any k W)
    have hsl : (if k = 3 then [60, 47] else [60] : Bs).length ≤ 2 := by split <;> simp
    have hel : (if k = 4 then [47, 62] else [62] : Bs).length ≤ 2 := by split <;> simp
    obtain ⟨S, hS⟩ : ∃ S, (if k = 3 then [60, 47] else [60] : Bs) = S := ⟨_, rfl⟩
    obtain ⟨E, hE⟩ : ∃ E, (if k = 4 then [47, 62] else [62] : Bs) = E := ⟨_, rfl⟩
    rw [hS, hE] at HA ht
    rw [hS] at hsl
    rw [hE] at hel
    clear hS hE k1
    obtain ⟨zs, hzs⟩ : ∃ z, baL S = z := ⟨_, rfl⟩
    obtain ⟨ze, hze⟩ : ∃ z, baL E = z := ⟨_, rfl⟩
    obtain ⟨zn, hzn⟩ : ∃ z, baL n = z := ⟨_, rfl⟩
    obtain ⟨zv, hzv⟩ : ∃ z, baL v = z := ⟨_, rfl⟩
    obtain ⟨z1, hz1⟩ : ∃ z, baL (S ++ n) = z := ⟨_, rfl⟩
    have a1 : zs ++ zn = z1 := by rw [← hz1, ← hzs, ← hzn, baL_append]
    have l0 : zs.size ≤ 2 := by rw [← hzs, baL_size]; exact hsl
    have l9 : ze.size ≤ 2 := by rw [← hze, baL_size]; exact hel
    have ln : zn.size ≤ 1048576 := by rw [← hzn, baL_size]; exact hn
    have lv : zv.size ≤ 1048576 := by rw [← hzv, baL_size]; exact hv
    have l1 : z1.size ≤ 1048578 := by rw [← hz1, baL_size, List.length_append]; omega
    rw [show sV S = .string (baL S) from rfl, show sV E = .string (baL E) from rfl, hzs, hze] at HA
    rw [hzv] at hev
    obtain ⟨y, hy⟩ : ∃ y, baL t = y := ⟨_, rfl⟩
    show Calls Tryz.prog _ #[.agg #[intV k, .string (baL n), .string (baL v), intV o]] w fun e w' => e = .returned (.string (baL t)) ∧ _
    by_cases h0 : v = []
    · rw [if_pos h0] at ht
      have a2 : z1 ++ ze = y := by rw [← hy, ← ht, ← hz1, ← hze, baL_append]
      rw [hzn, hzv, hy]
      rw [decide_eq_true h0] at hev
      clear ht hzs hze hzn hzv hz1 hy h0 hsl hel hn hv
      go_enter Tryz.func93, Tryz.ntmps93
      go_wp2_with fail
      refine (HA.out _).mono ?_
      rintro e w1 ⟨rfl, rfl⟩
      go_wp2
      go_ret
      exact ⟨rfl, HB.out _⟩
    · rw [if_neg h0] at ht
      obtain ⟨z2, hz2⟩ : ∃ z, baL (S ++ n ++ [32]) = z := ⟨_, rfl⟩
      obtain ⟨z3, hz3⟩ : ∃ z, baL (S ++ n ++ [32] ++ v) = z := ⟨_, rfl⟩
      have a2 : z1 ++ (⟨#[32]⟩ : ByteArray) = z2 := by rw [← hz2, ← hz1]; exact baL_append _ [32]
      have a3 : z2 ++ zv = z3 := by rw [← hz2, ← hz3, ← hzv, baL_append]
      have a4 : z3 ++ ze = y := by rw [← hy, ← ht, ← hz3, ← hze, baL_append]
      have l2 : z2.size ≤ 1048579 := by rw [← hz2, baL_size, List.length_append, List.length_append]; simp; omega
      have l3 : z3.size ≤ 2097155 := by rw [← hz3, baL_size, List.length_append, List.length_append, List.length_append]; simp; omega
      rw [hzn, hzv, hy]
      rw [decide_eq_false h0] at hev
      clear ht hzs hze hzn hzv hz1 hz2 hz3 hy h0 hsl hel hn hv
      go_enter Tryz.func93, Tryz.ntmps93
      go_wp2_with fail
      refine (HA.out _).mono ?_
      rintro e w1 ⟨rfl, rfl⟩
      go_wp2
      go_ret
      exact ⟨rfl, HB.out _⟩
def txR (n v : Bs) : Int := if n ≠ [] then 12 else if v = [] then 5 else if chk v ≠ 0 then 11 else 0
set_option maxHeartbeats 1000000 in
theorem checkText_any (k : Int) (n v : Bs) (o : Int) (hv : v.length ≤ 1048576) (r : Int) (hr : txR n v = r) (w : World) :
    Calls Tryz.prog 115 #[.agg #[intV k, sV n, sV v, intV o]] w fun e w' => e = .returned (intV r) ∧ Below w.heap.size w w' := by
  have hen := emptyL n
  have hev := emptyL v
  have HB := Lib.hid (fun o => alloc_below w o)
  obtain ⟨c, hc⟩ : ∃ c, chk v = c := ⟨_, rfl⟩
  have HC := Lib.hid (show ∀ W, Calls Tryz.prog 114 #[sV v] W fun e w' => e = .returned (.int .i64 c) ∧ Below W.heap.size W w' from fun W => by
    have := C01.check_any (baL v) (by rw [baL_size]; unfold maxLen; omega) W
    rw [baL_data, hc] at this
    exact this)
  obtain ⟨zn, hzn⟩ : ∃ z, baL n = z := ⟨_, rfl⟩
  obtain ⟨zv, hzv⟩ : ∃ z, baL v = z := ⟨_, rfl⟩
  rw [show sV v = .string (baL v) from rfl, hzv] at HC
  show Calls Tryz.prog _ #[.agg #[intV k, .string (baL n), .string (baL v), intV o]] w _
  rw [hzn] at hen ⊢
  rw [hzv] at hev ⊢
  unfold txR at hr
  rw [hc] at hr
  by_cases hn : n = []
  · rw [if_neg (by simp [hn])] at hr
    rw [decide_eq_true hn] at hen
    by_cases h0 : v = []
    · rw [if_pos h0] at hr
      rw [decide_eq_true h0] at hev
      subst hr
      clear hn h0 hc hzn hzv
      go_enter Tryz.func115, Tryz.ntmps115
      go_wp2
      go_ret
      exact ⟨rfl, HB.out _⟩
    · rw [if_neg h0] at hr
      rw [decide_eq_false h0] at hev
      have hcr : (c != 0) = true ∧ r = 11 ∨ (c != 0) = false ∧ r = 0 := by
        by_cases hc0 : c = 0
        · rw [if_neg (by simp [hc0])] at hr
          exact .inr ⟨by simp [hc0], hr.symm⟩
        · rw [if_pos hc0] at hr
          exact .inl ⟨by simp [hc0], hr.symm⟩
      clear hr hn h0 hc hzn hzv
      rcases hcr with ⟨hc0, rfl⟩ | ⟨hc0, rfl⟩
      all_goals
        go_enter Tryz.func115, Tryz.ntmps115
        go_wp2_with fail
        refine (HC.out _).mono ?_
        rintro e w1 ⟨rfl, h1⟩
        have H1 := Lib.hid (below_then (HB.out _) h1)
        clear h1
        go_wp2
        go_ret
        exact ⟨rfl, H1.out⟩
  · rw [if_pos hn] at hr
    rw [decide_eq_false hn] at hen
    subst hr
    clear hn hc hzn hzv
    go_enter Tryz.func115, Tryz.ntmps115
    go_wp2
    go_ret
    exact ⟨rfl, HB.out _⟩
def alR (x : Lx) : Int := if x.k = 1 then txR x.n x.v else if x.k = 2 ∨ x.k = 3 ∨ x.k = 4 then ctR x.k x.n x.v else 8
set_option maxHeartbeats 1000000 in
theorem alone_any (x : Lx) (hn : x.n.length ≤ maxLen) (hv : x.v.length ≤ 1048576) (r : Int) (hr : alR x = r) (w : World) [T w] :
    Calls Tryz.prog 92 #[.agg #[intV x.k, sV x.n, sV x.v, intV x.o]] w fun e w' => e = .returned (intV r) ∧ Below w.heap.size w w' := by
  obtain ⟨k, n, v, o⟩ := x
  simp only at hn hv ⊢
  unfold alR at hr
  simp only at hr
  have HB := Lib.hid (fun o => alloc_below w o)
  by_cases h1 : k = 1
  · rw [if_pos h1] at hr
    have HX := Lib.hid (fun W => checkText_any k n v o hv r hr W)
    have q1 : (k == 1) = true := by simp [h1]
    clear hr h1
    go_enter Tryz.func92, Tryz.ntmps92
    go_wp2_with fail
    refine (HX.out _).mono ?_
    rintro e w1 ⟨rfl, h1⟩
    have H1 := Lib.hid (below_then (HB.out _) h1)
    clear h1
    go_wp2
    go_ret
    exact ⟨rfl, H1.out⟩
  · rw [if_neg h1] at hr
    have q1 : (k == 1) = false := by simpa using h1
    by_cases h2 : k = 2 ∨ k = 3 ∨ k = 4
    · rw [if_pos h2] at hr
      have HX := Lib.hid (fun (W : World) [T W] => checkTag_any k n v o hn hv r hr W)
      have q2 : ((k == 2) = true ∨ ((k == 2) = false ∧ ((k == 3) = true ∨ ((k == 3) = false ∧ (k == 4) = true)))) := by
        rcases h2 with rfl | rfl | rfl <;> simp
      clear hr h1 h2
      rcases q2 with q2 | ⟨q2, q3 | ⟨q3, q4⟩⟩
      all_goals
        go_enter Tryz.func92, Tryz.ntmps92
        go_wp2_with fail
        refine (HX.out _).mono ?_
        rintro e w1 ⟨rfl, h1⟩
        have H1 := Lib.hid (below_then (HB.out _) h1)
        clear h1
        go_wp2
        go_ret
        exact ⟨rfl, H1.out⟩
    · rw [if_neg h2] at hr
      subst hr
      have q2 : (k == 2) = false := by simp; omega
      have q3 : (k == 3) = false := by simp; omega
      have q4 : (k == 4) = false := by simp; omega
      clear h1 h2
      go_enter Tryz.func92, Tryz.ntmps92
      go_wp2
      go_ret
      exact ⟨rfl, HB.out _⟩
theorem err_al (p : Bool) (o : Nat) (x : Lx) : errX p o x = if alR x ≠ 0 then alR x else if x.k = 1 ∧ p = true then 10 else if x.o ≠ o then 9 else 0 := by
  unfold errX alR txR ctR
  by_cases h1 : x.k = 1
  · rw [if_neg (by omega), if_pos h1, if_pos h1]
    by_cases hn : x.n = []
    · by_cases hv : x.v = []
      · simp [hn, hv]
      · by_cases hc : chk x.v = 0
        · cases p <;> simp [hn, hv, hc, h1]
        · simp [hn, hv, hc]
    · simp [hn]
  · rw [if_neg h1]
    by_cases h2 : x.k = 2 ∨ x.k = 3 ∨ x.k = 4
    · rw [if_neg (by omega), if_pos h2, if_neg h1]
      by_cases hb : isTag x.n = false ∨ emptyT x.n ≠ decide (x.k = 4)
      · have hb' : isTag x.n = false ∨ decide (x.k = 4) ≠ emptyT x.n := hb.imp id fun h e => h e.symm
        rw [if_pos hb, if_pos hb']; simp
      · have hb' : ¬ (isTag x.n = false ∨ decide (x.k = 4) ≠ emptyT x.n) := fun h => hb (h.imp id fun h e => h e.symm)
        rw [if_neg hb, if_neg hb']
        by_cases h3 : x.k = 3
        · by_cases hv : x.v = []
          · simp [h3, hv]
          · simp [h3, hv]
        · by_cases hv : rightB x.n x.v = false
          · simp [h3, hv]
          · simp [h3, hv, h1]
    · rw [if_pos (by omega), if_neg h1, if_neg h2]; simp
end Go.Proofs.YtmfcepfagbkceaaGreatDoor
