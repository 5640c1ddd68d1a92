/- Stage 10 (transcript): TpAround, put together by merge10.py. -/
import Derived.Test.YtmfcepfagbkceaaGreatDoorOl
import Derived.Test.YtmfcepfagbkceaaGreatDoorOj1
namespace Go.Proofs.YtmfcepfagbkceaaGreatDoor
set_option linter.unusedSimpArgs false
set_option linter.unusedVariables false
set_option maxRecDepth 100000
open Go.RowKit Go.Shelf Go.Deep
theorem good_kind {k : Int} {n v : Bs} (h : goodT k n v = true) : k = 2 ∨ k = 3 ∨ k = 4 := by
  unfold goodT at h
  simp at h
  omega
theorem lex_oneT (w : World) (k : Int) (n v : Bs) : LexAt (w.alloc (.cells #[intV k, sV n, sV v, .int .i64 0] 52)) (.slice (some ⟨w.heap.size, 0, none⟩) 1 1) [⟨k, n, v, 0⟩] := by
  refine ⟨_, _, rfl, fun _ => ⟨w.heap.size, 0, rfl, by simp, fun j hj => ?_⟩⟩
  have h0 : j = 0 := by simpa using hj
  subst h0
  exact box4T (World.alloc_heap_new w _)
theorem one_chk {k : Int} {n v : Bs} (h : goodT k n v = true) (hl : n.length + v.length ≤ 60000) : chkR [⟨k, n, v, 0⟩] = 0 := by
  rw [chk_iff]
  have hk := good_kind h
  refine ⟨?_, ?_⟩
  · have : k ≠ 1 := by omega
    simp [valB, okX, h, this]
  · have hp : prn [(⟨k, n, v, 0⟩ : Lx)] = form ⟨k, n, v, 0⟩ := by simp [prn]
    have := form_len ⟨k, n, v, 0⟩
    rw [hp]
    simp at this
    omega
set_option maxHeartbeats 1000000 in
theorem writtenT_any (k : Int) (n v : Bs) (hg : goodT k n v = true) (hl : n.length + v.length ≤ 60000) (t : Bs) (ht : prn [⟨k, n, v, 0⟩] = t) (w : World) [T w] :
    Calls Tryz.prog 75 #[intV k, sV n, sV v] w fun e w' => e = .returned (sV t) ∧ Below w.heap.size w w' := by
  have hk := good_kind hg
  have HC := Lib.hid (print_any [⟨k, n, v, 0⟩] t 0 _ _ (by unfold printR; rw [if_pos (one_chk hg hl), ht]) (lex_oneT w k n v) ⟨by simp, fun x hx => by
    rw [List.mem_singleton] at hx
    subst hx
    refine ⟨?_, ?_, ?_, ?_, ?_⟩
    · show I64 k
      unfold I64; omega
    · show I64 0
      unfold I64; omega
    · show n.length ≤ maxLen
      unfold maxLen; omega
    · show v.length ≤ maxLen
      unfold maxLen; omega
    · show n.length + v.length ≤ 65536
      omega⟩)
  clear hg hl ht hk
  go_enter Tryz.func75, Tryz.ntmps75
  go_wp2_with fail
  refine HC.out.mono ?_
  rintro e' w1 ⟨rfl, h1⟩
  have H1 := Lib.hid h1
  clear h1 HC
  go_wp2
  go_ret
  exact ⟨rfl, (Below.trans ((Below.refl w.heap.size w).alloc (Nat.le_refl _) _) (H1.out.mono (by simp)))⟩
theorem tup2T {a b : Value} {c d : Value} (h : a = c) (h2 : b = d) : Ending.returned (.tuple #[a, b]) = .returned (.tuple #[c, d]) := by rw [h, h2]
set_option maxHeartbeats 1000000 in
theorem around_1 (t : Bs) (n : Int) (a : Option Addr) (m c : Nat) (w : World) [T w] :
    Calls Tryz.prog 47 #[.agg #[intV 1, sV t, intV n, .slice a m c]] w fun e w' => e = .returned (.tuple #[sV t, sV []]) ∧ Below w.heap.size w w' := by
  have HI := Lib.hid (fun W => isText_any 1 t n (.slice a m c) true rfl W)
  have hb := World.alloc_heap_new w (.cells #[intV 1, sV t, intV n, .slice a m c] nT (0, 0))
  have hB := (Below.refl w.heap.size w).alloc (Nat.le_refl _) (.cells #[intV 1, sV t, intV n, .slice a m c] nT (0, 0))
  go_enter Tryz.func47, Tryz.ntmps47
  go_wp2_with fail
  refine (HI.out _).mono ?_
  rintro e' w1 ⟨rfl, h1⟩
  obtain ⟨p0, p1, p2, p3⟩ := box4T ((h1.block _ (heap_ltT hb)).trans hb)
  have H1 := Lib.hid (hB.trans (h1.mono (by simp)))
  clear h1 hb hB
  go_wp2
  go_ret2
  exact ⟨rfl, H1.out⟩
set_option maxHeartbeats 2000000 in
theorem around_2 (t : Bs) (n : Int) (hg4 : goodT 4 tLb t = true) (hl : t.length ≤ 50000) (r1 : Bs) (hr1 : prn [⟨4, tLb, t, 0⟩] = r1) (a : Option Addr) (m c : Nat) (w : World) [T w] :
    Calls Tryz.prog 47 #[.agg #[intV 2, sV t, intV n, .slice a m c]] w fun e w' => e = .returned (.tuple #[sV r1, sV []]) ∧ Below w.heap.size w w' := by
  have HI := Lib.hid (fun W => isText_any 2 t n (.slice a m c) false rfl W)
  have HF := Lib.hid (show ∀ W, Calls Tryz.prog 55 #[intV 2] W fun e w' => e = .returned (.tuple #[.agg #[sV tLb, .nilFunc, intV 0, .bool false], .bool true]) ∧ Below W.heap.size W w' from formOf_2)
  have hb := World.alloc_heap_new w (.cells #[intV 2, sV t, intV n, .slice a m c] nT (0, 0))
  have hB := (Below.refl w.heap.size w).alloc (Nat.le_refl _) (.cells #[intV 2, sV t, intV n, .slice a m c] nT (0, 0))
  have HW4 := Lib.hid (fun (W : World) [T W] => writtenT_any 4 tLb t hg4 (by have : (tLb : Bs).length ≤ 7 := (by decide); omega) r1 hr1 W)
  clear hg4 hl hr1
  go_enter Tryz.func47, Tryz.ntmps47
  go_wp2_with fail
  refine (HI.out _).mono ?_
  rintro e' w1 ⟨rfl, h1⟩
  have hb1 := (h1.block _ (heap_ltT hb)).trans hb
  have hB1 := hB.trans (h1.mono (by simp))
  obtain ⟨p0, p1, p2, p3⟩ := box4T hb1
  have HB1 := Lib.hid (And.intro hb1 hB1)
  clear h1 hb hB hb1 hB1
  go_wp2_with fail
  refine (HF.out _).mono ?_
  rintro e' w2 ⟨rfl, h2⟩
  obtain ⟨hb1, hB1⟩ := HB1.out
  have hb2 := (h2.block _ (heap_ltT hb1)).trans hb1
  have hB2 := hB1.trans (h2.mono hB1.size)
  have hlt := heap_ltT hb2
  obtain ⟨W3, hW3⟩ : ∃ X, w2.alloc (.cells #[sV tLb, .nilFunc, intV 0, .bool false] fmT (0, 0)) = X := ⟨_, rfl⟩
  have hb3 := (by rw [← hW3]; exact (Below.heap_alloc _ _ _ hlt).trans hb2 : W3.heap[w.heap.size]? = some (.cells #[intV 2, sV t, intV n, .slice a m c] nT (0, 0)))
  have hf3 := (by rw [← hW3]; exact World.alloc_heap_new _ _ : W3.heap[w2.heap.size]? = some (.cells #[sV tLb, .nilFunc, intV 0, .bool false] fmT (0, 0)))
  have hB3 : Below w.heap.size w W3 := by rw [← hW3]; exact hB2.alloc (by omega) _
  haveI t3 : T W3 := T.below hB3
  clear p0 p1 p2 p3
  obtain ⟨p0, p1, p2, p3⟩ := box4T hb3
  obtain ⟨f0, f1, f2, f3⟩ := box4T hf3
  have HB3 := Lib.hid hB3
  have HW := Lib.hid hW3
  have HLT := Lib.hid (heap_ltT hf3)
  clear h2 hb1 hB1 hb2 hB2 hlt hb3 hf3 hB3 hW3
  go_upto_region 4 with fail
  rw [HW.out]
  go_wp2_with fail
  refine (HW4.out _).mono ?_
  rintro e' w4 ⟨rfl, h4⟩
  have H4 := Lib.hid (HB3.out.trans (h4.mono HB3.out.size))
  clear h4 p0 p1 p2 p3 f0 f1 f2 f3
  go_wp2
  go_ret2
  exact ⟨rfl, H4.out⟩
set_option maxHeartbeats 2000000 in
theorem around_3 (t : Bs) (n : Int) (hg4 : goodT 4 tPb t = true) (hl : t.length ≤ 50000) (r1 : Bs) (hr1 : prn [⟨4, tPb, t, 0⟩] = r1) (a : Option Addr) (m c : Nat) (w : World) [T w] :
    Calls Tryz.prog 47 #[.agg #[intV 3, sV t, intV n, .slice a m c]] w fun e w' => e = .returned (.tuple #[sV r1, sV []]) ∧ Below w.heap.size w w' := by
  have HI := Lib.hid (fun W => isText_any 3 t n (.slice a m c) false rfl W)
  have HF := Lib.hid (show ∀ W, Calls Tryz.prog 55 #[intV 3] W fun e w' => e = .returned (.tuple #[.agg #[sV tPb, fN, intV 0, .bool false], .bool true]) ∧ Below W.heap.size W w' from formOf_3)
  have hb := World.alloc_heap_new w (.cells #[intV 3, sV t, intV n, .slice a m c] nT (0, 0))
  have hB := (Below.refl w.heap.size w).alloc (Nat.le_refl _) (.cells #[intV 3, sV t, intV n, .slice a m c] nT (0, 0))
  have HW4 := Lib.hid (fun (W : World) [T W] => writtenT_any 4 tPb t hg4 (by have : (tPb : Bs).length ≤ 7 := (by decide); omega) r1 hr1 W)
  clear hg4 hl hr1
  go_enter Tryz.func47, Tryz.ntmps47
  go_wp2_with fail
  refine (HI.out _).mono ?_
  rintro e' w1 ⟨rfl, h1⟩
  have hb1 := (h1.block _ (heap_ltT hb)).trans hb
  have hB1 := hB.trans (h1.mono (by simp))
  obtain ⟨p0, p1, p2, p3⟩ := box4T hb1
  have HB1 := Lib.hid (And.intro hb1 hB1)
  clear h1 hb hB hb1 hB1
  go_wp2_with fail
  refine (HF.out _).mono ?_
  rintro e' w2 ⟨rfl, h2⟩
  obtain ⟨hb1, hB1⟩ := HB1.out
  have hb2 := (h2.block _ (heap_ltT hb1)).trans hb1
  have hB2 := hB1.trans (h2.mono hB1.size)
  have hlt := heap_ltT hb2
  obtain ⟨W3, hW3⟩ : ∃ X, w2.alloc (.cells #[sV tPb, fN, intV 0, .bool false] fmT (0, 0)) = X := ⟨_, rfl⟩
  have hb3 := (by rw [← hW3]; exact (Below.heap_alloc _ _ _ hlt).trans hb2 : W3.heap[w.heap.size]? = some (.cells #[intV 3, sV t, intV n, .slice a m c] nT (0, 0)))
  have hf3 := (by rw [← hW3]; exact World.alloc_heap_new _ _ : W3.heap[w2.heap.size]? = some (.cells #[sV tPb, fN, intV 0, .bool false] fmT (0, 0)))
  have hB3 : Below w.heap.size w W3 := by rw [← hW3]; exact hB2.alloc (by omega) _
  haveI t3 : T W3 := T.below hB3
  clear p0 p1 p2 p3
  obtain ⟨p0, p1, p2, p3⟩ := box4T hb3
  obtain ⟨f0, f1, f2, f3⟩ := box4T hf3
  have HB3 := Lib.hid hB3
  have HW := Lib.hid hW3
  have HLT := Lib.hid (heap_ltT hf3)
  clear h2 hb1 hB1 hb2 hB2 hlt hb3 hf3 hB3 hW3
  go_upto_region 4 with fail
  rw [HW.out]
  go_wp2_with fail
  refine (HW4.out _).mono ?_
  rintro e' w4 ⟨rfl, h4⟩
  have H4 := Lib.hid (HB3.out.trans (h4.mono HB3.out.size))
  clear h4 p0 p1 p2 p3 f0 f1 f2 f3
  go_wp2
  go_ret2
  exact ⟨rfl, H4.out⟩
set_option maxHeartbeats 2000000 in
theorem around_4 (t : Bs) (n : Int) (hg4 : goodT 4 tSec t = true) (hl : t.length ≤ 50000) (r1 : Bs) (hr1 : prn [⟨4, tSec, t, 0⟩] = r1) (a : Option Addr) (m c : Nat) (w : World) [T w] :
    Calls Tryz.prog 47 #[.agg #[intV 4, sV t, intV n, .slice a m c]] w fun e w' => e = .returned (.tuple #[sV r1, sV []]) ∧ Below w.heap.size w w' := by
  have HI := Lib.hid (fun W => isText_any 4 t n (.slice a m c) false rfl W)
  have HF := Lib.hid (show ∀ W, Calls Tryz.prog 55 #[intV 4] W fun e w' => e = .returned (.tuple #[.agg #[sV tSec, fN, intV 0, .bool false], .bool true]) ∧ Below W.heap.size W w' from formOf_4)
  have hb := World.alloc_heap_new w (.cells #[intV 4, sV t, intV n, .slice a m c] nT (0, 0))
  have hB := (Below.refl w.heap.size w).alloc (Nat.le_refl _) (.cells #[intV 4, sV t, intV n, .slice a m c] nT (0, 0))
  have HW4 := Lib.hid (fun (W : World) [T W] => writtenT_any 4 tSec t hg4 (by have : (tSec : Bs).length ≤ 7 := (by decide); omega) r1 hr1 W)
  clear hg4 hl hr1
  go_enter Tryz.func47, Tryz.ntmps47
  go_wp2_with fail
  refine (HI.out _).mono ?_
  rintro e' w1 ⟨rfl, h1⟩
  have hb1 := (h1.block _ (heap_ltT hb)).trans hb
  have hB1 := hB.trans (h1.mono (by simp))
  obtain ⟨p0, p1, p2, p3⟩ := box4T hb1
  have HB1 := Lib.hid (And.intro hb1 hB1)
  clear h1 hb hB hb1 hB1
  go_wp2_with fail
  refine (HF.out _).mono ?_
  rintro e' w2 ⟨rfl, h2⟩
  obtain ⟨hb1, hB1⟩ := HB1.out
  have hb2 := (h2.block _ (heap_ltT hb1)).trans hb1
  have hB2 := hB1.trans (h2.mono hB1.size)
  have hlt := heap_ltT hb2
  obtain ⟨W3, hW3⟩ : ∃ X, w2.alloc (.cells #[sV tSec, fN, intV 0, .bool false] fmT (0, 0)) = X := ⟨_, rfl⟩
  have hb3 := (by rw [← hW3]; exact (Below.heap_alloc _ _ _ hlt).trans hb2 : W3.heap[w.heap.size]? = some (.cells #[intV 4, sV t, intV n, .slice a m c] nT (0, 0)))
  have hf3 := (by rw [← hW3]; exact World.alloc_heap_new _ _ : W3.heap[w2.heap.size]? = some (.cells #[sV tSec, fN, intV 0, .bool false] fmT (0, 0)))
  have hB3 : Below w.heap.size w W3 := by rw [← hW3]; exact hB2.alloc (by omega) _
  haveI t3 : T W3 := T.below hB3
  clear p0 p1 p2 p3
  obtain ⟨p0, p1, p2, p3⟩ := box4T hb3
  obtain ⟨f0, f1, f2, f3⟩ := box4T hf3
  have HB3 := Lib.hid hB3
  have HW := Lib.hid hW3
  have HLT := Lib.hid (heap_ltT hf3)
  clear h2 hb1 hB1 hb2 hB2 hlt hb3 hf3 hB3 hW3
  go_upto_region 4 with fail
  rw [HW.out]
  go_wp2_with fail
  refine (HW4.out _).mono ?_
  rintro e' w4 ⟨rfl, h4⟩
  have H4 := Lib.hid (HB3.out.trans (h4.mono HB3.out.size))
  clear h4 p0 p1 p2 p3 f0 f1 f2 f3
  go_wp2
  go_ret2
  exact ⟨rfl, H4.out⟩
set_option maxHeartbeats 2000000 in
theorem around_5 (t : Bs) (n : Int) (hg4 : goodT 4 tV t = true) (hl : t.length ≤ 50000) (r1 : Bs) (hr1 : prn [⟨4, tV, t, 0⟩] = r1) (a : Option Addr) (m c : Nat) (w : World) [T w] :
    Calls Tryz.prog 47 #[.agg #[intV 5, sV t, intV n, .slice a m c]] w fun e w' => e = .returned (.tuple #[sV r1, sV []]) ∧ Below w.heap.size w w' := by
  have HI := Lib.hid (fun W => isText_any 5 t n (.slice a m c) false rfl W)
  have HF := Lib.hid (show ∀ W, Calls Tryz.prog 55 #[intV 5] W fun e w' => e = .returned (.tuple #[.agg #[sV tV, .nilFunc, intV 0, .bool false], .bool true]) ∧ Below W.heap.size W w' from formOf_5)
  have hb := World.alloc_heap_new w (.cells #[intV 5, sV t, intV n, .slice a m c] nT (0, 0))
  have hB := (Below.refl w.heap.size w).alloc (Nat.le_refl _) (.cells #[intV 5, sV t, intV n, .slice a m c] nT (0, 0))
  have HW4 := Lib.hid (fun (W : World) [T W] => writtenT_any 4 tV t hg4 (by have : (tV : Bs).length ≤ 7 := (by decide); omega) r1 hr1 W)
  clear hg4 hl hr1
  go_enter Tryz.func47, Tryz.ntmps47
  go_wp2_with fail
  refine (HI.out _).mono ?_
  rintro e' w1 ⟨rfl, h1⟩
  have hb1 := (h1.block _ (heap_ltT hb)).trans hb
  have hB1 := hB.trans (h1.mono (by simp))
  obtain ⟨p0, p1, p2, p3⟩ := box4T hb1
  have HB1 := Lib.hid (And.intro hb1 hB1)
  clear h1 hb hB hb1 hB1
  go_wp2_with fail
  refine (HF.out _).mono ?_
  rintro e' w2 ⟨rfl, h2⟩
  obtain ⟨hb1, hB1⟩ := HB1.out
  have hb2 := (h2.block _ (heap_ltT hb1)).trans hb1
  have hB2 := hB1.trans (h2.mono hB1.size)
  have hlt := heap_ltT hb2
  obtain ⟨W3, hW3⟩ : ∃ X, w2.alloc (.cells #[sV tV, .nilFunc, intV 0, .bool false] fmT (0, 0)) = X := ⟨_, rfl⟩
  have hb3 := (by rw [← hW3]; exact (Below.heap_alloc _ _ _ hlt).trans hb2 : W3.heap[w.heap.size]? = some (.cells #[intV 5, sV t, intV n, .slice a m c] nT (0, 0)))
  have hf3 := (by rw [← hW3]; exact World.alloc_heap_new _ _ : W3.heap[w2.heap.size]? = some (.cells #[sV tV, .nilFunc, intV 0, .bool false] fmT (0, 0)))
  have hB3 : Below w.heap.size w W3 := by rw [← hW3]; exact hB2.alloc (by omega) _
  haveI t3 : T W3 := T.below hB3
  clear p0 p1 p2 p3
  obtain ⟨p0, p1, p2, p3⟩ := box4T hb3
  obtain ⟨f0, f1, f2, f3⟩ := box4T hf3
  have HB3 := Lib.hid hB3
  have HW := Lib.hid hW3
  have HLT := Lib.hid (heap_ltT hf3)
  clear h2 hb1 hB1 hb2 hB2 hlt hb3 hf3 hB3 hW3
  go_upto_region 4 with fail
  rw [HW.out]
  go_wp2_with fail
  refine (HW4.out _).mono ?_
  rintro e' w4 ⟨rfl, h4⟩
  have H4 := Lib.hid (HB3.out.trans (h4.mono HB3.out.size))
  clear h4 p0 p1 p2 p3 f0 f1 f2 f3
  go_wp2
  go_ret2
  exact ⟨rfl, H4.out⟩
set_option maxHeartbeats 2000000 in
theorem around_6 (t : Bs) (n : Int) (h1 : 1 ≤ n) (h2 : n ≤ 64) (v : Bs) (hv : Lib.itoa n = v) (hg4 : goodT 4 tGap v = true) (hl : v.length ≤ 50000) (r1 : Bs) (hr1 : prn [⟨4, tGap, v, 0⟩] = r1) (a : Option Addr) (m c : Nat) (w : World) [T w] :
    Calls Tryz.prog 47 #[.agg #[intV 6, sV t, intV n, .slice a m c]] w fun e w' => e = .returned (.tuple #[sV r1, sV []]) ∧ Below w.heap.size w w' := by
  have HI := Lib.hid (fun W => isText_any 6 t n (.slice a m c) false rfl W)
  have HF := Lib.hid (show ∀ W, Calls Tryz.prog 55 #[intV 6] W fun e w' => e = .returned (.tuple #[.agg #[sV tGap, .nilFunc, intV 64, .bool false], .bool true]) ∧ Below W.heap.size W w' from formOf_6)
  have hb := World.alloc_heap_new w (.cells #[intV 6, sV t, intV n, .slice a m c] nT (0, 0))
  have hB := (Below.refl w.heap.size w).alloc (Nat.le_refl _) (.cells #[intV 6, sV t, intV n, .slice a m c] nT (0, 0))
  obtain ⟨i, rfl⟩ : ∃ i : Nat, n = (i : Int) := ⟨n.toNat, by omega⟩
  have HIT := Lib.hid (fun W => itoa_any i (by omega) W)
  rw [show ddN i = v by rw [← hv, ← dd_eq (by omega)]; unfold Lib.itoa; rw [if_neg (by omega)]; rfl] at HIT
  clear hv h1 h2
  have HW4 := Lib.hid (fun (W : World) [T W] => writtenT_any 4 tGap v hg4 (by have : (tGap : Bs).length ≤ 7 := (by decide); omega) r1 hr1 W)
  clear hg4 hl hr1
  go_enter Tryz.func47, Tryz.ntmps47
  go_wp2_with fail
  refine (HI.out _).mono ?_
  rintro e' w1 ⟨rfl, h1⟩
  have hb1 := (h1.block _ (heap_ltT hb)).trans hb
  have hB1 := hB.trans (h1.mono (by simp))
  obtain ⟨p0, p1, p2, p3⟩ := box4T hb1
  have HB1 := Lib.hid (And.intro hb1 hB1)
  clear h1 hb hB hb1 hB1
  go_wp2_with fail
  refine (HF.out _).mono ?_
  rintro e' w2 ⟨rfl, h2⟩
  obtain ⟨hb1, hB1⟩ := HB1.out
  have hb2 := (h2.block _ (heap_ltT hb1)).trans hb1
  have hB2 := hB1.trans (h2.mono hB1.size)
  have hlt := heap_ltT hb2
  obtain ⟨W3, hW3⟩ : ∃ X, w2.alloc (.cells #[sV tGap, .nilFunc, intV 64, .bool false] fmT (0, 0)) = X := ⟨_, rfl⟩
  have hb3 := (by rw [← hW3]; exact (Below.heap_alloc _ _ _ hlt).trans hb2 : W3.heap[w.heap.size]? = some (.cells #[intV 6, sV t, intV i, .slice a m c] nT (0, 0)))
  have hf3 := (by rw [← hW3]; exact World.alloc_heap_new _ _ : W3.heap[w2.heap.size]? = some (.cells #[sV tGap, .nilFunc, intV 64, .bool false] fmT (0, 0)))
  have hB3 : Below w.heap.size w W3 := by rw [← hW3]; exact hB2.alloc (by omega) _
  haveI t3 : T W3 := T.below hB3
  clear p0 p1 p2 p3
  obtain ⟨p0, p1, p2, p3⟩ := box4T hb3
  obtain ⟨f0, f1, f2, f3⟩ := box4T hf3
  have HB3 := Lib.hid hB3
  have HW := Lib.hid hW3
  have HLT := Lib.hid (heap_ltT hf3)
  clear h2 hb1 hB1 hb2 hB2 hlt hb3 hf3 hB3 hW3
  go_upto_region 4 with fail
  rw [HW.out]
  go_wp2_with fail
  refine (HIT.out _).mono ?_
  rintro e' w5 ⟨rfl, hw5⟩
  rw [hw5]
  clear hw5 w5
  go_wp2_with fail
  refine (HW4.out _).mono ?_
  rintro e' w4 ⟨rfl, h4⟩
  have H4 := Lib.hid (HB3.out.trans (h4.mono HB3.out.size))
  clear h4 p0 p1 p2 p3 f0 f1 f2 f3
  go_wp2
  go_ret2
  exact ⟨rfl, H4.out⟩
set_option maxHeartbeats 2000000 in
theorem around_7 (t : Bs) (n : Int) (hg2 : goodT 2 tUn t = true) (hg3 : goodT 3 tUn [] = true) (hl : t.length ≤ 50000) (r1 r2 : Bs) (hr1 : prn [⟨2, tUn, t, 0⟩] = r1) (hr2 : prn [⟨3, tUn, [], 0⟩] = r2) (a : Option Addr) (m c : Nat) (w : World) [T w] :
    Calls Tryz.prog 47 #[.agg #[intV 7, sV t, intV n, .slice a m c]] w fun e w' => e = .returned (.tuple #[sV r1, sV r2]) ∧ Below w.heap.size w w' := by
  have HI := Lib.hid (fun W => isText_any 7 t n (.slice a m c) false rfl W)
  have HF := Lib.hid (show ∀ W, Calls Tryz.prog 55 #[intV 7] W fun e w' => e = .returned (.tuple #[.agg #[sV tUn, .nilFunc, intV 0, .bool true], .bool true]) ∧ Below W.heap.size W w' from formOf_7)
  have hb := World.alloc_heap_new w (.cells #[intV 7, sV t, intV n, .slice a m c] nT (0, 0))
  have hB := (Below.refl w.heap.size w).alloc (Nat.le_refl _) (.cells #[intV 7, sV t, intV n, .slice a m c] nT (0, 0))
  have HW2 := Lib.hid (fun (W : World) [T W] => writtenT_any 2 tUn t hg2 (by have : (tUn : Bs).length ≤ 7 := (by decide); omega) r1 hr1 W)
  have HW3 := Lib.hid (fun (W : World) [T W] => writtenT_any 3 tUn [] hg3 (by decide) r2 hr2 W)
  clear hg2 hg3 hl hr1 hr2
  go_enter Tryz.func47, Tryz.ntmps47
  go_wp2_with fail
  refine (HI.out _).mono ?_
  rintro e' w1 ⟨rfl, h1⟩
  have hb1 := (h1.block _ (heap_ltT hb)).trans hb
  have hB1 := hB.trans (h1.mono (by simp))
  obtain ⟨p0, p1, p2, p3⟩ := box4T hb1
  have HB1 := Lib.hid (And.intro hb1 hB1)
  clear h1 hb hB hb1 hB1
  go_wp2_with fail
  refine (HF.out _).mono ?_
  rintro e' w2 ⟨rfl, h2⟩
  obtain ⟨hb1, hB1⟩ := HB1.out
  have hb2 := (h2.block _ (heap_ltT hb1)).trans hb1
  have hB2 := hB1.trans (h2.mono hB1.size)
  have hlt := heap_ltT hb2
  obtain ⟨W3, hW3⟩ : ∃ X, w2.alloc (.cells #[sV tUn, .nilFunc, intV 0, .bool true] fmT (0, 0)) = X := ⟨_, rfl⟩
  have hb3 := (by rw [← hW3]; exact (Below.heap_alloc _ _ _ hlt).trans hb2 : W3.heap[w.heap.size]? = some (.cells #[intV 7, sV t, intV n, .slice a m c] nT (0, 0)))
  have hf3 := (by rw [← hW3]; exact World.alloc_heap_new _ _ : W3.heap[w2.heap.size]? = some (.cells #[sV tUn, .nilFunc, intV 0, .bool true] fmT (0, 0)))
  have hB3 : Below w.heap.size w W3 := by rw [← hW3]; exact hB2.alloc (by omega) _
  haveI t3 : T W3 := T.below hB3
  clear p0 p1 p2 p3
  obtain ⟨p0, p1, p2, p3⟩ := box4T hb3
  obtain ⟨f0, f1, f2, f3⟩ := box4T hf3
  have HB3 := Lib.hid hB3
  have HW := Lib.hid hW3
  have HLT := Lib.hid (heap_ltT hf3)
  clear h2 hb1 hB1 hb2 hB2 hlt hb3 hf3 hB3 hW3
  go_upto_region 4 with fail
  rw [HW.out]
  go_wp2_with fail
  have HD := Lib.hid (show W3.drew.cell? ⟨w2.heap.size, 0, none⟩ = some (sV tUn) from f0)
  haveI t3d : T W3.drew := T.below (w0 := W3) (below_drew1S _)
  clear p0 p1 p2 p3 f0 f1 f2 f3
  have HBD := Lib.hid (HB3.out.trans (below_drew1S (N := w.heap.size) W3))
  refine wp_region_noPanic ?_
  refine wp_region_any (by kernel_rfl) (wpAny_of_k (S := fun _ => True) (S' := fun W' => W'.cell? ⟨w2.heap.size, 0, none⟩ = some (sV tUn)) (k := 99) _ _ _ _ ?_)
  change wpAnyK _ _ _ _ _ _ _ 9 _ _ W3.drew
  refine wpAnyK_takeD (i := 0) (v := .pointer (some ⟨w2.heap.size, 0, none⟩)) (some 32) rfl rfl (by kernel_rfl) (by kernel_rfl) (by kernel_rfl) (by decide) (fun _ _ _ h => h) (Or.inl ⟨by rfl, fun w' hw' => ?_⟩) (fun _ => trivial) (HD.out) ?_
  · go_simp
  (try simp only [Act.put, List.setIfInBounds_toArray, List.set_cons_zero, List.set_cons_succ])
  refine wpAnyK_takeD (i := 1) (v := sV tUn) (some 33) rfl rfl (by kernel_rfl) (by kernel_rfl) (by kernel_rfl) (by decide) (fun _ _ _ h => h) (Or.inl ⟨by rfl, fun w' hw' => ?_⟩) (fun _ => trivial) (HD.out) ?_
  · have e1 := hw'; go_simp
  (try simp only [Act.put, List.setIfInBounds_toArray, List.set_cons_zero, List.set_cons_succ])
  refine wpAnyK_takeD (i := 2) (v := sV t) (some 34) rfl rfl (by kernel_rfl) (by kernel_rfl) (by kernel_rfl) (by decide) (fun _ _ _ h => h) (Or.inl ⟨by rfl, fun w' hw' => ?_⟩) (fun _ => trivial) (HD.out) ?_
  · go_simp
  (try simp only [Act.put, List.setIfInBounds_toArray, List.set_cons_zero, List.set_cons_succ])
  refine wpAnyK_takeD (i := 4) (v := .pointer (some ⟨w2.heap.size, 0, none⟩)) (some 36) rfl rfl (by kernel_rfl) (by kernel_rfl) (by kernel_rfl) (by decide) (fun _ _ _ h => h) (Or.inl ⟨by rfl, fun w' hw' => ?_⟩) (fun _ => trivial) (HD.out) ?_
  · go_simp
  (try simp only [Act.put, List.setIfInBounds_toArray, List.set_cons_zero, List.set_cons_succ])
  refine wpAnyK_takeD (i := 5) (v := sV tUn) (some 37) rfl rfl (by kernel_rfl) (by kernel_rfl) (by kernel_rfl) (by decide) (fun _ _ _ h => h) (Or.inl ⟨by rfl, fun w' hw' => ?_⟩) (fun _ => trivial) (HD.out) ?_
  · have e1 := hw'; go_simp
  (try simp only [Act.put, List.setIfInBounds_toArray, List.set_cons_zero, List.set_cons_succ])
  refine wpAnyK_all (rs := [3]) (by kernel_rfl) (by simp) ?_
  intro i' hi'
  obtain rfl := List.mem_singleton.1 hi'
  clear hi'
  refine wpOp_step rfl fun K hK => ?_
  go_simp
  go_at_call 75
  refine (HW2.out _).mono ?_
  rintro e' w4 ⟨rfl, h4⟩
  have HD4 := Lib.hid ((h4.cell (p := ⟨w2.heap.size, 0, none⟩) (cellT_lt HD.out)).trans HD.out)
  have HB4 := Lib.hid (below_then HBD.out h4)
  haveI t4 : T w4 := T.below h4
  clear h4
  refine hK _ _ ⟨fun _ => trivial, HD4.out, ?_⟩
  clear hK K
  (try simp only [Act.put, List.setIfInBounds_toArray, List.set_cons_zero, List.set_cons_succ])
  refine wpAnyK_all (rs := [6]) (by kernel_rfl) (by simp) ?_
  intro i' hi'
  obtain rfl := List.mem_singleton.1 hi'
  clear hi'
  refine wpOp_step rfl fun K hK => ?_
  go_simp
  go_at_call 75
  refine (HW3.out _).mono ?_
  rintro e' w5 ⟨rfl, h5⟩
  have HD5 := Lib.hid ((h5.cell (p := ⟨w2.heap.size, 0, none⟩) (cellT_lt HD4.out)).trans HD4.out)
  have HB5 := Lib.hid (below_then HB4.out h5)
  clear h5
  refine hK _ _ ⟨fun _ => trivial, HD5.out, ?_⟩
  clear hK K
  (try simp only [Act.put, List.setIfInBounds_toArray, List.set_cons_zero, List.set_cons_succ])
  refine wpAnyK_takeD (i := 7) (v := sV r1) (some 2) rfl rfl (by kernel_rfl) (by kernel_rfl) (by kernel_rfl) (by decide) (fun _ _ _ h => h) (Or.inl ⟨by rfl, fun w' hw' => ?_⟩) (fun _ => trivial) (HD5.out) ?_
  · go_simp
  (try simp only [Act.put, List.setIfInBounds_toArray, List.set_cons_zero, List.set_cons_succ])
  refine wpAnyK_takeD (i := 8) (v := sV r2) (some 3) rfl rfl (by kernel_rfl) (by kernel_rfl) (by kernel_rfl) (by decide) (fun _ _ _ h => h) (Or.inl ⟨by rfl, fun w' hw' => ?_⟩) (fun _ => trivial) (HD5.out) ?_
  · go_simp
  (try simp only [Act.put, List.setIfInBounds_toArray, List.set_cons_zero, List.set_cons_succ])
  refine wpAnyK_done (by kernel_rfl) ?_ _
  refine NoPanic.normal ?_
  go_wp2
  go_ret2
  exact ⟨rfl, HB5.out⟩
set_option maxHeartbeats 2000000 in
theorem around_8 (t : Bs) (n : Int) (h1 : 1 ≤ n) (h2 : n ≤ 8) (v : Bs) (hv : Lib.itoa n = v) (hg2 : goodT 2 tAdd v = true) (hg3 : goodT 3 tAdd [] = true) (hl : v.length ≤ 50000) (r1 r2 : Bs) (hr1 : prn [⟨2, tAdd, v, 0⟩] = r1) (hr2 : prn [⟨3, tAdd, [], 0⟩] = r2) (a : Option Addr) (m c : Nat) (w : World) [T w] :
    Calls Tryz.prog 47 #[.agg #[intV 8, sV t, intV n, .slice a m c]] w fun e w' => e = .returned (.tuple #[sV r1, sV r2]) ∧ Below w.heap.size w w' := by
  have HI := Lib.hid (fun W => isText_any 8 t n (.slice a m c) false rfl W)
  have HF := Lib.hid (show ∀ W, Calls Tryz.prog 55 #[intV 8] W fun e w' => e = .returned (.tuple #[.agg #[sV tAdd, .nilFunc, intV 8, .bool true], .bool true]) ∧ Below W.heap.size W w' from formOf_8)
  have hb := World.alloc_heap_new w (.cells #[intV 8, sV t, intV n, .slice a m c] nT (0, 0))
  have hB := (Below.refl w.heap.size w).alloc (Nat.le_refl _) (.cells #[intV 8, sV t, intV n, .slice a m c] nT (0, 0))
  obtain ⟨i, rfl⟩ : ∃ i : Nat, n = (i : Int) := ⟨n.toNat, by omega⟩
  have HIT := Lib.hid (fun W => itoa_any i (by omega) W)
  rw [show ddN i = v by rw [← hv, ← dd_eq (by omega)]; unfold Lib.itoa; rw [if_neg (by omega)]; rfl] at HIT
  clear hv h1 h2
  have HW2 := Lib.hid (fun (W : World) [T W] => writtenT_any 2 tAdd v hg2 (by have : (tAdd : Bs).length ≤ 7 := (by decide); omega) r1 hr1 W)
  have HW3 := Lib.hid (fun (W : World) [T W] => writtenT_any 3 tAdd [] hg3 (by decide) r2 hr2 W)
  clear hg2 hg3 hl hr1 hr2
  go_enter Tryz.func47, Tryz.ntmps47
  go_wp2_with fail
  refine (HI.out _).mono ?_
  rintro e' w1 ⟨rfl, h1⟩
  have hb1 := (h1.block _ (heap_ltT hb)).trans hb
  have hB1 := hB.trans (h1.mono (by simp))
  obtain ⟨p0, p1, p2, p3⟩ := box4T hb1
  have HB1 := Lib.hid (And.intro hb1 hB1)
  clear h1 hb hB hb1 hB1
  go_wp2_with fail
  refine (HF.out _).mono ?_
  rintro e' w2 ⟨rfl, h2⟩
  obtain ⟨hb1, hB1⟩ := HB1.out
  have hb2 := (h2.block _ (heap_ltT hb1)).trans hb1
  have hB2 := hB1.trans (h2.mono hB1.size)
  have hlt := heap_ltT hb2
  obtain ⟨W3, hW3⟩ : ∃ X, w2.alloc (.cells #[sV tAdd, .nilFunc, intV 8, .bool true] fmT (0, 0)) = X := ⟨_, rfl⟩
  have hb3 := (by rw [← hW3]; exact (Below.heap_alloc _ _ _ hlt).trans hb2 : W3.heap[w.heap.size]? = some (.cells #[intV 8, sV t, intV i, .slice a m c] nT (0, 0)))
  have hf3 := (by rw [← hW3]; exact World.alloc_heap_new _ _ : W3.heap[w2.heap.size]? = some (.cells #[sV tAdd, .nilFunc, intV 8, .bool true] fmT (0, 0)))
  have hB3 : Below w.heap.size w W3 := by rw [← hW3]; exact hB2.alloc (by omega) _
  haveI t3 : T W3 := T.below hB3
  clear p0 p1 p2 p3
  obtain ⟨p0, p1, p2, p3⟩ := box4T hb3
  obtain ⟨f0, f1, f2, f3⟩ := box4T hf3
  have HB3 := Lib.hid hB3
  have HW := Lib.hid hW3
  have HLT := Lib.hid (heap_ltT hf3)
  clear h2 hb1 hB1 hb2 hB2 hlt hb3 hf3 hB3 hW3
  go_upto_region 4 with fail
  rw [HW.out]
  go_wp2_with fail
  refine (HIT.out _).mono ?_
  rintro e' w5 ⟨rfl, hw5⟩
  rw [hw5]
  clear hw5 w5
  go_wp2_with fail
  have HD := Lib.hid (show W3.drew.cell? ⟨w2.heap.size, 0, none⟩ = some (sV tAdd) from f0)
  haveI t3d : T W3.drew := T.below (w0 := W3) (below_drew1S _)
  clear p0 p1 p2 p3 f0 f1 f2 f3
  have HBD := Lib.hid (HB3.out.trans (below_drew1S (N := w.heap.size) W3))
  refine wp_region_noPanic ?_
  refine wp_region_any (by kernel_rfl) (wpAny_of_k (S := fun _ => True) (S' := fun W' => W'.cell? ⟨w2.heap.size, 0, none⟩ = some (sV tAdd)) (k := 99) _ _ _ _ ?_)
  change wpAnyK _ _ _ _ _ _ _ 9 _ _ W3.drew
  refine wpAnyK_takeD (i := 0) (v := .pointer (some ⟨w2.heap.size, 0, none⟩)) (some 32) rfl rfl (by kernel_rfl) (by kernel_rfl) (by kernel_rfl) (by decide) (fun _ _ _ h => h) (Or.inl ⟨by rfl, fun w' hw' => ?_⟩) (fun _ => trivial) (HD.out) ?_
  · go_simp
  (try simp only [Act.put, List.setIfInBounds_toArray, List.set_cons_zero, List.set_cons_succ])
  refine wpAnyK_takeD (i := 1) (v := sV tAdd) (some 33) rfl rfl (by kernel_rfl) (by kernel_rfl) (by kernel_rfl) (by decide) (fun _ _ _ h => h) (Or.inl ⟨by rfl, fun w' hw' => ?_⟩) (fun _ => trivial) (HD.out) ?_
  · have e1 := hw'; go_simp
  (try simp only [Act.put, List.setIfInBounds_toArray, List.set_cons_zero, List.set_cons_succ])
  refine wpAnyK_takeD (i := 2) (v := sV v) (some 34) rfl rfl (by kernel_rfl) (by kernel_rfl) (by kernel_rfl) (by decide) (fun _ _ _ h => h) (Or.inl ⟨by rfl, fun w' hw' => ?_⟩) (fun _ => trivial) (HD.out) ?_
  · go_simp
  (try simp only [Act.put, List.setIfInBounds_toArray, List.set_cons_zero, List.set_cons_succ])
  refine wpAnyK_takeD (i := 4) (v := .pointer (some ⟨w2.heap.size, 0, none⟩)) (some 36) rfl rfl (by kernel_rfl) (by kernel_rfl) (by kernel_rfl) (by decide) (fun _ _ _ h => h) (Or.inl ⟨by rfl, fun w' hw' => ?_⟩) (fun _ => trivial) (HD.out) ?_
  · go_simp
  (try simp only [Act.put, List.setIfInBounds_toArray, List.set_cons_zero, List.set_cons_succ])
  refine wpAnyK_takeD (i := 5) (v := sV tAdd) (some 37) rfl rfl (by kernel_rfl) (by kernel_rfl) (by kernel_rfl) (by decide) (fun _ _ _ h => h) (Or.inl ⟨by rfl, fun w' hw' => ?_⟩) (fun _ => trivial) (HD.out) ?_
  · have e1 := hw'; go_simp
  (try simp only [Act.put, List.setIfInBounds_toArray, List.set_cons_zero, List.set_cons_succ])
  refine wpAnyK_all (rs := [3]) (by kernel_rfl) (by simp) ?_
  intro i' hi'
  obtain rfl := List.mem_singleton.1 hi'
  clear hi'
  refine wpOp_step rfl fun K hK => ?_
  go_simp
  go_at_call 75
  refine (HW2.out _).mono ?_
  rintro e' w4 ⟨rfl, h4⟩
  have HD4 := Lib.hid ((h4.cell (p := ⟨w2.heap.size, 0, none⟩) (cellT_lt HD.out)).trans HD.out)
  have HB4 := Lib.hid (below_then HBD.out h4)
  haveI t4 : T w4 := T.below h4
  clear h4
  refine hK _ _ ⟨fun _ => trivial, HD4.out, ?_⟩
  clear hK K
  (try simp only [Act.put, List.setIfInBounds_toArray, List.set_cons_zero, List.set_cons_succ])
  refine wpAnyK_all (rs := [6]) (by kernel_rfl) (by simp) ?_
  intro i' hi'
  obtain rfl := List.mem_singleton.1 hi'
  clear hi'
  refine wpOp_step rfl fun K hK => ?_
  go_simp
  go_at_call 75
  refine (HW3.out _).mono ?_
  rintro e' w5 ⟨rfl, h5⟩
  have HD5 := Lib.hid ((h5.cell (p := ⟨w2.heap.size, 0, none⟩) (cellT_lt HD4.out)).trans HD4.out)
  have HB5 := Lib.hid (below_then HB4.out h5)
  clear h5
  refine hK _ _ ⟨fun _ => trivial, HD5.out, ?_⟩
  clear hK K
  (try simp only [Act.put, List.setIfInBounds_toArray, List.set_cons_zero, List.set_cons_succ])
  refine wpAnyK_takeD (i := 7) (v := sV r1) (some 2) rfl rfl (by kernel_rfl) (by kernel_rfl) (by kernel_rfl) (by decide) (fun _ _ _ h => h) (Or.inl ⟨by rfl, fun w' hw' => ?_⟩) (fun _ => trivial) (HD5.out) ?_
  · go_simp
  (try simp only [Act.put, List.setIfInBounds_toArray, List.set_cons_zero, List.set_cons_succ])
  refine wpAnyK_takeD (i := 8) (v := sV r2) (some 3) rfl rfl (by kernel_rfl) (by kernel_rfl) (by kernel_rfl) (by decide) (fun _ _ _ h => h) (Or.inl ⟨by rfl, fun w' hw' => ?_⟩) (fun _ => trivial) (HD5.out) ?_
  · go_simp
  (try simp only [Act.put, List.setIfInBounds_toArray, List.set_cons_zero, List.set_cons_succ])
  refine wpAnyK_done (by kernel_rfl) ?_ _
  refine NoPanic.normal ?_
  go_wp2
  go_ret2
  exact ⟨rfl, HB5.out⟩
set_option maxHeartbeats 2000000 in
theorem around_9 (t : Bs) (n : Int) (h1 : 1 ≤ n) (h2 : n ≤ 8) (v : Bs) (hv : Lib.itoa n = v) (hg2 : goodT 2 tDel v = true) (hg3 : goodT 3 tDel [] = true) (hl : v.length ≤ 50000) (r1 r2 : Bs) (hr1 : prn [⟨2, tDel, v, 0⟩] = r1) (hr2 : prn [⟨3, tDel, [], 0⟩] = r2) (a : Option Addr) (m c : Nat) (w : World) [T w] :
    Calls Tryz.prog 47 #[.agg #[intV 9, sV t, intV n, .slice a m c]] w fun e w' => e = .returned (.tuple #[sV r1, sV r2]) ∧ Below w.heap.size w w' := by
  have HI := Lib.hid (fun W => isText_any 9 t n (.slice a m c) false rfl W)
  have HF := Lib.hid (show ∀ W, Calls Tryz.prog 55 #[intV 9] W fun e w' => e = .returned (.tuple #[.agg #[sV tDel, .nilFunc, intV 8, .bool true], .bool true]) ∧ Below W.heap.size W w' from formOf_9)
  have hb := World.alloc_heap_new w (.cells #[intV 9, sV t, intV n, .slice a m c] nT (0, 0))
  have hB := (Below.refl w.heap.size w).alloc (Nat.le_refl _) (.cells #[intV 9, sV t, intV n, .slice a m c] nT (0, 0))
  obtain ⟨i, rfl⟩ : ∃ i : Nat, n = (i : Int) := ⟨n.toNat, by omega⟩
  have HIT := Lib.hid (fun W => itoa_any i (by omega) W)
  rw [show ddN i = v by rw [← hv, ← dd_eq (by omega)]; unfold Lib.itoa; rw [if_neg (by omega)]; rfl] at HIT
  clear hv h1 h2
  have HW2 := Lib.hid (fun (W : World) [T W] => writtenT_any 2 tDel v hg2 (by have : (tDel : Bs).length ≤ 7 := (by decide); omega) r1 hr1 W)
  have HW3 := Lib.hid (fun (W : World) [T W] => writtenT_any 3 tDel [] hg3 (by decide) r2 hr2 W)
  clear hg2 hg3 hl hr1 hr2
  go_enter Tryz.func47, Tryz.ntmps47
  go_wp2_with fail
  refine (HI.out _).mono ?_
  rintro e' w1 ⟨rfl, h1⟩
  have hb1 := (h1.block _ (heap_ltT hb)).trans hb
  have hB1 := hB.trans (h1.mono (by simp))
  obtain ⟨p0, p1, p2, p3⟩ := box4T hb1
  have HB1 := Lib.hid (And.intro hb1 hB1)
  clear h1 hb hB hb1 hB1
  go_wp2_with fail
  refine (HF.out _).mono ?_
  rintro e' w2 ⟨rfl, h2⟩
  obtain ⟨hb1, hB1⟩ := HB1.out
  have hb2 := (h2.block _ (heap_ltT hb1)).trans hb1
  have hB2 := hB1.trans (h2.mono hB1.size)
  have hlt := heap_ltT hb2
  obtain ⟨W3, hW3⟩ : ∃ X, w2.alloc (.cells #[sV tDel, .nilFunc, intV 8, .bool true] fmT (0, 0)) = X := ⟨_, rfl⟩
  have hb3 := (by rw [← hW3]; exact (Below.heap_alloc _ _ _ hlt).trans hb2 : W3.heap[w.heap.size]? = some (.cells #[intV 9, sV t, intV i, .slice a m c] nT (0, 0)))
  have hf3 := (by rw [← hW3]; exact World.alloc_heap_new _ _ : W3.heap[w2.heap.size]? = some (.cells #[sV tDel, .nilFunc, intV 8, .bool true] fmT (0, 0)))
  have hB3 : Below w.heap.size w W3 := by rw [← hW3]; exact hB2.alloc (by omega) _
  haveI t3 : T W3 := T.below hB3
  clear p0 p1 p2 p3
  obtain ⟨p0, p1, p2, p3⟩ := box4T hb3
  obtain ⟨f0, f1, f2, f3⟩ := box4T hf3
  have HB3 := Lib.hid hB3
  have HW := Lib.hid hW3
  have HLT := Lib.hid (heap_ltT hf3)
  clear h2 hb1 hB1 hb2 hB2 hlt hb3 hf3 hB3 hW3
  go_upto_region 4 with fail
  rw [HW.out]
  go_wp2_with fail
  refine (HIT.out _).mono ?_
  rintro e' w5 ⟨rfl, hw5⟩
  rw [hw5]
  clear hw5 w5
  go_wp2_with fail
  have HD := Lib.hid (show W3.drew.cell? ⟨w2.heap.size, 0, none⟩ = some (sV tDel) from f0)
  haveI t3d : T W3.drew := T.below (w0 := W3) (below_drew1S _)
  clear p0 p1 p2 p3 f0 f1 f2 f3
  have HBD := Lib.hid (HB3.out.trans (below_drew1S (N := w.heap.size) W3))
  refine wp_region_noPanic ?_
  refine wp_region_any (by kernel_rfl) (wpAny_of_k (S := fun _ => True) (S' := fun W' => W'.cell? ⟨w2.heap.size, 0, none⟩ = some (sV tDel)) (k := 99) _ _ _ _ ?_)
  change wpAnyK _ _ _ _ _ _ _ 9 _ _ W3.drew
  refine wpAnyK_takeD (i := 0) (v := .pointer (some ⟨w2.heap.size, 0, none⟩)) (some 32) rfl rfl (by kernel_rfl) (by kernel_rfl) (by kernel_rfl) (by decide) (fun _ _ _ h => h) (Or.inl ⟨by rfl, fun w' hw' => ?_⟩) (fun _ => trivial) (HD.out) ?_
  · go_simp
  (try simp only [Act.put, List.setIfInBounds_toArray, List.set_cons_zero, List.set_cons_succ])
  refine wpAnyK_takeD (i := 1) (v := sV tDel) (some 33) rfl rfl (by kernel_rfl) (by kernel_rfl) (by kernel_rfl) (by decide) (fun _ _ _ h => h) (Or.inl ⟨by rfl, fun w' hw' => ?_⟩) (fun _ => trivial) (HD.out) ?_
  · have e1 := hw'; go_simp
  (try simp only [Act.put, List.setIfInBounds_toArray, List.set_cons_zero, List.set_cons_succ])
  refine wpAnyK_takeD (i := 2) (v := sV v) (some 34) rfl rfl (by kernel_rfl) (by kernel_rfl) (by kernel_rfl) (by decide) (fun _ _ _ h => h) (Or.inl ⟨by rfl, fun w' hw' => ?_⟩) (fun _ => trivial) (HD.out) ?_
  · go_simp
  (try simp only [Act.put, List.setIfInBounds_toArray, List.set_cons_zero, List.set_cons_succ])
  refine wpAnyK_takeD (i := 4) (v := .pointer (some ⟨w2.heap.size, 0, none⟩)) (some 36) rfl rfl (by kernel_rfl) (by kernel_rfl) (by kernel_rfl) (by decide) (fun _ _ _ h => h) (Or.inl ⟨by rfl, fun w' hw' => ?_⟩) (fun _ => trivial) (HD.out) ?_
  · go_simp
  (try simp only [Act.put, List.setIfInBounds_toArray, List.set_cons_zero, List.set_cons_succ])
  refine wpAnyK_takeD (i := 5) (v := sV tDel) (some 37) rfl rfl (by kernel_rfl) (by kernel_rfl) (by kernel_rfl) (by decide) (fun _ _ _ h => h) (Or.inl ⟨by rfl, fun w' hw' => ?_⟩) (fun _ => trivial) (HD.out) ?_
  · have e1 := hw'; go_simp
  (try simp only [Act.put, List.setIfInBounds_toArray, List.set_cons_zero, List.set_cons_succ])
  refine wpAnyK_all (rs := [3]) (by kernel_rfl) (by simp) ?_
  intro i' hi'
  obtain rfl := List.mem_singleton.1 hi'
  clear hi'
  refine wpOp_step rfl fun K hK => ?_
  go_simp
  go_at_call 75
  refine (HW2.out _).mono ?_
  rintro e' w4 ⟨rfl, h4⟩
  have HD4 := Lib.hid ((h4.cell (p := ⟨w2.heap.size, 0, none⟩) (cellT_lt HD.out)).trans HD.out)
  have HB4 := Lib.hid (below_then HBD.out h4)
  haveI t4 : T w4 := T.below h4
  clear h4
  refine hK _ _ ⟨fun _ => trivial, HD4.out, ?_⟩
  clear hK K
  (try simp only [Act.put, List.setIfInBounds_toArray, List.set_cons_zero, List.set_cons_succ])
  refine wpAnyK_all (rs := [6]) (by kernel_rfl) (by simp) ?_
  intro i' hi'
  obtain rfl := List.mem_singleton.1 hi'
  clear hi'
  refine wpOp_step rfl fun K hK => ?_
  go_simp
  go_at_call 75
  refine (HW3.out _).mono ?_
  rintro e' w5 ⟨rfl, h5⟩
  have HD5 := Lib.hid ((h5.cell (p := ⟨w2.heap.size, 0, none⟩) (cellT_lt HD4.out)).trans HD4.out)
  have HB5 := Lib.hid (below_then HB4.out h5)
  clear h5
  refine hK _ _ ⟨fun _ => trivial, HD5.out, ?_⟩
  clear hK K
  (try simp only [Act.put, List.setIfInBounds_toArray, List.set_cons_zero, List.set_cons_succ])
  refine wpAnyK_takeD (i := 7) (v := sV r1) (some 2) rfl rfl (by kernel_rfl) (by kernel_rfl) (by kernel_rfl) (by decide) (fun _ _ _ h => h) (Or.inl ⟨by rfl, fun w' hw' => ?_⟩) (fun _ => trivial) (HD5.out) ?_
  · go_simp
  (try simp only [Act.put, List.setIfInBounds_toArray, List.set_cons_zero, List.set_cons_succ])
  refine wpAnyK_takeD (i := 8) (v := sV r2) (some 3) rfl rfl (by kernel_rfl) (by kernel_rfl) (by kernel_rfl) (by decide) (fun _ _ _ h => h) (Or.inl ⟨by rfl, fun w' hw' => ?_⟩) (fun _ => trivial) (HD5.out) ?_
  · go_simp
  (try simp only [Act.put, List.setIfInBounds_toArray, List.set_cons_zero, List.set_cons_succ])
  refine wpAnyK_done (by kernel_rfl) ?_ _
  refine NoPanic.normal ?_
  go_wp2
  go_ret2
  exact ⟨rfl, HB5.out⟩
set_option maxHeartbeats 2000000 in
theorem around_10 (t : Bs) (n : Int) (hg2 : goodT 2 tAb t = true) (hg3 : goodT 3 tAb [] = true) (hl : t.length ≤ 50000) (r1 r2 : Bs) (hr1 : prn [⟨2, tAb, t, 0⟩] = r1) (hr2 : prn [⟨3, tAb, [], 0⟩] = r2) (a : Option Addr) (m c : Nat) (w : World) [T w] :
    Calls Tryz.prog 47 #[.agg #[intV 10, sV t, intV n, .slice a m c]] w fun e w' => e = .returned (.tuple #[sV r1, sV r2]) ∧ Below w.heap.size w w' := by
  have HI := Lib.hid (fun W => isText_any 10 t n (.slice a m c) false rfl W)
  have HF := Lib.hid (show ∀ W, Calls Tryz.prog 55 #[intV 10] W fun e w' => e = .returned (.tuple #[.agg #[sV tAb, fW, intV 0, .bool true], .bool true]) ∧ Below W.heap.size W w' from formOf_10)
  have hb := World.alloc_heap_new w (.cells #[intV 10, sV t, intV n, .slice a m c] nT (0, 0))
  have hB := (Below.refl w.heap.size w).alloc (Nat.le_refl _) (.cells #[intV 10, sV t, intV n, .slice a m c] nT (0, 0))
  have HW2 := Lib.hid (fun (W : World) [T W] => writtenT_any 2 tAb t hg2 (by have : (tAb : Bs).length ≤ 7 := (by decide); omega) r1 hr1 W)
  have HW3 := Lib.hid (fun (W : World) [T W] => writtenT_any 3 tAb [] hg3 (by decide) r2 hr2 W)
  clear hg2 hg3 hl hr1 hr2
  go_enter Tryz.func47, Tryz.ntmps47
  go_wp2_with fail
  refine (HI.out _).mono ?_
  rintro e' w1 ⟨rfl, h1⟩
  have hb1 := (h1.block _ (heap_ltT hb)).trans hb
  have hB1 := hB.trans (h1.mono (by simp))
  obtain ⟨p0, p1, p2, p3⟩ := box4T hb1
  have HB1 := Lib.hid (And.intro hb1 hB1)
  clear h1 hb hB hb1 hB1
  go_wp2_with fail
  refine (HF.out _).mono ?_
  rintro e' w2 ⟨rfl, h2⟩
  obtain ⟨hb1, hB1⟩ := HB1.out
  have hb2 := (h2.block _ (heap_ltT hb1)).trans hb1
  have hB2 := hB1.trans (h2.mono hB1.size)
  have hlt := heap_ltT hb2
  obtain ⟨W3, hW3⟩ : ∃ X, w2.alloc (.cells #[sV tAb, fW, intV 0, .bool true] fmT (0, 0)) = X := ⟨_, rfl⟩
  have hb3 := (by rw [← hW3]; exact (Below.heap_alloc _ _ _ hlt).trans hb2 : W3.heap[w.heap.size]? = some (.cells #[intV 10, sV t, intV n, .slice a m c] nT (0, 0)))
  have hf3 := (by rw [← hW3]; exact World.alloc_heap_new _ _ : W3.heap[w2.heap.size]? = some (.cells #[sV tAb, fW, intV 0, .bool true] fmT (0, 0)))
  have hB3 : Below w.heap.size w W3 := by rw [← hW3]; exact hB2.alloc (by omega) _
  haveI t3 : T W3 := T.below hB3
  clear p0 p1 p2 p3
  obtain ⟨p0, p1, p2, p3⟩ := box4T hb3
  obtain ⟨f0, f1, f2, f3⟩ := box4T hf3
  have HB3 := Lib.hid hB3
  have HW := Lib.hid hW3
  have HLT := Lib.hid (heap_ltT hf3)
  clear h2 hb1 hB1 hb2 hB2 hlt hb3 hf3 hB3 hW3
  go_upto_region 4 with fail
  rw [HW.out]
  go_wp2_with fail
  have HD := Lib.hid (show W3.drew.cell? ⟨w2.heap.size, 0, none⟩ = some (sV tAb) from f0)
  haveI t3d : T W3.drew := T.below (w0 := W3) (below_drew1S _)
  clear p0 p1 p2 p3 f0 f1 f2 f3
  have HBD := Lib.hid (HB3.out.trans (below_drew1S (N := w.heap.size) W3))
  refine wp_region_noPanic ?_
  refine wp_region_any (by kernel_rfl) (wpAny_of_k (S := fun _ => True) (S' := fun W' => W'.cell? ⟨w2.heap.size, 0, none⟩ = some (sV tAb)) (k := 99) _ _ _ _ ?_)
  change wpAnyK _ _ _ _ _ _ _ 9 _ _ W3.drew
  refine wpAnyK_takeD (i := 0) (v := .pointer (some ⟨w2.heap.size, 0, none⟩)) (some 32) rfl rfl (by kernel_rfl) (by kernel_rfl) (by kernel_rfl) (by decide) (fun _ _ _ h => h) (Or.inl ⟨by rfl, fun w' hw' => ?_⟩) (fun _ => trivial) (HD.out) ?_
  · go_simp
  (try simp only [Act.put, List.setIfInBounds_toArray, List.set_cons_zero, List.set_cons_succ])
  refine wpAnyK_takeD (i := 1) (v := sV tAb) (some 33) rfl rfl (by kernel_rfl) (by kernel_rfl) (by kernel_rfl) (by decide) (fun _ _ _ h => h) (Or.inl ⟨by rfl, fun w' hw' => ?_⟩) (fun _ => trivial) (HD.out) ?_
  · have e1 := hw'; go_simp
  (try simp only [Act.put, List.setIfInBounds_toArray, List.set_cons_zero, List.set_cons_succ])
  refine wpAnyK_takeD (i := 2) (v := sV t) (some 34) rfl rfl (by kernel_rfl) (by kernel_rfl) (by kernel_rfl) (by decide) (fun _ _ _ h => h) (Or.inl ⟨by rfl, fun w' hw' => ?_⟩) (fun _ => trivial) (HD.out) ?_
  · go_simp
  (try simp only [Act.put, List.setIfInBounds_toArray, List.set_cons_zero, List.set_cons_succ])
  refine wpAnyK_takeD (i := 4) (v := .pointer (some ⟨w2.heap.size, 0, none⟩)) (some 36) rfl rfl (by kernel_rfl) (by kernel_rfl) (by kernel_rfl) (by decide) (fun _ _ _ h => h) (Or.inl ⟨by rfl, fun w' hw' => ?_⟩) (fun _ => trivial) (HD.out) ?_
  · go_simp
  (try simp only [Act.put, List.setIfInBounds_toArray, List.set_cons_zero, List.set_cons_succ])
  refine wpAnyK_takeD (i := 5) (v := sV tAb) (some 37) rfl rfl (by kernel_rfl) (by kernel_rfl) (by kernel_rfl) (by decide) (fun _ _ _ h => h) (Or.inl ⟨by rfl, fun w' hw' => ?_⟩) (fun _ => trivial) (HD.out) ?_
  · have e1 := hw'; go_simp
  (try simp only [Act.put, List.setIfInBounds_toArray, List.set_cons_zero, List.set_cons_succ])
  refine wpAnyK_all (rs := [3]) (by kernel_rfl) (by simp) ?_
  intro i' hi'
  obtain rfl := List.mem_singleton.1 hi'
  clear hi'
  refine wpOp_step rfl fun K hK => ?_
  go_simp
  go_at_call 75
  refine (HW2.out _).mono ?_
  rintro e' w4 ⟨rfl, h4⟩
  have HD4 := Lib.hid ((h4.cell (p := ⟨w2.heap.size, 0, none⟩) (cellT_lt HD.out)).trans HD.out)
  have HB4 := Lib.hid (below_then HBD.out h4)
  haveI t4 : T w4 := T.below h4
  clear h4
  refine hK _ _ ⟨fun _ => trivial, HD4.out, ?_⟩
  clear hK K
  (try simp only [Act.put, List.setIfInBounds_toArray, List.set_cons_zero, List.set_cons_succ])
  refine wpAnyK_all (rs := [6]) (by kernel_rfl) (by simp) ?_
  intro i' hi'
  obtain rfl := List.mem_singleton.1 hi'
  clear hi'
  refine wpOp_step rfl fun K hK => ?_
  go_simp
  go_at_call 75
  refine (HW3.out _).mono ?_
  rintro e' w5 ⟨rfl, h5⟩
  have HD5 := Lib.hid ((h5.cell (p := ⟨w2.heap.size, 0, none⟩) (cellT_lt HD4.out)).trans HD4.out)
  have HB5 := Lib.hid (below_then HB4.out h5)
  clear h5
  refine hK _ _ ⟨fun _ => trivial, HD5.out, ?_⟩
  clear hK K
  (try simp only [Act.put, List.setIfInBounds_toArray, List.set_cons_zero, List.set_cons_succ])
  refine wpAnyK_takeD (i := 7) (v := sV r1) (some 2) rfl rfl (by kernel_rfl) (by kernel_rfl) (by kernel_rfl) (by decide) (fun _ _ _ h => h) (Or.inl ⟨by rfl, fun w' hw' => ?_⟩) (fun _ => trivial) (HD5.out) ?_
  · go_simp
  (try simp only [Act.put, List.setIfInBounds_toArray, List.set_cons_zero, List.set_cons_succ])
  refine wpAnyK_takeD (i := 8) (v := sV r2) (some 3) rfl rfl (by kernel_rfl) (by kernel_rfl) (by kernel_rfl) (by decide) (fun _ _ _ h => h) (Or.inl ⟨by rfl, fun w' hw' => ?_⟩) (fun _ => trivial) (HD5.out) ?_
  · go_simp
  (try simp only [Act.put, List.setIfInBounds_toArray, List.set_cons_zero, List.set_cons_succ])
  refine wpAnyK_done (by kernel_rfl) ?_ _
  refine NoPanic.normal ?_
  go_wp2
  go_ret2
  exact ⟨rfl, HB5.out⟩
set_option maxHeartbeats 2000000 in
theorem around_11 (t : Bs) (n : Int) (hg2 : goodT 2 tName t = true) (hg3 : goodT 3 tName [] = true) (hl : t.length ≤ 50000) (r1 r2 : Bs) (hr1 : prn [⟨2, tName, t, 0⟩] = r1) (hr2 : prn [⟨3, tName, [], 0⟩] = r2) (a : Option Addr) (m c : Nat) (w : World) [T w] :
    Calls Tryz.prog 47 #[.agg #[intV 11, sV t, intV n, .slice a m c]] w fun e w' => e = .returned (.tuple #[sV r1, sV r2]) ∧ Below w.heap.size w w' := by
  have HI := Lib.hid (fun W => isText_any 11 t n (.slice a m c) false rfl W)
  have HF := Lib.hid (show ∀ W, Calls Tryz.prog 55 #[intV 11] W fun e w' => e = .returned (.tuple #[.agg #[sV tName, fN, intV 0, .bool true], .bool true]) ∧ Below W.heap.size W w' from formOf_11)
  have hb := World.alloc_heap_new w (.cells #[intV 11, sV t, intV n, .slice a m c] nT (0, 0))
  have hB := (Below.refl w.heap.size w).alloc (Nat.le_refl _) (.cells #[intV 11, sV t, intV n, .slice a m c] nT (0, 0))
  have HW2 := Lib.hid (fun (W : World) [T W] => writtenT_any 2 tName t hg2 (by have : (tName : Bs).length ≤ 7 := (by decide); omega) r1 hr1 W)
  have HW3 := Lib.hid (fun (W : World) [T W] => writtenT_any 3 tName [] hg3 (by decide) r2 hr2 W)
  clear hg2 hg3 hl hr1 hr2
  go_enter Tryz.func47, Tryz.ntmps47
  go_wp2_with fail
  refine (HI.out _).mono ?_
  rintro e' w1 ⟨rfl, h1⟩
  have hb1 := (h1.block _ (heap_ltT hb)).trans hb
  have hB1 := hB.trans (h1.mono (by simp))
  obtain ⟨p0, p1, p2, p3⟩ := box4T hb1
  have HB1 := Lib.hid (And.intro hb1 hB1)
  clear h1 hb hB hb1 hB1
  go_wp2_with fail
  refine (HF.out _).mono ?_
  rintro e' w2 ⟨rfl, h2⟩
  obtain ⟨hb1, hB1⟩ := HB1.out
  have hb2 := (h2.block _ (heap_ltT hb1)).trans hb1
  have hB2 := hB1.trans (h2.mono hB1.size)
  have hlt := heap_ltT hb2
  obtain ⟨W3, hW3⟩ : ∃ X, w2.alloc (.cells #[sV tName, fN, intV 0, .bool true] fmT (0, 0)) = X := ⟨_, rfl⟩
  have hb3 := (by rw [← hW3]; exact (Below.heap_alloc _ _ _ hlt).trans hb2 : W3.heap[w.heap.size]? = some (.cells #[intV 11, sV t, intV n, .slice a m c] nT (0, 0)))
  have hf3 := (by rw [← hW3]; exact World.alloc_heap_new _ _ : W3.heap[w2.heap.size]? = some (.cells #[sV tName, fN, intV 0, .bool true] fmT (0, 0)))
  have hB3 : Below w.heap.size w W3 := by rw [← hW3]; exact hB2.alloc (by omega) _
  haveI t3 : T W3 := T.below hB3
  clear p0 p1 p2 p3
  obtain ⟨p0, p1, p2, p3⟩ := box4T hb3
  obtain ⟨f0, f1, f2, f3⟩ := box4T hf3
  have HB3 := Lib.hid hB3
  have HW := Lib.hid hW3
  have HLT := Lib.hid (heap_ltT hf3)
  clear h2 hb1 hB1 hb2 hB2 hlt hb3 hf3 hB3 hW3
  go_upto_region 4 with fail
  rw [HW.out]
  go_wp2_with fail
  have HD := Lib.hid (show W3.drew.cell? ⟨w2.heap.size, 0, none⟩ = some (sV tName) from f0)
  haveI t3d : T W3.drew := T.below (w0 := W3) (below_drew1S _)
  clear p0 p1 p2 p3 f0 f1 f2 f3
  have HBD := Lib.hid (HB3.out.trans (below_drew1S (N := w.heap.size) W3))
  refine wp_region_noPanic ?_
  refine wp_region_any (by kernel_rfl) (wpAny_of_k (S := fun _ => True) (S' := fun W' => W'.cell? ⟨w2.heap.size, 0, none⟩ = some (sV tName)) (k := 99) _ _ _ _ ?_)
  change wpAnyK _ _ _ _ _ _ _ 9 _ _ W3.drew
  refine wpAnyK_takeD (i := 0) (v := .pointer (some ⟨w2.heap.size, 0, none⟩)) (some 32) rfl rfl (by kernel_rfl) (by kernel_rfl) (by kernel_rfl) (by decide) (fun _ _ _ h => h) (Or.inl ⟨by rfl, fun w' hw' => ?_⟩) (fun _ => trivial) (HD.out) ?_
  · go_simp
  (try simp only [Act.put, List.setIfInBounds_toArray, List.set_cons_zero, List.set_cons_succ])
  refine wpAnyK_takeD (i := 1) (v := sV tName) (some 33) rfl rfl (by kernel_rfl) (by kernel_rfl) (by kernel_rfl) (by decide) (fun _ _ _ h => h) (Or.inl ⟨by rfl, fun w' hw' => ?_⟩) (fun _ => trivial) (HD.out) ?_
  · have e1 := hw'; go_simp
  (try simp only [Act.put, List.setIfInBounds_toArray, List.set_cons_zero, List.set_cons_succ])
  refine wpAnyK_takeD (i := 2) (v := sV t) (some 34) rfl rfl (by kernel_rfl) (by kernel_rfl) (by kernel_rfl) (by decide) (fun _ _ _ h => h) (Or.inl ⟨by rfl, fun w' hw' => ?_⟩) (fun _ => trivial) (HD.out) ?_
  · go_simp
  (try simp only [Act.put, List.setIfInBounds_toArray, List.set_cons_zero, List.set_cons_succ])
  refine wpAnyK_takeD (i := 4) (v := .pointer (some ⟨w2.heap.size, 0, none⟩)) (some 36) rfl rfl (by kernel_rfl) (by kernel_rfl) (by kernel_rfl) (by decide) (fun _ _ _ h => h) (Or.inl ⟨by rfl, fun w' hw' => ?_⟩) (fun _ => trivial) (HD.out) ?_
  · go_simp
  (try simp only [Act.put, List.setIfInBounds_toArray, List.set_cons_zero, List.set_cons_succ])
  refine wpAnyK_takeD (i := 5) (v := sV tName) (some 37) rfl rfl (by kernel_rfl) (by kernel_rfl) (by kernel_rfl) (by decide) (fun _ _ _ h => h) (Or.inl ⟨by rfl, fun w' hw' => ?_⟩) (fun _ => trivial) (HD.out) ?_
  · have e1 := hw'; go_simp
  (try simp only [Act.put, List.setIfInBounds_toArray, List.set_cons_zero, List.set_cons_succ])
  refine wpAnyK_all (rs := [3]) (by kernel_rfl) (by simp) ?_
  intro i' hi'
  obtain rfl := List.mem_singleton.1 hi'
  clear hi'
  refine wpOp_step rfl fun K hK => ?_
  go_simp
  go_at_call 75
  refine (HW2.out _).mono ?_
  rintro e' w4 ⟨rfl, h4⟩
  have HD4 := Lib.hid ((h4.cell (p := ⟨w2.heap.size, 0, none⟩) (cellT_lt HD.out)).trans HD.out)
  have HB4 := Lib.hid (below_then HBD.out h4)
  haveI t4 : T w4 := T.below h4
  clear h4
  refine hK _ _ ⟨fun _ => trivial, HD4.out, ?_⟩
  clear hK K
  (try simp only [Act.put, List.setIfInBounds_toArray, List.set_cons_zero, List.set_cons_succ])
  refine wpAnyK_all (rs := [6]) (by kernel_rfl) (by simp) ?_
  intro i' hi'
  obtain rfl := List.mem_singleton.1 hi'
  clear hi'
  refine wpOp_step rfl fun K hK => ?_
  go_simp
  go_at_call 75
  refine (HW3.out _).mono ?_
  rintro e' w5 ⟨rfl, h5⟩
  have HD5 := Lib.hid ((h5.cell (p := ⟨w2.heap.size, 0, none⟩) (cellT_lt HD4.out)).trans HD4.out)
  have HB5 := Lib.hid (below_then HB4.out h5)
  clear h5
  refine hK _ _ ⟨fun _ => trivial, HD5.out, ?_⟩
  clear hK K
  (try simp only [Act.put, List.setIfInBounds_toArray, List.set_cons_zero, List.set_cons_succ])
  refine wpAnyK_takeD (i := 7) (v := sV r1) (some 2) rfl rfl (by kernel_rfl) (by kernel_rfl) (by kernel_rfl) (by decide) (fun _ _ _ h => h) (Or.inl ⟨by rfl, fun w' hw' => ?_⟩) (fun _ => trivial) (HD5.out) ?_
  · go_simp
  (try simp only [Act.put, List.setIfInBounds_toArray, List.set_cons_zero, List.set_cons_succ])
  refine wpAnyK_takeD (i := 8) (v := sV r2) (some 3) rfl rfl (by kernel_rfl) (by kernel_rfl) (by kernel_rfl) (by decide) (fun _ _ _ h => h) (Or.inl ⟨by rfl, fun w' hw' => ?_⟩) (fun _ => trivial) (HD5.out) ?_
  · go_simp
  (try simp only [Act.put, List.setIfInBounds_toArray, List.set_cons_zero, List.set_cons_succ])
  refine wpAnyK_done (by kernel_rfl) ?_ _
  refine NoPanic.normal ?_
  go_wp2
  go_ret2
  exact ⟨rfl, HB5.out⟩
end Go.Proofs.YtmfcepfagbkceaaGreatDoor
