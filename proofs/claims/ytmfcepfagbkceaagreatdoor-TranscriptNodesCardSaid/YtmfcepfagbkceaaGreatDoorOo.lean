/- Stage 10 (transcript): TpJoin TpLong TpCk TpCheckA TpDepth TpCount, put together by merge10.py. -/
import Derived.Test.YtmfcepfagbkceaaGreatDoorOm
import Derived.Test.YtmfcepfagbkceaaGreatDoorOn
namespace Go.Proofs.YtmfcepfagbkceaaGreatDoor
set_option linter.unusedSimpArgs false
set_option linter.unusedVariables false
set_option maxRecDepth 100000
open Go.RowKit Go.Shelf Go.Deep
set_option maxHeartbeats 1000000 in
theorem alone_none (k : Int) (hk : k < 1 ∨ 11 < k) (t : Bs) (n : Int) (a : Option Addr) (m c : Nat) (w : World) :
    Calls Tryz.prog 58 #[.agg #[intV k, sV t, intV n, .slice a m c]] w fun e w' => e = .returned (intV 8) ∧ Below w.heap.size w w' := by
  have HF := Lib.hid (fun W => formOf_none k hk W)
  have hx := toL t
  go_enter Tryz.func58, Tryz.ntmps58
  go_wp2_with fail
  refine (HF.out _).mono ?_
  rintro e' w1 ⟨rfl, h1⟩
  have hbx := (h1.block w.heap.size (by simp)).trans (World.alloc_heap_new w (.cells #[intV k, sV t, intV n, .slice a m c] nT (0, 0)))
  have HB1 := Lib.hid (Below.trans ((Below.refl w.heap.size w).alloc (Nat.le_refl _) _) (h1.mono (by simp)))
  have hlt := heap_ltT hbx
  clear h1
  obtain ⟨W2, hW2⟩ : ∃ X, w1.alloc (.cells #[.string ⟨#[]⟩, .nilFunc, .int .i64 0, .bool false] fmT (0, 0)) = X := ⟨_, rfl⟩
  have hb2 := (by rw [← hW2]; exact (Below.heap_alloc _ _ _ hlt).trans hbx : W2.heap[w.heap.size]? = some (.cells #[intV k, sV t, intV n, .slice a m c] nT (0, 0)))
  have HB2 := Lib.hid (show Below w.heap.size w W2 by rw [← hW2]; exact HB1.out.alloc (by omega) _)
  obtain ⟨p0, p1, p2, p3⟩ := box4T hb2
  have HW := Lib.hid hW2
  obtain ⟨tb, htb⟩ : ∃ tb, (t == ([] : Bs)) = tb := ⟨_, rfl⟩
  obtain ⟨nb, hnb⟩ : ∃ nb, (n == 0) = nb := ⟨_, rfl⟩
  obtain ⟨pb, hpb⟩ : ∃ pb, decide ((0 : Int) < (m : Int)) = pb := ⟨_, rfl⟩
  have hnm : (n != 0) = !nb := by rw [← hnb]; rfl
  have hte : t.isEmpty = tb := by rw [← htb]; cases t <;> rfl
  have hpb2 : decide (0 < m) = pb := by rw [← hpb]; exact decide_eq_decide.2 (by omega)
  clear hbx hlt hb2 hW2 hk
  go_upto_region 2 with fail
  rw [HW.out]
  go_wp2_with fail
  go_quiet (fail)
  cases tb <;> cases nb <;> cases pb
  all_goals
    go_wp2
    go_ret
    exact ⟨rfl, below_quietT HB2.out⟩
theorem alF_1 (t : Bs) (n : Int) (e : Bool) : alF false (t == ([] : Bs)) (n == 0) true (!e) false false (decide (n < 1)) (decide (0 < n)) ((if t = [] then (5 : Int) else if chk t ≠ 0 then 11 else 0) == 0) (if t = [] then (5 : Int) else if chk t ≠ 0 then 11 else 0) = sgl 1 t n e false false := by
  by_cases ht : t = [] <;> by_cases hn : n = 0 <;> cases e <;> simp [alF, sgl, textsK, numsK, partsK, ht, hn]
  all_goals first | decide | (by_cases hc : chk t = 0 <;> simp [hc])
theorem alF_2 (t : Bs) (n : Int) (e : Bool) : alF true (t == ([] : Bs)) (n == 0) true (!e) false false (decide (n < 1)) (decide (0 < n)) true 0 = sgl 2 t n e false false := by
  by_cases ht : t = [] <;> by_cases hn : n = 0 <;> cases e <;> simp [alF, sgl, textsK, numsK, partsK, ht, hn]
theorem alF_3 (t : Bs) (n : Int) (e : Bool) : alF false (t == ([] : Bs)) (n == 0) true (!e) false false (decide (n < 1)) (decide (0 < n)) ((if nameB t then (0 : Int) else 14) == 0) (if nameB t then (0 : Int) else 14) = sgl 3 t n e false false := by
  by_cases ht : t = [] <;> by_cases hn : n = 0 <;> cases e <;> simp [alF, sgl, textsK, numsK, partsK, ht, hn]
  all_goals first | decide | (cases hc : nameB t <;> simp [hc])
theorem alF_4 (t : Bs) (n : Int) (e : Bool) : alF false (t == ([] : Bs)) (n == 0) true (!e) false false (decide (n < 1)) (decide (0 < n)) ((if nameB t then (0 : Int) else 14) == 0) (if nameB t then (0 : Int) else 14) = sgl 4 t n e false false := by
  by_cases ht : t = [] <;> by_cases hn : n = 0 <;> cases e <;> simp [alF, sgl, textsK, numsK, partsK, ht, hn]
  all_goals first | decide | (cases hc : nameB t <;> simp [hc])
theorem alF_5 (t : Bs) (n : Int) (e : Bool) : alF true (t == ([] : Bs)) (n == 0) true (!e) false false (decide (n < 1)) (decide (0 < n)) true 0 = sgl 5 t n e false false := by
  by_cases ht : t = [] <;> by_cases hn : n = 0 <;> cases e <;> simp [alF, sgl, textsK, numsK, partsK, ht, hn]
theorem alF_6 (t : Bs) (n : Int) (e : Bool) : alF true (t == ([] : Bs)) (n == 0) false (!e) false true (decide (n < 1)) (decide (64 < n)) true 0 = sgl 6 t n e false false := by
  by_cases ht : t = [] <;> by_cases hn : n = 0 <;> cases e <;> simp [alF, sgl, textsK, numsK, partsK, ht, hn]
theorem alF_7 (t : Bs) (n : Int) (e : Bool) : alF true (t == ([] : Bs)) (n == 0) true (!e) true false (decide (n < 1)) (decide (0 < n)) true 0 = sgl 7 t n e false false := by
  by_cases ht : t = [] <;> by_cases hn : n = 0 <;> cases e <;> simp [alF, sgl, textsK, numsK, partsK, ht, hn]
theorem alF_8 (t : Bs) (n : Int) (e : Bool) : alF true (t == ([] : Bs)) (n == 0) false (!e) true true (decide (n < 1)) (decide (8 < n)) true 0 = sgl 8 t n e false false := by
  by_cases ht : t = [] <;> by_cases hn : n = 0 <;> cases e <;> simp [alF, sgl, textsK, numsK, partsK, ht, hn]
theorem alF_9 (t : Bs) (n : Int) (e : Bool) : alF true (t == ([] : Bs)) (n == 0) false (!e) true true (decide (n < 1)) (decide (8 < n)) true 0 = sgl 9 t n e false false := by
  by_cases ht : t = [] <;> by_cases hn : n = 0 <;> cases e <;> simp [alF, sgl, textsK, numsK, partsK, ht, hn]
theorem alF_10 (t : Bs) (n : Int) (e : Bool) : alF false (t == ([] : Bs)) (n == 0) true (!e) true false (decide (n < 1)) (decide (0 < n)) ((if wordB t then (0 : Int) else 14) == 0) (if wordB t then (0 : Int) else 14) = sgl 10 t n e false false := by
  by_cases ht : t = [] <;> by_cases hn : n = 0 <;> cases e <;> simp [alF, sgl, textsK, numsK, partsK, ht, hn]
  all_goals first | decide | (cases hc : wordB t <;> simp [hc])
theorem alF_11 (t : Bs) (n : Int) (e : Bool) : alF false (t == ([] : Bs)) (n == 0) true (!e) true false (decide (n < 1)) (decide (0 < n)) ((if nameB t then (0 : Int) else 14) == 0) (if nameB t then (0 : Int) else 14) = sgl 11 t n e false false := by
  by_cases ht : t = [] <;> by_cases hn : n = 0 <;> cases e <;> simp [alF, sgl, textsK, numsK, partsK, ht, hn]
  all_goals first | decide | (cases hc : nameB t <;> simp [hc])
theorem sgl_none {k : Int} (h : k < 1 ∨ 11 < k) (t : Bs) (n : Int) (e b w : Bool) : sgl k t n e b w = 8 := by
  unfold sgl
  rw [if_pos (by rcases h with h | h; exact .inl h; exact .inr (.inl h))]
theorem checkAlone_at (k : Int) (t : Bs) (n : Int) (a : Option Addr) (m c : Nat) (ht : t.length ≤ maxLen) (e : Bool) (he : decide ((0 : Int) < (m : Int)) = !e) (w : World) :
    Calls Tryz.prog 58 #[.agg #[intV k, sV t, intV n, .slice a m c]] w fun en w' => en = .returned (intV (sgl k t n e false false)) ∧ Below w.heap.size w w' := by
  by_cases h0 : k < 1 ∨ 11 < k
  · rw [sgl_none h0]
    exact alone_none k h0 t n a m c w
  · have hk : k = 1 ∨ k = 2 ∨ k = 3 ∨ k = 4 ∨ k = 5 ∨ k = 6 ∨ k = 7 ∨ k = 8 ∨ k = 9 ∨ k = 10 ∨ k = 11 := by omega
    clear h0
    rcases hk with rfl | rfl | rfl | rfl | rfl | rfl | rfl | rfl | rfl | rfl | rfl
    · exact alone_fn 1 t n a m c [] 105 (if t = [] then (5 : Int) else if chk t ≠ 0 then 11 else 0) 0 _ _ true _ false false _ _ rfl rfl rfl he rfl rfl rfl _ _ rfl (alF_1 t n e) w formOf_1 Tryz.call105 (fun W => checkC_any t ht _ rfl W)
    · exact alone_nil 2 t n a m c tLb 0 _ _ true _ false false _ _ rfl rfl rfl he rfl rfl rfl _ (alF_2 t n e) w formOf_2
    · exact alone_fn 3 t n a m c tPb 106 (if nameB t then (0 : Int) else 14) 0 _ _ true _ false false _ _ rfl rfl rfl he rfl rfl rfl _ _ rfl (alF_3 t n e) w formOf_3 Tryz.call106 (fun W => checkN_any t ht _ rfl W)
    · exact alone_fn 4 t n a m c tSec 106 (if nameB t then (0 : Int) else 14) 0 _ _ true _ false false _ _ rfl rfl rfl he rfl rfl rfl _ _ rfl (alF_4 t n e) w formOf_4 Tryz.call106 (fun W => checkN_any t ht _ rfl W)
    · exact alone_nil 5 t n a m c tV 0 _ _ true _ false false _ _ rfl rfl rfl he rfl rfl rfl _ (alF_5 t n e) w formOf_5
    · exact alone_nil 6 t n a m c tGap 64 _ _ false _ false true _ _ rfl rfl rfl he rfl rfl rfl _ (alF_6 t n e) w formOf_6
    · exact alone_nil 7 t n a m c tUn 0 _ _ true _ true false _ _ rfl rfl rfl he rfl rfl rfl _ (alF_7 t n e) w formOf_7
    · exact alone_nil 8 t n a m c tAdd 8 _ _ false _ true true _ _ rfl rfl rfl he rfl rfl rfl _ (alF_8 t n e) w formOf_8
    · exact alone_nil 9 t n a m c tDel 8 _ _ false _ true true _ _ rfl rfl rfl he rfl rfl rfl _ (alF_9 t n e) w formOf_9
    · exact alone_fn 10 t n a m c tAb 107 (if wordB t then (0 : Int) else 14) 0 _ _ true _ true false _ _ rfl rfl rfl he rfl rfl rfl _ _ rfl (alF_10 t n e) w formOf_10 Tryz.call107 (fun W => checkW_any t ht _ rfl W)
    · exact alone_fn 11 t n a m c tName 106 (if nameB t then (0 : Int) else 14) 0 _ _ true _ true false _ _ rfl rfl rfl he rfl rfl rfl _ _ rfl (alF_11 t n e) w formOf_11 Tryz.call106 (fun W => checkN_any t ht _ rfl W)
theorem checkAlone_any (x : Nd) (ht : x.tx.length ≤ maxLen) (a : Option Addr) (c : Nat) (w : World) :
    Calls Tryz.prog 58 #[.agg #[intV x.kd, sV x.tx, intV x.nm, .slice a x.ps.length c]] w fun en w' => en = .returned (intV (alone x)) ∧ Below w.heap.size w w' :=
  checkAlone_at x.kd x.tx x.nm a x.ps.length c ht x.ps.isEmpty (by cases x.ps <;> simp) w
theorem fine_len64 {k : Int} {t : Bs} {n : Int} {e b w : Bool} (h : Fine k t n e b w) (hk : k ≠ 1) : t.length ≤ 50000 := by
  have hw : wordB t = true → t.length ≤ 50000 := fun h => by unfold wordB at h; simp at h; omega
  have hn : nameB t = true → t.length ≤ 50000 := fun h => by unfold nameB at h; simp at h; omega
  rcases h with h | h | h | h | h | h | h | h
  · exact absurd h.1 hk
  · rw [h.2.1]; simp
  · exact hn h.2.1
  · rw [h.2.1]; simp
  · rw [h.2.1]; simp
  · rw [h.2.1]; simp
  · exact hw h.2.1
  · exact hn h.2.1
theorem around_any' (x : Nd) (b w : Bool) (hf : Fine x.kd x.tx x.nm x.ps.isEmpty b w) (a : Option Addr) (c : Nat) (W : World) [T W] :
    Calls Tryz.prog 47 #[.agg #[intV x.kd, sV x.tx, intV x.nm, .slice a x.ps.length c]] W fun e w' => e = .returned (.tuple #[sV (befN x), sV (behN x)]) ∧ Below W.heap.size W w' := by
  obtain ⟨k, t, n, p⟩ := x
  have hf : Fine k t n p.isEmpty b w := hf
  show Calls _ _ #[.agg #[intV k, sV t, intV n, .slice a p.length c]] W _
  have hk := fine_kind hf
  by_cases h1 : k = 1
  · have e1 : befN (.mk k t n p) = t := by unfold befN; rw [if_pos (show Nd.kd (.mk k t n p) = 1 from h1)]; rfl
    have e2 : behN (.mk k t n p) = [] := by unfold behN; rw [if_pos (show Nd.kd (.mk k t n p) = 1 from h1)]
    rw [e1, e2]
    subst h1
    exact around_1 t n a p.length c W
  · have hb : befN (.mk k t n p) = if partsK k then prn [⟨2, nmK k, valX k t n, 0⟩] else prn [⟨4, nmK k, valX k t n, 0⟩] := by unfold befN; rw [if_neg (show ¬ Nd.kd (.mk k t n p) = 1 from h1)]; rfl
    have hh : behN (.mk k t n p) = if partsK k then prn [⟨3, nmK k, [], 0⟩] else [] := by unfold behN; rw [if_neg (show ¬ Nd.kd (.mk k t n p) = 1 from h1)]; rfl
    rw [hb, hh]
    clear hb hh
    have ht : t.length ≤ 50000 := fine_len64 hf h1
    have hks : k = 2 ∨ k = 3 ∨ k = 4 ∨ k = 5 ∨ k = 6 ∨ k = 7 ∨ k = 8 ∨ k = 9 ∨ k = 10 ∨ k = 11 := by omega
    have hnum : numsK k = true → 1 ≤ n ∧ n ≤ 64 := fun h => by
      unfold numsK at h
      simp at h
      rcases hf with h | h | h | h | h | h | h | h <;> omega
    have hvl : numsK k = true → (Lib.itoa n).length ≤ 50000 := fun h => by
      have := hnum h
      rw [itoa_digs this.1 (by omega)]
      have := digs_len n.toNat
      omega
    have hn8 : k = 8 ∨ k = 9 → n ≤ 8 := fun h => by rcases hf with h | h | h | h | h | h | h | h <;> omega
    have hpe : p.isEmpty = !partsK k := by
      cases he : p.isEmpty
      · rw [he] at hf
        rw [(fine_open hf).1]; rfl
      · rw [he] at hf
        rw [(fine_empty hf h1).1]; rfl
    rw [hpe] at hf
    rcases hks with rfl | rfl | rfl | rfl | rfl | rfl | rfl | rfl | rfl | rfl
    · skip
      obtain rfl : t = [] := by rcases hf with h | h | h | h | h | h | h | h <;> first | exact h.2.1 | omega
      have hg := fine_empty hf (by decide)
      exact around_2 _ n hg.2 (show ([] : Bs).length ≤ 50000 by decide) _ rfl a p.length c W
    · skip
      have hg := fine_empty hf (by decide)
      exact around_3 _ n hg.2 ht _ rfl a p.length c W
    · skip
      have hg := fine_empty hf (by decide)
      exact around_4 _ n hg.2 ht _ rfl a p.length c W
    · skip
      obtain rfl : t = [] := by rcases hf with h | h | h | h | h | h | h | h <;> first | exact h.2.1 | omega
      have hg := fine_empty hf (by decide)
      exact around_5 _ n hg.2 (show ([] : Bs).length ≤ 50000 by decide) _ rfl a p.length c W
    · skip
      have hg := fine_empty hf (by decide)
      exact around_6 _ n (hnum rfl).1 (hnum rfl).2 _ rfl hg.2 (hvl rfl) _ rfl a p.length c W
    · skip
      obtain rfl : t = [] := by rcases hf with h | h | h | h | h | h | h | h <;> first | exact h.2.1 | omega
      have hg := fine_open hf
      exact around_7 _ n hg.2.2.1 hg.2.2.2 (show ([] : Bs).length ≤ 50000 by decide) _ _ rfl rfl a p.length c W
    · skip
      have hg := fine_open hf
      exact around_8 _ n (hnum rfl).1 (hn8 (by omega)) _ rfl hg.2.2.1 hg.2.2.2 (hvl rfl) _ _ rfl rfl a p.length c W
    · skip
      have hg := fine_open hf
      exact around_9 _ n (hnum rfl).1 (hn8 (by omega)) _ rfl hg.2.2.1 hg.2.2.2 (hvl rfl) _ _ rfl rfl a p.length c W
    · skip
      have hg := fine_open hf
      exact around_10 _ n hg.2.2.1 hg.2.2.2 ht _ _ rfl rfl a p.length c W
    · skip
      have hg := fine_open hf
      exact around_11 _ n hg.2.2.1 hg.2.2.2 ht _ _ rfl rfl a p.length c W
end Go.Proofs.YtmfcepfagbkceaaGreatDoor
namespace Go.Proofs.YtmfcepfagbkceaaGreatDoor
set_option linter.unusedSimpArgs false
set_option linter.unusedVariables false
set_option maxRecDepth 100000
open Go.RowKit Go.Shelf Go.Deep
attribute [local go_sem] Oper.semAt_some wide_fnT
theorem bef_lenT {x : Nd} {b w : Bool} (h : Fine x.kd x.tx x.nm x.ps.isEmpty b w) : (befN x).length + (behN x).length ≤ 70000 := by
  have h1 := nmK_len x.kd
  have ht := fine_len h
  have f2 := form_len ⟨2, nmK x.kd, valX x.kd x.tx x.nm, 0⟩
  have f3 := form_len ⟨3, nmK x.kd, [], 0⟩
  have f4 := form_len ⟨4, nmK x.kd, valX x.kd x.tx x.nm, 0⟩
  simp only [List.length_nil] at f3 f2 f4
  have h2 : (valX x.kd x.tx x.nm).length ≤ 65536 := by
    by_cases h60 : x.tx.length ≤ 60
    · have := val_len' h h60; omega
    · unfold valX
      split
      · exact ht
      · split
        · rename_i h3
          have hn : 1 ≤ x.nm ∧ x.nm ≤ 99 := by
            unfold numsK at h3
            simp at h3
            rcases h with h | h | h | h | h | h | h | h <;> omega
          rw [itoa_digs hn.1 hn.2]
          have := digs_len x.nm.toNat
          omega
        · simp
  unfold befN behN
  have hp : ∀ x : Lx, prn [x] = form x := fun x => by simp [prn]
  rw [hp, hp, hp]
  split
  · simp; omega
  · split
    · omega
    · simp; omega
theorem heap_allocT2 (w : World) (o0 o1 : Obj) {W : World} (hW : (w.alloc o0).alloc o1 = W) :
    W.heap.size = w.heap.size + 2 ∧ W.heap[w.heap.size]? = some o0 ∧ W.heap[w.heap.size + 1]? = some o1 ∧ Below w.heap.size w W := by
  subst hW
  have hp : ∀ (A : Array Obj) (o : Obj) (i : Nat), (A.push o)[i]? = if i = A.size then some o else A[i]? := fun A o i => by rw [Array.getElem?_push]
  refine ⟨by simp, ?_, ?_, ?_⟩
  iterate 2
    · simp only [heap_pushT, hp, Array.size_push]
      repeat (first | rw [if_pos trivial] | rw [if_neg (by omega)])
  · exact ((Below.refl _ w).alloc (Nat.le_refl _) _).alloc (by simp) _
theorem memP {w0 : World} {P : Nat → Prop} {L : List Nd} (p : El w0 P ((preL 0 L).take 4097)) : (p.lv, p.x) ∈ preL 0 L := List.mem_of_mem_take p.mem
set_option maxHeartbeats 4000000 in
theorem isTooLong_any (L : List Nd) (v : Value) (P : Nat → Prop) (w : World) [T w] (hv : VsAt w P v L) (ht : tots L ≤ 4096) (ha : allL false false L = 0) (r : Bool) (hr : decide (65536 < (outL L).length) = r) :
    Calls Tryz.prog 59 #[v] w fun e w' => e = .returned (.bool r) ∧ Below w.heap.size w w' := by
  have HV := Lib.hid hv
  obtain ⟨a, c, rfl, hvi⟩ := id hv
  clear hvi
  have HR := Lib.hid hr
  have HT := Lib.hid ht
  have HA := Lib.hid (pre_fine.2 L 0 false false ha)
  have HLO := Lib.hid (lenP_out.2 L 0 false false ha)
  clear hr hv ht ha
  refine (callsIn_wide (n := 9)).1 ?_
  refine callsIn_of_wp_marks Tryz.func59 rfl trivial ?_ rfl
  simp only [Tryz.ntmps59, List.size_toArray, List.length_cons, List.length_nil, Nat.reduceAdd, Nat.reduceSub, Array.replicate_succ, Array.replicate_zero, List.push_toArray, List.append_toArray, List.nil_append, List.cons_append]
  gi_wp2_with (gi_at_call 51; refine (callsIn_wide.2 (nodes_any _ _ _ _)).mono ?_; rintro e w' ⟨rfl, rfl⟩)
  obtain ⟨w3, hw3⟩ : ∃ X, ((w.alloc (.cells #[.int .i64 0] 3)).alloc (.cells #[.slice a L.length c] lT (0, 0))) = X := ⟨_, rfl⟩
  rw [hw3]
  obtain ⟨s3, k0, k2, kb⟩ := heap_allocT2 w _ _ hw3
  clear hw3
  refine wpIn_range_ret rfl (by omega) (gf := 81) (lb := #[.pointer (some ⟨w.heap.size + 1, 0, none⟩)]) rfl trivial Tryz.call81
    (nodes_stops w P L _ HV.out (by have := HT.out; omega) w3.heap.size none (w.heap.size + 1) w3 kb k2) (fun h k => h.trans k) (fun W l o o' hl ho hc _ => KpN.put (r := none) (by omega) (fun R e => by cases e) W l o o' hl ho hc) (fun _ => rfl)
    (fun pre W => Boxed W w.heap.size 3 (.int .i64 (lenP (pre.map El.pr) : Nat)) ∧ Below w.heap.size w3 W)
    (fun _ _ => False)
    (OwnFrom.and (Own.from (boxed_own _ _ _) _) (ownFrom_below (by omega) (by omega)))
    (fun _ _ _ _ h _ _ => h)
    (fun pre W h => GN.of (by omega) h.2.size) (fun pre W h => h.elim)
    ⟨k0, Below.refl _ _⟩
    (fun p a' X => ∃ B7 : Nat, w3.heap.size ≤ B7 ∧ X.heap[B7]? = some (.cells #[intV p.x.kd, sV p.x.tx, intV p.x.nm, .slice p.sa p.x.ps.length p.sc] nT (0, 0)) ∧ a' = { tmps := #[Value.slice a L.length c, undef, .bool false, .pointer (some ⟨w.heap.size, 0, none⟩), undef, .pointer (some ⟨B7, 0, none⟩), undef, undef, Value.slice a L.length c, .func (.func 81) #[] #[.pointer (some ⟨w.heap.size + 1, 0, none⟩)], intV p.lv, .agg #[intV p.x.kd, sV p.x.tx, intV p.x.nm, .slice p.sa p.x.ps.length p.sc], undef, undef, undef, undef, undef, undef, undef, undef, undef, undef, undef, undef, undef, undef], defers := [] })
    (fun p a' _ X Y row h hg hr => by
      obtain ⟨B7, h1, h2, h3⟩ := h
      exact ⟨B7, h1, (hg.block B7 (heap_ltT h2) (fun e => by obtain ⟨_, o, ho, hc⟩ := hr B7 e.symm; rw [h2] at ho; cases ho; cases hc)).trans h2, h3⟩)
    ?assign ?body ?done ?stop
  case assign =>
    intro l pre p X K hI hK
    have hX := hI.2.size
    gi_wp2
    exact hK _ _ ((KeepsOthers.alloc X _).from _) (KpN.alloc (GN.of (by omega) hX) _) ⟨hI.1.alloc _, hI.2.alloc (by omega) _⟩ ⟨X.heap.size, hX, World.alloc_heap_new _ _, rfl⟩
  case body =>
    intro l pre p a' X hl hI hA hN
    obtain ⟨b1, hB⟩ := hI
    obtain ⟨B7, hB7, hx7, rfl⟩ := hA
    have hfin := alone_fine (HA.out _ (memP p))
    have hlen := bef_lenT hfin
    have hpl := lenP_le 70000 (pre.map El.pr) fun q hq => by
      obtain ⟨p', _, rfl⟩ := List.mem_map.1 hq
      exact bef_lenT (alone_fine (HA.out _ (memP p')))
    rw [List.length_map] at hpl
    have hpm : 70000 * pre.length ≤ 70000 * 4097 := Nat.mul_le_mul_left _ (by omega)
    obtain ⟨n0, hn0⟩ : ∃ n0, lenP (pre.map El.pr) = n0 := ⟨_, rfl⟩
    rw [hn0] at b1 hpl
    obtain ⟨p0, p1, p2, p3⟩ := box4T hx7
    haveI tX : T X := T.below (w0 := w) (kb.trans hB)
    have HC := Lib.hid (around_any' p.x false false hfin p.sa p.sc X)
    have HI := Lib.hid (And.intro b1 hB)
    have HLE := Lib.hid (show lenP ((pre ++ [p]).map El.pr) = n0 + ((befN p.x).length + (behN p.x).length) by
      rw [List.map_append, lenP_append, hn0]; simp [lenP]; rfl)
    obtain ⟨s1, hs1⟩ : ∃ s, befN p.x = s := ⟨_, rfl⟩
    obtain ⟨s2, hs2⟩ : ∃ s, behN p.x = s := ⟨_, rfl⟩
    rw [hs1, hs2] at HC HLE hlen
    obtain ⟨xk, hxk⟩ : ∃ z, p.x.kd = z := ⟨_, rfl⟩
    obtain ⟨xt, hxt⟩ : ∃ z, p.x.tx = z := ⟨_, rfl⟩
    obtain ⟨xn, hxn⟩ : ∃ z, p.x.nm = z := ⟨_, rfl⟩
    have hz1 := baL_size s1
    have hz2 := baL_size s2
    rw [hxk, hxt, hxn] at HC
    rw [hxk] at p0
    rw [hxt] at p1
    rw [hxn] at p2
    clear hx7 hfin b1 hB hs1 hs2 hxk hxt hxn hn0
    have w1 : IntKind.i64.wrap ((s1.length : Int) + (s2.length : Int)) = ((s1.length + s2.length : Nat) : Int) := by
      rw [show (s1.length : Int) + (s2.length : Int) = ((s1.length + s2.length : Nat) : Int) by omega]; exact IntWalk.i64_in _ (by omega)
    have w2 : IntKind.i64.wrap ((n0 : Int) + ((s1.length : Int) + (s2.length : Int))) = ((n0 + (s1.length + s2.length) : Nat) : Int) := by
      rw [show (n0 : Int) + ((s1.length : Int) + (s2.length : Int)) = ((n0 + (s1.length + s2.length) : Nat) : Int) by omega]; exact IntWalk.i64_in _ (by omega)
    gi_wp2_with fail
    refine (CallsIn.inRound l (callsIn_wide.2 HC.out)).mono ?_
    rintro e w1 ⟨rfl, h1⟩
    obtain ⟨b1, hB⟩ := HI.out
    have d1 := boxed_belowT b1 h1
    have c1 := d1.cell
    have f1 := d1.frozen
    have HD := Lib.hid (And.intro d1 (And.intro h1 hB))
    clear h1 b1 hB p0 p1 p2 p3 d1
    gi_wp2
    obtain ⟨d1, h1, hB⟩ := HD.out
    refine ⟨((keeps_belowT h1).trans (KeepsOthers.setCell _ _ _)).from _, (KpN.of_below h1 (by have := hB.size; omega) (fun R e => by cases e)).trans (KpN.set (by omega) (by omega) (fun R e => by cases e) _), ?_, (hB.trans (h1.mono (by have := hB.size; omega))).setCell (p := ⟨_, 0, none⟩) (by simp) _⟩
    show Boxed _ _ _ (.int .i64 ((lenP ((pre ++ [p]).map El.pr) : Nat) : Int))
    rw [HLE.out]
    exact d1.set _
  case done =>
    rintro D xs W hD hxs ⟨b1, hB⟩ hK
    have hr := HR.out
    rw [← HLO.out, ← take_all HT.out, ← hxs] at hr
    obtain ⟨n1, hn1⟩ : ∃ n1, lenP (xs.map El.pr) = n1 := ⟨_, rfl⟩
    rw [hn1] at hr b1
    have c1 := b1.cell
    have HI := Lib.hid (And.intro b1 hB)
    have HKD := Lib.hid hK
    have g1 : decide ((65536 : Int) < (n1 : Int)) = r := by rw [← hr]; apply decide_eq_decide.2; omega
    clear b1 hB hxs hK hn1 hr HR
    cases r
    all_goals
      gi_wp2
      obtain ⟨b1, hB⟩ := HI.out
      refine ⟨by simp, .inl ⟨_, _, rfl, run_takeDeferred HKD.out, ?_⟩⟩
      exact ⟨_, by simp [results, Tryz.f59, go_sem], rfl, fin_belowT (W0 := w3) (kb.trans hB) (by omega) hD HKD.out⟩
  case stop => exact fun _ _ _ _ _ h _ => h.elim
end Go.Proofs.YtmfcepfagbkceaaGreatDoor
namespace Go.Proofs.YtmfcepfagbkceaaGreatDoor
set_option linter.unusedSimpArgs false
set_option linter.unusedVariables false
set_option maxRecDepth 100000
open Go.RowKit Go.Shelf Go.Deep
attribute [local go_sem] Oper.semAt_some wide_fnT
theorem cells_grownT {X Y : World} {row : Option Nat} {B b : Nat} {c : Array Value} {t : TypeId} (hg : X.grownBy Y row) (hr : ∀ r, row = some r → B ≤ r ∧ ∃ o : Obj, X.heap[r]? = some o ∧ o.isCells = false) (h : X.heap[b]? = some (.cells c t (0, 0))) : Y.heap[b]? = some (.cells c t (0, 0)) :=
  (hg.block b (heap_ltT h) (fun e => by obtain ⟨_, o, ho, hc⟩ := hr b e.symm; rw [h] at ho; cases ho; cases hc)).trans h
abbrev eT : TypeId := 25
def CkI (w w4 : World) (R Q : Nat) {w0 : World} {P : Nat → Prop} {T : List (Nat × Nd)} (pre : List (El w0 P T)) (W : World) : Prop :=
  ∃ (ka : Int) (ta : Bs) (na : Int) (sa : Option Addr) (ma ca ld : Nat), Boxed W R eT (.int .i64 0) ∧ W.heap[Q]? = some (.cells #[intV ka, sV ta, intV na, .slice sa ma ca] nT (0, 0)) ∧ Boxed W (Q + 1) 3 (intV ld) ∧
    Below w.heap.size w4 W ∧ ∀ Rr, chkP false 0 (pre.map El.pr ++ Rr) = chkP (decide (ka = 1)) ld Rr
def CkX (w w4 : World) (R : Nat) {w0 : World} {P : Nat → Prop} {T : List (Nat × Nd)} (pre : List (El w0 P T)) (W : World) : Prop :=
  ∃ r : Int, Boxed W R eT (intV r) ∧ r ≠ 0 ∧ Below w.heap.size w4 W ∧ ∀ Rr, chkP false 0 (pre.map El.pr ++ Rr) = r
theorem CkI.own {w w4 : World} {R Q : Nat} {w0 : World} {P : Nat → Prop} {T : List (Nat × Nd)} {B : Nat} (h1 : w.heap.size ≤ w4.heap.size) (h2 : w.heap.size ≤ B) : OwnFrom B (CkI w w4 R Q (w0 := w0) (P := P) (T := T)) := by
  rintro s X Y row ⟨ka, ta, na, sa, ma, ca, ld, b1, b2, b3, hB, hc⟩ hg hr
  exact ⟨ka, ta, na, sa, ma, ca, ld, cells_grownT hg hr b1, cells_grownT hg hr b2, cells_grownT hg hr b3, ownFrom_below (β := Unit) (by omega) (by omega) () X Y row hB hg hr, hc⟩
theorem CkX.own {w w4 : World} {R : Nat} {w0 : World} {P : Nat → Prop} {T : List (Nat × Nd)} {B : Nat} (h1 : w.heap.size ≤ w4.heap.size) (h2 : w.heap.size ≤ B) : OwnFrom B (CkX w w4 R (w0 := w0) (P := P) (T := T)) := by
  rintro s X Y row ⟨r, b1, h0, hB, hc⟩ hg hr
  exact ⟨r, cells_grownT hg hr b1, h0, ownFrom_below (β := Unit) (by omega) (by omega) () X Y row hB hg hr, hc⟩
theorem ck_next {w w4 X X3 : World} {R Q M : Nat} {P : Nat → Prop} {T : List (Nat × Nd)} {pre : List (El w P T)} {p : El w P T} {ka : Int} {ta : Bs} {na : Int} {sa : Option Addr} {ma ca ld : Nat}
    (hRw : w.heap.size ≤ R) (hRQ : R < Q) (hM : Q + 1 < M) (b1 : Boxed X R eT (.int .i64 0)) (b2 : X.heap[Q]? = some (.cells #[intV ka, sV ta, intV na, .slice sa ma ca] nT (0, 0))) (b3 : Boxed X (Q + 1) 3 (intV ld)) (hB : Below w.heap.size w4 X) (hw4 : w.heap.size ≤ w4.heap.size) (hMX : M ≤ X.heap.size)
    (hc : ∀ Rr, chkP false 0 (pre.map El.pr ++ Rr) = chkP (decide (ka = 1)) ld Rr) (hn : ∀ Rr, chkP (decide (ka = 1)) ld (p.pr :: Rr) = chkP (decide (p.x.kd = 1)) p.lv Rr) (h3 : Below X.heap.size X X3)
    {W' : World} (hW : ((((X3.setCell ⟨Q, 0, none⟩ (intV p.x.kd)).setCell ⟨Q, 1, none⟩ (sV p.x.tx)).setCell ⟨Q, 2, none⟩ (intV p.x.nm)).setCell ⟨Q, 3, none⟩ (.slice p.sa p.x.ps.length p.sc)).setCell ⟨Q + 1, 0, none⟩ (intV p.lv) = W') :
    KeepsFrom M X W' ∧ KpN w.heap.size M none X W' ∧ CkI w w4 R Q (pre ++ [p]) W' := by
  have hsz := hB.size
  have c2 := (h3.block _ (heap_ltT b2)).trans b2
  have c1 := boxed_belowT b1 h3
  have c3 := boxed_belowT b3 h3
  obtain ⟨e1, e2, e3⟩ := set4P (N := w.heap.size) c2 (by omega) rfl
  generalize hW4 : (((X3.setCell ⟨Q, 0, none⟩ (intV p.x.kd)).setCell ⟨Q, 1, none⟩ (sV p.x.tx)).setCell ⟨Q, 2, none⟩ (intV p.x.nm)).setCell ⟨Q, 3, none⟩ (.slice p.sa p.x.ps.length p.sc) = W4 at *
  have k4 : KeepsOthers X3 W4 := by rw [← hW4]; exact (((KeepsOthers.setCell _ _ _).trans (KeepsOthers.setCell _ _ _)).trans (KeepsOthers.setCell _ _ _)).trans (KeepsOthers.setCell _ _ _)
  have p4 : KpN w.heap.size M none X3 W4 := by rw [← hW4]; exact (((KpN.set (by omega) (by omega) (fun R e => by cases e) _).trans (KpN.set (by omega) (by omega) (fun R e => by cases e) _)).trans (KpN.set (by omega) (by omega) (fun R e => by cases e) _)).trans (KpN.set (by omega) (by omega) (fun R e => by cases e) _)
  subst hW
  refine ⟨(((keeps_belowT h3).trans k4).trans (KeepsOthers.setCell _ _ _)).from _, ((KpN.of_below h3 (by omega) (fun R e => by cases e)).trans p4).trans (KpN.set (by omega) (by omega) (fun R e => by cases e) _), p.x.kd, p.x.tx, p.x.nm, p.sa, p.x.ps.length, p.sc, p.lv, ?_, ?_, ?_, ?_, fun Rr => ?_⟩
  · exact Boxed.other (show W4.heap[R]? = _ from (e2 R (by omega)).trans c1) (by omega) _
  · rw [Below.heap_setCell _ _ _ _ (by show Q ≠ Q + 1; omega)]; exact e1
  · exact Boxed.set _ (show W4.heap[Q + 1]? = some (.cells #[intV ld] 3 (0, 0)) from (e2 (Q + 1) (by omega)).trans c3)
  · exact ((hB.trans (h3.mono (by omega))).trans e3).setCell (p := ⟨Q + 1, 0, none⟩) (by show w.heap.size ≤ Q + 1; omega) _
  · rw [List.map_append, List.append_assoc, List.map_cons, List.map_nil, List.singleton_append, hc, hn]
theorem ck_stop {w w4 X X3 : World} {R M : Nat} {P : Nat → Prop} {T : List (Nat × Nd)} {pre : List (El w P T)} {p : El w P T} {ka : Int} {ld : Nat} {r : Int} (hr : r ≠ 0)
    (hRw : w.heap.size ≤ R) (b1 : Boxed X R eT (.int .i64 0)) (hB : Below w.heap.size w4 X) (hw4 : w.heap.size ≤ w4.heap.size)
    (hc : ∀ Rr, chkP false 0 (pre.map El.pr ++ Rr) = chkP (decide (ka = 1)) ld Rr) (hn : ∀ Rr, chkP (decide (ka = 1)) ld (p.pr :: Rr) = r) (h3 : Below X.heap.size X X3) :
    KeepsFrom M X (X3.setCell ⟨R, 0, none⟩ (intV r)) ∧ CkX w w4 R (pre ++ [p]) (X3.setCell ⟨R, 0, none⟩ (intV r)) := by
  have hsz := hB.size
  have c1 := boxed_belowT b1 h3
  refine ⟨((keeps_belowT h3).trans (KeepsOthers.setCell _ _ _)).from _, r, Boxed.set _ c1, hr, (hB.trans (h3.mono (by omega))).setCell (p := ⟨R, 0, none⟩) hRw _, fun Rr => ?_⟩
  rw [List.map_append, List.append_assoc, List.map_cons, List.map_nil, List.singleton_append, hc, hn]
end Go.Proofs.YtmfcepfagbkceaaGreatDoor
namespace Go.Proofs.YtmfcepfagbkceaaGreatDoor
set_option linter.unusedSimpArgs false
set_option linter.unusedVariables false
set_option maxRecDepth 100000
open Go.RowKit Go.Shelf Go.Deep
attribute [local go_sem] Oper.semAt_some wide_fnT
theorem vat_tx {W : World} {P : Nat → Prop} {v : Value} {x : Nd} (h : VAt W P v x) : x.tx.length ≤ maxLen := by
  obtain ⟨k, t, n, l⟩ := x
  obtain ⟨_, _, h3, _⟩ := vat_of h
  exact h3
theorem ck_large {L : List Nd} (h : largeB L = true) : ckR L = 4 := by
  rw [large_is] at h
  unfold ckR
  rw [if_neg (fun hc => by rw [decide_eq_true hc] at h; cases h)]
theorem ck_of {L : List Nd} (h : largeB L = false) : tots L ≤ 4096 ∧ ckR L = if allL false false L ≠ 0 then allL false false L else if 65536 < (outL L).length then 4 else 0 := by
  rw [large_is] at h
  have h1 : tots L ≤ 4096 ∧ deps L ≤ 16 := by
    apply Classical.byContradiction
    intro hc
    rw [decide_eq_false hc] at h
    cases h
  refine ⟨h1.1, ?_⟩
  unfold ckR
  rw [if_pos h1]
set_option maxHeartbeats 8000000 in
theorem checkT_any (L : List Nd) (v : Value) (P : Nat → Prop) (w : World) [T w] (hv : VsAt w P v L) (ht : tots L ≤ 90000) (r : Int) (hr : ckR L = r) :
    Calls Tryz.prog 24 #[v] w fun e w' => e = .returned (intV r) ∧ Below w.heap.size w w' := by
  have HV := Lib.hid hv
  obtain ⟨a, c, rfl, hvi⟩ := id hv
  clear hvi
  have HR := Lib.hid hr
  have HT := Lib.hid ht
  obtain ⟨lb, hlb⟩ : ∃ b, largeB L = b := ⟨_, rfl⟩
  have HLB := Lib.hid hlb
  have HLA := Lib.hid (fun W (h : Below w.heap.size w W) => isTooLarge_any L _ P W (HV.out.below h) HT.out)
  rw [hlb] at HLA
  have hb := World.alloc_heap_new w (.cells #[.int .i64 0] eT)
  have hB := (Below.refl w.heap.size w).alloc (Nat.le_refl _) (.cells #[.int .i64 0] eT)
  have HBB := Lib.hid (And.intro hb hB)
  clear hr hv ht hlb
  refine (callsIn_wide (n := 9)).1 ?_
  refine callsIn_of_wp_marks Tryz.func24 rfl trivial ?_ rfl
  simp only [Tryz.ntmps24, List.size_toArray, List.length_cons, List.length_nil, Nat.reduceAdd, Nat.reduceSub, Array.replicate_succ, Array.replicate_zero, List.push_toArray, List.append_toArray, List.nil_append, List.cons_append]
  gi_wp2_with fail
  refine (callsIn_wide.2 (HLA.out _ hB)).mono ?_
  rintro e w1 ⟨rfl, h1⟩
  have hb1 := (h1.block _ (heap_ltT hb)).trans hb
  have hB1 := hB.trans (h1.mono hB.size)
  have hlt1 := heap_ltT hb1
  clear hb hB
  cases lb
  · obtain ⟨w4, hw4⟩ : ∃ X, (((w1.alloc (.cells #[.int .i64 0, .string ⟨#[]⟩, .int .i64 0, .slice none 0 0] nT (0, 0))).alloc (.cells #[.int .i64 0] 3)).alloc (.cells #[.slice a L.length c] lT (0, 0))) = X := ⟨_, rfl⟩
    obtain ⟨s4, k0, k1, k2, kb⟩ := blocks3T w1 _ _ _ hw4
    have hbw : Below w.heap.size w w4 := hB1.trans (kb.mono (by omega))
    have hbr : w4.heap[w.heap.size]? = some (.cells #[.int .i64 0] eT (0, 0)) := (kb.block _ hlt1).trans hb1
    have HW4 := Lib.hid hw4
    have HBW := Lib.hid (And.intro hbw hbr)
    have HKK := Lib.hid (And.intro k0 (And.intro k1 k2))
    have HS := Lib.hid (And.intro s4 hlt1)
    clear h1 hb1 hB1 hw4 k0 k1 k2 kb hbw hbr hlt1 s4
    gi_wp2_with (gi_at_call 51; refine (callsIn_wide.2 (nodes_any _ _ _ _)).mono ?_; rintro e w' ⟨rfl, rfl⟩)
    rw [HW4.out]
    obtain ⟨k0, k1, k2⟩ := HKK.out
    obtain ⟨s4, hlt1⟩ := HS.out
    obtain ⟨hbw, hbr⟩ := HBW.out
    refine wpIn_range_ret rfl (by omega) (gf := 81) (lb := #[.pointer (some ⟨w1.heap.size + 1 + 1, 0, none⟩)]) rfl trivial Tryz.call81
      (nodes_stops w P L _ HV.out HT.out w4.heap.size none (w1.heap.size + 1 + 1) w4 hbw k2) (fun h k => h.trans k) (fun W l o o' hl ho hc _ => KpN.put (r := none) (by omega) (fun R e => by cases e) W l o o' hl ho hc) (fun _ => rfl)
      (CkI w w4 w.heap.size w1.heap.size) (CkX w w4 w.heap.size) (CkI.own hbw.size (by omega)) (CkX.own hbw.size (by omega))
      (fun pre W h => by obtain ⟨_, _, _, _, _, _, _, _, _, _, hB, _⟩ := h; exact GN.of hbw.size hB.size) (fun pre W h => by obtain ⟨_, _, _, hB, _⟩ := h; exact hbw.trans hB)
      ⟨0, [], 0, none, 0, 0, 0, hbr, k0, k1, Below.refl _ _, fun Rr => rfl⟩
      (fun p a' X => ∃ B7 : Nat, w4.heap.size ≤ B7 ∧ X.heap[B7]? = some (.cells #[intV p.x.kd, sV p.x.tx, intV p.x.nm, .slice p.sa p.x.ps.length p.sc] nT (0, 0)) ∧ a' = { tmps := #[Value.slice a L.length c, undef, .pointer (some ⟨w.heap.size, 0, none⟩), .pointer (some ⟨w1.heap.size, 0, none⟩), .pointer (some ⟨w1.heap.size + 1, 0, none⟩), intV p.lv, .pointer (some ⟨B7, 0, none⟩), undef, Value.slice a L.length c, .bool false, Value.slice a L.length c, .func (.func 81) #[] #[.pointer (some ⟨w1.heap.size + 1 + 1, 0, none⟩)], intV p.lv, .agg #[intV p.x.kd, sV p.x.tx, intV p.x.nm, .slice p.sa p.x.ps.length p.sc], undef, undef, undef, undef, undef, undef, undef, undef, undef, undef, undef, undef, undef, undef, undef, undef, undef, undef, undef, undef, undef, undef, undef, undef, undef, undef, undef], defers := [] })
      (fun p a' _ X Y row h hg hr => by
        obtain ⟨B7, h1, h2, h3⟩ := h
        exact ⟨B7, h1, cells_grownT hg hr h2, h3⟩)
      ?assign ?body ?done ?stop
    case assign =>
      intro l pre p X K hI hK
      have hX : w4.heap.size ≤ X.heap.size := by obtain ⟨_, _, _, _, _, _, _, _, _, _, hB, _⟩ := hI; exact hB.size
      have hI2 := (CkI.own (B := w4.heap.size) hbw.size hbw.size).alloc (.cells #[intV p.x.kd, sV p.x.tx, intV p.x.nm, .slice p.sa p.x.ps.length p.sc] nT (0, 0)) hI
      gi_wp2
      exact hK _ _ ((KeepsOthers.alloc X _).from _) (KpN.alloc (GN.of hbw.size hX) _) hI2 ⟨X.heap.size, hX, World.alloc_heap_new _ _, rfl⟩
    case body =>
      intro l pre p a' X hl hI hA hN
      obtain ⟨B7, hB7, hx7, rfl⟩ := hA
      obtain ⟨ka, ta, na, sa, ma, ca, ld, b1, b2, b3, hB, hc⟩ := hI
      have hsz := hB.size
      haveI tX : T X := T.below (w0 := w) (hbw.trans hB)
      have htx := vat_tx p.ok
      have HAL := Lib.hid (checkAlone_any p.x htx p.sa p.sc X)
      obtain ⟨e, he⟩ : ∃ e, alone p.x = e := ⟨_, rfl⟩
      rw [he] at HAL
      have HE := Lib.hid he
      obtain ⟨x0, x1, x2, x3⟩ := box4T hx7
      have HI := Lib.hid (And.intro hx7 (And.intro b1 (And.intro b2 (And.intro b3 (And.intro hB hc)))))
      clear hx7 b1 b2 b3 hB hc he htx
      gi_wp2_with fail
      refine (CallsIn.inRound l (callsIn_wide.2 HAL.out)).mono ?_
      rintro e2 X1 ⟨rfl, g1⟩
      have G1 := Lib.hid g1
      clear x0 x1 x2 x3 g1 HAL
      by_cases he0 : e = 0
      · have q1 : (e != 0) = false := by simp [he0]
        replace he0 := Lib.hid he0
        obtain ⟨k1, hk1⟩ : ∃ b, (p.x.kd == 1) = b := ⟨_, rfl⟩
        have HIT := Lib.hid (fun W => isText_any p.x.kd p.x.tx p.x.nm (.slice p.sa p.x.ps.length p.sc) k1 hk1 W)
        obtain ⟨hx7, b1, b2, b3, hB, hc⟩ := HI.out
        have n7 := (G1.out.block _ (heap_ltT hx7)).trans hx7
        have n2 := (G1.out.block _ (heap_ltT b2)).trans b2
        have n1 := boxed_belowT b1 G1.out
        have n3 := boxed_belowT b3 G1.out
        obtain ⟨x0, x1, x2, x3⟩ := box4T n7
        obtain ⟨l0, l1, l2, l3⟩ := box4T n2
        have v0 := heap_free n2 0
        have v1 := heap_free n2 1
        have v2 := heap_free n2 2
        have v3 := heap_free n2 3
        have c1 := n1.cell
        have f1 := n1.frozen
        have c3 := n3.cell
        have f3 := n3.frozen
        clear hx7 b1 b2 b3 hB hc n7 n2 n1 n3
        gi_wp2_with fail
        refine (CallsIn.inRound l (callsIn_wide.2 (HIT.out _))).mono ?_
        rintro e2 X2 ⟨rfl, g2⟩
        have G2 := Lib.hid (below_then G1.out g2)
        clear g2 HIT
        clear x0 x1 x2 x3 l0 l1 l2 l3 v0 v1 v2 v3 c1 f1 c3 f3
        cases k1
        · have HK1 := Lib.hid (show p.x.kd ≠ 1 by simpa using hk1)
          obtain ⟨hx7, b1, b2, b3, hB, hc⟩ := HI.out
          have n7 := (G2.out.block _ (heap_ltT hx7)).trans hx7
          have n2 := (G2.out.block _ (heap_ltT b2)).trans b2
          have n1 := boxed_belowT b1 G2.out
          have n3 := boxed_belowT b3 G2.out
          obtain ⟨x0, x1, x2, x3⟩ := box4T n7
          obtain ⟨l0, l1, l2, l3⟩ := box4T n2
          have v0 := heap_free n2 0
          have v1 := heap_free n2 1
          have v2 := heap_free n2 2
          have v3 := heap_free n2 3
          have c1 := n1.cell
          have f1 := n1.frozen
          have c3 := n3.cell
          have f3 := n3.frozen
          clear hx7 b1 b2 b3 hB hc n7 n2 n1 n3
          cases hk4 : (p.x.kd == 4)
          · have HK4 := Lib.hid (show p.x.kd ≠ 4 by simpa using hk4)
            gi_wp2
            obtain ⟨hx7, b1, b2, b3, hB, hc⟩ := HI.out
            exact ck_next (Nat.le_refl _) hlt1 (by omega) b1 b2 b3 hB hbw.size hB.size hc (fun Rr => by
              show chkP _ _ ((p.lv, p.x) :: Rr) = _
              rw [chkP]
              simp only [HE.out, he0.out]
              rw [if_neg (by simp), if_neg (fun h => HK1.out h.1), if_neg (fun h => HK4.out h.1)]) G2.out rfl
          · have HK4 := Lib.hid (show p.x.kd = 4 by simpa using hk4)
            by_cases hlv : 0 < p.lv
            · have g0 : decide ((0 : Int) < (p.lv : Int)) = true := decide_eq_true (by omega)
              have HLV := Lib.hid hlv
              clear hlv
              gi_wp2
              obtain ⟨hx7, b1, b2, b3, hB, hc⟩ := HI.out
              exact ck_stop (r := 12) (by decide) (Nat.le_refl _) b1 hB hbw.size hc (fun Rr => by
                show chkP _ _ ((p.lv, p.x) :: Rr) = _
                rw [chkP]
                simp only [HE.out, he0.out]; rw [if_neg (by simp), if_neg (fun h => HK1.out h.1), if_pos ⟨HK4.out, HLV.out⟩]) G2.out
            · have g0 : decide ((0 : Int) < (p.lv : Int)) = false := decide_eq_false (by omega)
              have HLV := Lib.hid hlv
              clear hlv
              gi_wp2
              obtain ⟨hx7, b1, b2, b3, hB, hc⟩ := HI.out
              exact ck_next (Nat.le_refl _) hlt1 (by omega) b1 b2 b3 hB hbw.size hB.size hc (fun Rr => by
                show chkP _ _ ((p.lv, p.x) :: Rr) = _
                rw [chkP]
                simp only [HE.out, he0.out]
                rw [if_neg (by simp), if_neg (fun h => HK1.out h.1), if_neg (fun h => HLV.out h.2)]) G2.out rfl
        · have HK1 := Lib.hid (show p.x.kd = 1 by simpa using hk1)
          obtain ⟨kl, hkl⟩ : ∃ b, (ka == 1) = b := ⟨_, rfl⟩
          have HIL := Lib.hid (fun W => isText_any ka ta na (.slice sa ma ca) kl hkl W)
          obtain ⟨hx7, b1, b2, b3, hB, hc⟩ := HI.out
          have n7 := (G2.out.block _ (heap_ltT hx7)).trans hx7
          have n2 := (G2.out.block _ (heap_ltT b2)).trans b2
          have n1 := boxed_belowT b1 G2.out
          have n3 := boxed_belowT b3 G2.out
          obtain ⟨x0, x1, x2, x3⟩ := box4T n7
          obtain ⟨l0, l1, l2, l3⟩ := box4T n2
          have v0 := heap_free n2 0
          have v1 := heap_free n2 1
          have v2 := heap_free n2 2
          have v3 := heap_free n2 3
          have c1 := n1.cell
          have f1 := n1.frozen
          have c3 := n3.cell
          have f3 := n3.frozen
          clear hx7 b1 b2 b3 hB hc n7 n2 n1 n3
          gi_wp2_with fail
          refine (CallsIn.inRound l (callsIn_wide.2 (HIL.out _))).mono ?_
          rintro e2 X3 ⟨rfl, g3⟩
          have G3 := Lib.hid (below_then G2.out g3)
          clear g3 HIL
          clear x0 x1 x2 x3 l0 l1 l2 l3 v0 v1 v2 v3 c1 f1 c3 f3
          cases kl
          · have HKL := Lib.hid (show ka ≠ 1 by simpa using hkl)
            obtain ⟨hx7, b1, b2, b3, hB, hc⟩ := HI.out
            have n7 := (G3.out.block _ (heap_ltT hx7)).trans hx7
            have n2 := (G3.out.block _ (heap_ltT b2)).trans b2
            have n1 := boxed_belowT b1 G3.out
            have n3 := boxed_belowT b3 G3.out
            obtain ⟨x0, x1, x2, x3⟩ := box4T n7
            obtain ⟨l0, l1, l2, l3⟩ := box4T n2
            have v0 := heap_free n2 0
            have v1 := heap_free n2 1
            have v2 := heap_free n2 2
            have v3 := heap_free n2 3
            have c1 := n1.cell
            have f1 := n1.frozen
            have c3 := n3.cell
            have f3 := n3.frozen
            clear hx7 b1 b2 b3 hB hc n7 n2 n1 n3
            have k4 : (p.x.kd == 4) = false := by rw [HK1.out]; rfl
            gi_wp2
            obtain ⟨hx7, b1, b2, b3, hB, hc⟩ := HI.out
            exact ck_next (Nat.le_refl _) hlt1 (by omega) b1 b2 b3 hB hbw.size hB.size hc (fun Rr => by
              show chkP _ _ ((p.lv, p.x) :: Rr) = _
              rw [chkP]
              simp only [HE.out, he0.out]
              rw [if_neg (by simp), if_neg (fun h => HKL.out (by simpa using h.2.1)), if_neg (fun h => by have := HK1.out; omega)]) G3.out rfl
          · have HKL := Lib.hid (show ka = 1 by simpa using hkl)
            by_cases hq : p.lv = ld
            · have q2 : ((p.lv : Int) == (ld : Int)) = true := by simp [hq]
              have HQ := Lib.hid hq
              clear hq
              obtain ⟨hx7, b1, b2, b3, hB, hc⟩ := HI.out
              have n7 := (G3.out.block _ (heap_ltT hx7)).trans hx7
              have n2 := (G3.out.block _ (heap_ltT b2)).trans b2
              have n1 := boxed_belowT b1 G3.out
              have n3 := boxed_belowT b3 G3.out
              obtain ⟨x0, x1, x2, x3⟩ := box4T n7
              obtain ⟨l0, l1, l2, l3⟩ := box4T n2
              have v0 := heap_free n2 0
              have v1 := heap_free n2 1
              have v2 := heap_free n2 2
              have v3 := heap_free n2 3
              have c1 := n1.cell
              have f1 := n1.frozen
              have c3 := n3.cell
              have f3 := n3.frozen
              clear hx7 b1 b2 b3 hB hc n7 n2 n1 n3
              gi_wp2
              obtain ⟨hx7, b1, b2, b3, hB, hc⟩ := HI.out
              exact ck_stop (r := 10) (by decide) (Nat.le_refl _) b1 hB hbw.size hc (fun Rr => by
                show chkP _ _ ((p.lv, p.x) :: Rr) = _
                rw [chkP]
                simp only [HE.out, he0.out]; rw [if_neg (by simp), if_pos ⟨HK1.out, by simpa using HKL.out, HQ.out⟩]) G3.out
            · have q2 : ((p.lv : Int) == (ld : Int)) = false := by rw [beq_eq_false_iff_ne]; omega
              have HQ := Lib.hid hq
              clear hq
              obtain ⟨hx7, b1, b2, b3, hB, hc⟩ := HI.out
              have n7 := (G3.out.block _ (heap_ltT hx7)).trans hx7
              have n2 := (G3.out.block _ (heap_ltT b2)).trans b2
              have n1 := boxed_belowT b1 G3.out
              have n3 := boxed_belowT b3 G3.out
              obtain ⟨x0, x1, x2, x3⟩ := box4T n7
              obtain ⟨l0, l1, l2, l3⟩ := box4T n2
              have v0 := heap_free n2 0
              have v1 := heap_free n2 1
              have v2 := heap_free n2 2
              have v3 := heap_free n2 3
              have c1 := n1.cell
              have f1 := n1.frozen
              have c3 := n3.cell
              have f3 := n3.frozen
              clear hx7 b1 b2 b3 hB hc n7 n2 n1 n3
              have k4 : (p.x.kd == 4) = false := by rw [HK1.out]; rfl
              gi_wp2
              obtain ⟨hx7, b1, b2, b3, hB, hc⟩ := HI.out
              exact ck_next (Nat.le_refl _) hlt1 (by omega) b1 b2 b3 hB hbw.size hB.size hc (fun Rr => by
                show chkP _ _ ((p.lv, p.x) :: Rr) = _
                rw [chkP]
                simp only [HE.out, he0.out]
                rw [if_neg (by simp), if_neg (fun h => HQ.out h.2.2), if_neg (fun h => by have := HK1.out; omega)]) G3.out rfl
      · have q1 : (e != 0) = true := by simpa using he0
        obtain ⟨hx7, b1, b2, b3, hB, hc⟩ := HI.out
        have n7 := (G1.out.block _ (heap_ltT hx7)).trans hx7
        have n2 := (G1.out.block _ (heap_ltT b2)).trans b2
        have n1 := boxed_belowT b1 G1.out
        have n3 := boxed_belowT b3 G1.out
        obtain ⟨x0, x1, x2, x3⟩ := box4T n7
        obtain ⟨l0, l1, l2, l3⟩ := box4T n2
        have v0 := heap_free n2 0
        have v1 := heap_free n2 1
        have v2 := heap_free n2 2
        have v3 := heap_free n2 3
        have c1 := n1.cell
        have f1 := n1.frozen
        have c3 := n3.cell
        have f3 := n3.frozen
        clear hx7 b1 b2 b3 hB hc n7 n2 n1 n3
        gi_wp2
        obtain ⟨hx7, b1, b2, b3, hB, hc⟩ := HI.out
        exact ck_stop (r := e) he0 (Nat.le_refl _) b1 hB hbw.size hc (fun Rr => by
          show chkP _ _ ((p.lv, p.x) :: Rr) = _
          rw [chkP]
          simp only [HE.out]; rw [if_pos he0]) G1.out
    case done =>
      rintro D xs W hD hxs hI hK
      obtain ⟨ka, ta, na, sa, ma, ca, ld, b1, b2, b3, hB, hc⟩ := hI
      obtain ⟨ht4, hck⟩ := ck_of HLB.out
      have hall : allL false false L = 0 := by
        have h1 := hc []
        rw [List.append_nil, hxs, take_all ht4, chkP_all L false rfl] at h1
        rw [h1]; rfl
      rw [hall, if_neg (by simp)] at hck
      haveI tW : T W := T.below (w0 := w) (hbw.trans hB)
      obtain ⟨lg, hlg⟩ : ∃ b, decide (65536 < (outL L).length) = b := ⟨_, rfl⟩
      have HLG := Lib.hid (isTooLong_any L _ P W (HV.out.below (hbw.trans hB)) ht4 hall lg hlg)
      have HRR := Lib.hid (show r = if lg then 4 else 0 by
        rw [← HR.out, hck, ← hlg]
        by_cases h : 65536 < (outL L).length <;> simp [h])
      have HKD := Lib.hid hK
      have HI := Lib.hid (And.intro b1 hB)
      clear hc hck hall hlg ht4 b1 b2 b3 hB hK hxs
      gi_wp2_with fail
      refine (callsIn_wide.2 HLG.out).mono ?_
      rintro e2 W1 ⟨rfl, g1⟩
      obtain ⟨b1, hB⟩ := HI.out
      have d1 := boxed_belowT b1 g1
      have c1 := d1.cell
      have f1 := d1.frozen
      have hk1 := (g1.block _ (heap_ltT HKD.out)).trans HKD.out
      have hBW := (hbw.trans hB).trans (g1.mono (by have := (hbw.trans hB).size; omega))
      have HD := Lib.hid (And.intro d1 (And.intro hk1 hBW))
      clear b1 hB d1 hk1 hBW g1 HLG
      cases lg
      all_goals
        gi_wp2
        obtain ⟨d1, hk1, hBW⟩ := HD.out
        first
          | (have hK' := fin_storeT (B := w.heap.size) (.int .i64 0) hk1
             have hc5 := fin_cellT (Boxed.set (.int .i64 0) d1) hK'
             refine ⟨by simp, .inl ⟨_, _, rfl, run_takeDeferred hK', ?_⟩⟩
             exact ⟨intV 0, by simp [results, Tryz.f24, go_sem, hc5], by rw [HRR.out]; rfl, fin_belowT (W0 := w4) (hBW.setCell (p := ⟨_, 0, none⟩) (by simp) _) hbw.size hD hK'⟩)
          | (have hK' := fin_storeT (B := w.heap.size) (.int .i64 4) hk1
             have hc5 := fin_cellT (Boxed.set (.int .i64 4) d1) hK'
             refine ⟨by simp, .inl ⟨_, _, rfl, run_takeDeferred hK', ?_⟩⟩
             exact ⟨intV 4, by simp [results, Tryz.f24, go_sem, hc5], by rw [HRR.out]; rfl, fin_belowT (W0 := w4) (hBW.setCell (p := ⟨_, 0, none⟩) (by simp) _) hbw.size hD hK'⟩)
    case stop =>
      rintro D pre W hD hpre hI hK
      obtain ⟨r', b1, hr0, hB, hc⟩ := hI
      obtain ⟨ht4, hck⟩ := ck_of HLB.out
      obtain ⟨Rr, hRr⟩ := hpre
      have hall : allL false false L = r' := by
        have h1 := hc Rr
        rw [hRr, take_all ht4, chkP_all L false rfl] at h1
        exact h1
      rw [hall, if_pos hr0] at hck
      have HZ := Lib.hid (show r' = r by rw [← HR.out, hck])
      have hc5 := fin_cellT b1 hK
      have hBW := hbw.trans hB
      clear hc hRr hall hck
      gi_wp2
      refine ⟨by simp, .inl ⟨_, _, rfl, run_takeDeferred hK, ?_⟩⟩
      exact ⟨intV r', by simp [results, Tryz.f24, go_sem, hc5], by rw [HZ.out], fin_belowT (W0 := w4) hBW hbw.size hD hK⟩
  · have HC := Lib.hid (And.intro hb1 hB1)
    have c1 : Boxed w1 w.heap.size eT (.int .i64 0) := hb1
    have cc := c1.cell
    have cf := c1.frozen
    have HZ := Lib.hid (show r = 4 by rw [← HR.out, ck_large HLB.out])
    clear h1 hb1 hB1 c1
    gi_wp2
    have c2 := (Boxed.set (.int .i64 4) (show Boxed w1 w.heap.size eT (.int .i64 0) from HC.out.1)).cell
    refine ⟨intV 4, by simp [results, Tryz.f24, go_sem, c2], by rw [HZ.out], HC.out.2.setCell (p := ⟨_, 0, none⟩) (by simp) _⟩
end Go.Proofs.YtmfcepfagbkceaaGreatDoor
namespace Go.Proofs.YtmfcepfagbkceaaGreatDoor
set_option linter.unusedSimpArgs false
set_option linter.unusedVariables false
set_option maxRecDepth 100000
open Go.RowKit Go.Shelf Go.Deep
attribute [local go_sem] Oper.semAt_some wide_fnT
def depthR (l : List Nd) : Int × Int := if ckR l = 0 then ((deps l : Nat), 0) else (0, 1)
set_option maxHeartbeats 4000000 in
theorem depthT_any (L : List Nd) (v : Value) (P : Nat → Prop) (w : World) [T w] (hv : VsAt w P v L) (ht : tots L ≤ 90000) (d e : Int) (hr : depthR L = (d, e)) :
    Calls Tryz.prog 22 #[v] w fun en w' => en = .returned (.tuple #[intV d, intV e]) ∧ Below w.heap.size w w' := by
  have HV := Lib.hid hv
  obtain ⟨a, c, rfl, hvi⟩ := id hv
  clear hvi
  have HR := Lib.hid hr
  have HT := Lib.hid ht
  obtain ⟨k, hk⟩ : ∃ k, ckR L = k := ⟨_, rfl⟩
  have HK := Lib.hid hk
  have HCK := Lib.hid (checkT_any L _ P w hv ht k hk)
  clear hr hv ht hk
  refine (callsIn_wide (n := 9)).1 ?_
  refine callsIn_of_wp_marks Tryz.func22 rfl trivial ?_ rfl
  simp only [Tryz.ntmps22, List.size_toArray, List.length_cons, List.length_nil, Nat.reduceAdd, Nat.reduceSub, Array.replicate_succ, Array.replicate_zero, List.push_toArray, List.append_toArray, List.nil_append, List.cons_append]
  gi_wp2_with fail
  refine (callsIn_wide.2 HCK.out).mono ?_
  rintro en w1 ⟨rfl, h1⟩
  have H1 := Lib.hid h1
  clear h1 HCK
  by_cases hk0 : k = 0
  · have q1 : (k != 0) = false := by simp [hk0]
    have HTT := Lib.hid (show tots L ≤ 4096 from (ck_zero (HK.out.trans hk0)).1)
    have HZ := Lib.hid (show depthR L = (((deps L : Nat) : Int), (0 : Int)) by unfold depthR; rw [HK.out, if_pos hk0])
    clear hk0
    obtain ⟨w3, hw3⟩ : ∃ X, ((w1.alloc (.cells #[.int .i64 0] 3)).alloc (.cells #[.slice a L.length c] lT (0, 0))) = X := ⟨_, rfl⟩
    obtain ⟨s3, k1, k2, kb⟩ := heap_allocT2 w1 _ _ hw3
    have HW3 := Lib.hid hw3
    have HKK := Lib.hid (And.intro s3 (And.intro k1 (And.intro k2 kb)))
    clear hw3 s3 k1 k2 kb
    gi_wp2_with (gi_at_call 51; refine (callsIn_wide.2 (nodes_any _ _ _ _)).mono ?_; rintro e w' ⟨rfl, rfl⟩)
    rw [HW3.out]
    obtain ⟨s3, k1, k2, kb⟩ := HKK.out
    have hbw : Below w.heap.size w w3 := H1.out.trans (kb.mono H1.out.size)
    have hs1 : w.heap.size ≤ w1.heap.size := H1.out.size
    refine wpIn_range_ret rfl (by omega) (gf := 81) (lb := #[.pointer (some ⟨w1.heap.size + 1, 0, none⟩)]) rfl trivial Tryz.call81
      (nodes_stops w P L _ HV.out HT.out w3.heap.size none (w1.heap.size + 1) w3 hbw k2) (fun h k => h.trans k) (fun W l o o' hl ho hc _ => KpN.put (r := none) (by omega) (fun R e => by cases e) W l o o' hl ho hc) (fun _ => rfl)
      (fun pre W => Boxed W w1.heap.size 3 (.int .i64 (topD 0 (pre.map El.pr))) ∧ Below w.heap.size w3 W)
      (fun _ _ => False)
      (OwnFrom.and (Own.from (boxed_own _ _ _) _) (ownFrom_below (by omega) (by omega)))
      (fun _ _ _ _ h _ _ => h)
      (fun pre W h => GN.of (by omega) h.2.size) (fun pre W h => h.elim)
      ⟨k1, Below.refl _ _⟩
      (fun p a' X => a' = { tmps := #[Value.slice a L.length c, undef, .int .i64 0, .int .i64 0, .pointer (some ⟨w1.heap.size, 0, none⟩), intV p.lv, Value.slice a L.length c, intV k, .bool false, Value.slice a L.length c, .func (.func 81) #[] #[.pointer (some ⟨w1.heap.size + 1, 0, none⟩)], intV p.lv, .agg #[intV p.x.kd, sV p.x.tx, intV p.x.nm, .slice p.sa p.x.ps.length p.sc], undef, undef, undef, undef], defers := [] })
      (fun p a' _ X Y row h hg hr => h)
      ?assign ?body ?done ?stop
    case assign =>
      intro l pre p X K hI hK
      gi_wp2
      exact hK _ _ (KeepsFrom.refl _ _) (KpN.refl _ _ _ _) hI rfl
    case body =>
      intro l pre p a' X hl hI hA hN
      obtain ⟨b2, hB⟩ := hI
      subst hA
      obtain ⟨tD, htD⟩ : ∃ tD, topD 0 (pre.map El.pr) = tD := ⟨_, rfl⟩
      rw [htD] at b2
      have c2 := b2.cell
      have f2 := b2.frozen
      have HI := Lib.hid (And.intro b2 hB)
      have HW := Lib.hid (show ∀ m : Nat, m = max tD p.lv → topD 0 ((pre ++ [p]).map El.pr) = m from fun m hm => by
        rw [List.map_append, topD_append, htD, hm]; rfl)
      clear b2 hB htD
      gi_wp2
      all_goals
        obtain ⟨b2, hB⟩ := HI.out
        refine ⟨(KeepsOthers.setCell _ _ _).from _, KpN.set (by omega) (by omega) (fun R e => by cases e) _, ?_, hB.setCell (p := ⟨_, 0, none⟩) (by simp; omega) _⟩
        show Boxed _ _ _ (.int .i64 ((topD 0 ((pre ++ [p]).map El.pr) : Nat) : Int))
        rw [HW.out _ rfl]
        first
          | (rw [show ((max tD p.lv : Nat) : Int) = max (tD : Int) (p.lv : Int) by omega]; exact b2.set _)
          | (rw [show max tD p.lv = p.lv by omega]; exact b2.set _)
          | (rw [show max tD p.lv = tD by omega]; exact b2.set _)
    case done =>
      rintro D xs W hD hxs ⟨b2, hB⟩ hK
      have htop : topD 0 (xs.map El.pr) = deps L := by rw [hxs, take_all HTT.out, topD_all]
      rw [htop] at b2
      have hz := HZ.out
      rw [HR.out] at hz
      obtain ⟨rfl, rfl⟩ := Prod.mk.inj hz
      have c2 := b2.cell
      have HI := Lib.hid (And.intro b2 hB)
      have HKD := Lib.hid hK
      clear b2 hB hxs hK htop hz HZ HR
      gi_wp2
      obtain ⟨b2, hB⟩ := HI.out
      refine ⟨by simp, .inl ⟨_, _, rfl, run_takeDeferred HKD.out, ?_⟩⟩
      exact ⟨_, by simp [results, Tryz.f22, go_sem], rfl, fin_belowT (W0 := w3) (hbw.trans hB) (by omega) hD HKD.out⟩
    case stop => exact fun _ _ _ _ _ h _ => h.elim
  · have q1 : (k != 0) = true := by simpa using hk0
    have HZ := Lib.hid (show d = 0 ∧ e = 1 by
      have h := HR.out
      unfold depthR at h
      rw [HK.out, if_neg hk0] at h
      exact ⟨(Prod.mk.inj h).1.symm, (Prod.mk.inj h).2.symm⟩)
    clear hk0
    gi_wp2
    exact ⟨.tuple #[intV 0, intV 1], by simp [results, Tryz.f22, go_sem], by rw [HZ.out.1, HZ.out.2], H1.out⟩
end Go.Proofs.YtmfcepfagbkceaaGreatDoor
namespace Go.Proofs.YtmfcepfagbkceaaGreatDoor
set_option linter.unusedSimpArgs false
set_option linter.unusedVariables false
set_option maxRecDepth 100000
open Go.RowKit Go.Shelf Go.Deep
attribute [local go_sem] Oper.semAt_some wide_fnT
def countR (l : List Nd) (kind : Int) : Int × Int := if ckR l = 0 then (if kind < 1 ∨ 11 < kind then (0, 8) else ((cntL kind l : Nat), 0)) else (0, 1)
set_option maxHeartbeats 4000000 in
theorem countT_any (L : List Nd) (kind : Int) (v : Value) (P : Nat → Prop) (w : World) [T w] (hv : VsAt w P v L) (ht : tots L ≤ 90000) (d e : Int) (hr : countR L kind = (d, e)) :
    Calls Tryz.prog 20 #[v, intV kind] w fun en w' => en = .returned (.tuple #[intV d, intV e]) ∧ Below w.heap.size w w' := by
  have HV := Lib.hid hv
  obtain ⟨a, c, rfl, hvi⟩ := id hv
  clear hvi
  have HR := Lib.hid hr
  have HT := Lib.hid ht
  obtain ⟨k, hk⟩ : ∃ k, ckR L = k := ⟨_, rfl⟩
  have HK := Lib.hid hk
  have hb := World.alloc_heap_new w (.cells #[intV kind] 3)
  have hB := below_alloc w (.cells #[intV kind] 3)
  haveI t0 : T (w.alloc (.cells #[intV kind] 3)) := T.below hB
  have HCK := Lib.hid (checkT_any L _ P (w.alloc (.cells #[intV kind] 3)) (hv.below hB) ht k hk)
  have HB0 := Lib.hid (And.intro hb hB)
  clear hr hv ht hk hb hB t0
  refine (callsIn_wide (n := 9)).1 ?_
  refine callsIn_of_wp_marks Tryz.func20 rfl trivial ?_ rfl
  simp only [Tryz.ntmps20, List.size_toArray, List.length_cons, List.length_nil, Nat.reduceAdd, Nat.reduceSub, Array.replicate_succ, Array.replicate_zero, List.push_toArray, List.append_toArray, List.nil_append, List.cons_append]
  gi_wp2_with fail
  refine (callsIn_wide.2 HCK.out).mono ?_
  rintro en w1 ⟨rfl, h1⟩
  obtain ⟨hb, hB⟩ := HB0.out
  have hb1 := (h1.block _ (heap_ltT hb)).trans hb
  have hB1 := hB.trans (h1.mono hB.size)
  have c1 := box1T hb1
  have H1 := Lib.hid (And.intro hb1 hB1)
  clear h1 HCK hb hB hb1 hB1
  by_cases hk0 : k = 0
  · have q1 : (k != 0) = false := by simp [hk0]
    have HTT := Lib.hid (show tots L ≤ 4096 from (ck_zero (HK.out.trans hk0)).1)
    have HK0 := Lib.hid (HK.out.trans hk0)
    clear hk0
    by_cases hkn : kind < 1 ∨ 11 < kind
    · have HF := Lib.hid (fun W => formOf_none kind hkn W)
      have HZ := Lib.hid (show d = 0 ∧ e = 8 by
        have h := HR.out
        unfold countR at h
        rw [HK0.out, if_pos rfl, if_pos hkn] at h
        exact ⟨(Prod.mk.inj h).1.symm, (Prod.mk.inj h).2.symm⟩)
      clear hkn
      gi_wp2_with fail
      refine (callsIn_wide.2 (HF.out _)).mono ?_
      rintro en w2 ⟨rfl, h2⟩
      have hB2 := Lib.hid (H1.out.2.trans (h2.mono H1.out.2.size))
      clear h2 c1
      gi_wp2
      exact ⟨.tuple #[intV 0, intV 8], by simp [results, Tryz.f20, go_sem], by rw [HZ.out.1, HZ.out.2], hB2.out.trans ((below_alloc _ _).mono hB2.out.size)⟩
    · have HF := Lib.hid (fun W => formOf_any kind (by omega) (by omega) W)
      have HZ := Lib.hid (show d = (cntL kind L : Nat) ∧ e = 0 by
        have h := HR.out
        unfold countR at h
        rw [HK0.out, if_pos rfl, if_neg hkn] at h
        exact ⟨(Prod.mk.inj h).1.symm, (Prod.mk.inj h).2.symm⟩)
      clear hkn
      obtain ⟨fn, mx, pt, tg, hfm, hfn⟩ : ∃ fn mx pt tg, fmOf kind = .agg #[sV tg, fn, intV mx, .bool pt] ∧ (fn = .nilFunc ∨ ∃ F, fn = .func (.func F) #[] #[]) := ⟨_, _, _, _, rfl, by
        unfold fnK
        split <;> first | exact .inl rfl | exact .inr ⟨_, rfl⟩⟩
      rw [hfm] at HF
      clear hfm
      rcases hfn with rfl | ⟨F, rfl⟩
      · gi_wp2_with fail
        refine (callsIn_wide.2 (HF.out _)).mono ?_
        rintro en w2 ⟨rfl, h2⟩
        have hb2 := (h2.block _ (heap_ltT H1.out.1)).trans H1.out.1
        have hB2 := H1.out.2.trans (h2.mono H1.out.2.size)
        have hlt2 := heap_ltT hb2
        obtain ⟨w5, hw5⟩ : ∃ X, (((w2.alloc (.cells #[sV tg, .nilFunc, intV mx, .bool pt] fmT (0, 0))).alloc (.cells #[.int .i64 0] 3)).alloc (.cells #[.slice a L.length c] lT (0, 0))) = X := ⟨_, rfl⟩
        obtain ⟨s5, k0, k1, k2, kb⟩ := blocks3T w2 _ _ _ hw5
        have hbw : Below w.heap.size w w5 := hB2.trans (kb.mono hB2.size)
        have hbk : w5.heap[w.heap.size]? = some (.cells #[intV kind] 3 (0, 0)) := (kb.block _ hlt2).trans hb2
        have HW5 := Lib.hid hw5
        have HKK := Lib.hid (And.intro s5 (And.intro k1 (And.intro k2 (And.intro hbw (And.intro hbk (And.intro hB2.size hlt2))))))
        clear h2 hb2 hB2 hlt2 hw5 s5 k0 k1 k2 kb hbw hbk c1
        gi_wp2_with (gi_at_call 51; refine (callsIn_wide.2 (nodes_any _ _ _ _)).mono ?_; rintro e w' ⟨rfl, rfl⟩)
        rw [HW5.out]
        obtain ⟨s5, k1, k2, hbw, hbk, hs2, hlt2⟩ := HKK.out
        refine wpIn_range_ret rfl (by omega) (gf := 81) (lb := #[.pointer (some ⟨w2.heap.size + 1 + 1, 0, none⟩)]) rfl trivial Tryz.call81
          (nodes_stops w P L _ HV.out HT.out w5.heap.size none (w2.heap.size + 1 + 1) w5 hbw k2) (fun h k => h.trans k) (fun W l o o' hl ho hc _ => KpN.put (r := none) (by omega) (fun R e => by cases e) W l o o' hl ho hc) (fun _ => rfl)
          (fun pre W => (Boxed W (w2.heap.size + 1) 3 (.int .i64 (cntP kind (pre.map El.pr) : Nat)) ∧ Boxed W w.heap.size 3 (intV kind)) ∧ Below w.heap.size w5 W)
          (fun _ _ => False)
          (OwnFrom.and (OwnFrom.and (Own.from (boxed_own _ _ _) _) (Own.from (boxed_own _ _ _) _)) (ownFrom_below (by omega) (by omega)))
          (fun _ _ _ _ h _ _ => h)
          (fun pre W h => GN.of (by omega) h.2.size) (fun pre W h => h.elim)
          ⟨⟨k1, hbk⟩, Below.refl _ _⟩
          (fun p a' X => ∃ B7 : Nat, w5.heap.size ≤ B7 ∧ X.heap[B7]? = some (.cells #[intV p.x.kd, sV p.x.tx, intV p.x.nm, .slice p.sa p.x.ps.length p.sc] nT (0, 0)) ∧ a' = { tmps := #[Value.slice a L.length c, intV kind, undef, .pointer (some ⟨w.heap.size, 0, none⟩), .int .i64 0, .int .i64 0, .pointer (some ⟨w2.heap.size, 0, none⟩), .bool true, .pointer (some ⟨w2.heap.size + 1, 0, none⟩), undef, .pointer (some ⟨B7, 0, none⟩), Value.slice a L.length c, intV k, .bool false, .tuple #[.agg #[sV tg, .nilFunc, intV mx, .bool pt], .bool true], intV kind, .tuple #[.agg #[sV tg, .nilFunc, intV mx, .bool pt], .bool true], .agg #[sV tg, .nilFunc, intV mx, .bool pt], .bool true, .bool true, .bool false, Value.slice a L.length c, .func (.func 81) #[] #[.pointer (some ⟨w2.heap.size + 1 + 1, 0, none⟩)], intV p.lv, .agg #[intV p.x.kd, sV p.x.tx, intV p.x.nm, .slice p.sa p.x.ps.length p.sc], undef, undef, undef, undef, undef, undef, undef], defers := [] })
          (fun p a' _ X Y row h hg hr => by
            obtain ⟨B7, h1, h2, h3⟩ := h
            exact ⟨B7, h1, cells_grownT hg hr h2, h3⟩)
          ?assign ?body ?done ?stop
        case assign =>
          intro l pre p X K hI hK
          have hX := hI.2.size
          gi_wp2
          exact hK _ _ ((KeepsOthers.alloc X _).from _) (KpN.alloc (GN.of (by omega) hX) _) ⟨⟨hI.1.1.alloc _, hI.1.2.alloc _⟩, hI.2.alloc (by omega) _⟩ ⟨X.heap.size, hX, World.alloc_heap_new _ _, rfl⟩
        case body =>
          intro l pre p a' X hl hI hA hN
          obtain ⟨⟨b1, b2⟩, hB⟩ := hI
          obtain ⟨B7, hB7, hx7, rfl⟩ := hA
          obtain ⟨n0, hn0⟩ : ∃ n0, cntP kind (pre.map El.pr) = n0 := ⟨_, rfl⟩
          have hle := cntP_le kind (pre.map El.pr)
          rw [List.length_map, hn0] at hle
          rw [hn0] at b1
          obtain ⟨p0, p1, p2, p3⟩ := box4T hx7
          have c1 := b1.cell
          have f1 := b1.frozen
          have c2 := b2.cell
          have HI := Lib.hid (And.intro b1 (And.intro b2 hB))
          have HLE := Lib.hid (show cntP kind ((pre ++ [p]).map El.pr) = n0 + (if p.x.kd = kind then 1 else 0) by
            rw [List.map_append, cntP_append, hn0]
            show n0 + (List.filter _ [(p.lv, p.x)]).length = _
            by_cases h : p.x.kd = kind <;> simp [h])
          obtain ⟨n1, hn1⟩ : ∃ n1, n0 + 1 = n1 := ⟨_, rfl⟩
          have w1 : IntKind.i64.wrap ((n0 : Int) + 1) = (n1 : Int) := by
            rw [show (n0 : Int) + 1 = (n1 : Int) by omega]; exact IntWalk.i64_in _ (by omega)
          obtain ⟨qb, hq⟩ : ∃ qb, (p.x.kd == kind) = qb := ⟨_, rfl⟩
          have HN1 := Lib.hid hn1
          clear hx7 b1 b2 hB hn0 hn1
          cases qb
          · have HQ := Lib.hid (show p.x.kd ≠ kind by simpa using hq)
            gi_wp2
            obtain ⟨b1, b2, hB⟩ := HI.out
            refine ⟨KeepsFrom.refl _ _, KpN.refl _ _ _ _, ⟨?_, b2⟩, hB⟩
            show Boxed _ _ _ (.int .i64 ((cntP kind ((pre ++ [p]).map El.pr) : Nat) : Int))
            rw [HLE.out, if_neg HQ.out]
            exact b1
          · have HQ := Lib.hid (show p.x.kd = kind by simpa using hq)
            gi_wp2
            obtain ⟨b1, b2, hB⟩ := HI.out
            refine ⟨(KeepsOthers.setCell _ _ _).from _, KpN.set (by omega) (by omega) (fun R e => by cases e) _, ⟨?_, b2.other (by omega) _⟩, hB.setCell (p := ⟨_, 0, none⟩) (by simp; omega) _⟩
            show Boxed _ _ _ (.int .i64 ((cntP kind ((pre ++ [p]).map El.pr) : Nat) : Int))
            rw [HLE.out, if_pos HQ.out, HN1.out]
            exact b1.set _
        case done =>
          rintro D xs W hD hxs ⟨⟨b1, b2⟩, hB⟩ hK
          have hcn : cntP kind (xs.map El.pr) = cntL kind L := by rw [hxs, take_all HTT.out, (cntP_cnt kind).2]
          rw [hcn] at b1
          have c1 := b1.cell
          have HI := Lib.hid (And.intro b1 hB)
          have HKD := Lib.hid hK
          obtain ⟨rfl, rfl⟩ := HZ.out
          clear b1 b2 hB hxs hK hcn HR
          gi_wp2
          obtain ⟨b1, hB⟩ := HI.out
          refine ⟨by simp, .inl ⟨_, _, rfl, run_takeDeferred HKD.out, ?_⟩⟩
          exact ⟨_, by simp [results, Tryz.f20, go_sem], rfl, fin_belowT (W0 := w5) (hbw.trans hB) (by omega) hD HKD.out⟩
        case stop => exact fun _ _ _ _ _ h _ => h.elim
      · gi_wp2_with fail
        refine (callsIn_wide.2 (HF.out _)).mono ?_
        rintro en w2 ⟨rfl, h2⟩
        have hb2 := (h2.block _ (heap_ltT H1.out.1)).trans H1.out.1
        have hB2 := H1.out.2.trans (h2.mono H1.out.2.size)
        have hlt2 := heap_ltT hb2
        obtain ⟨w5, hw5⟩ : ∃ X, (((w2.alloc (.cells #[sV tg, .func (.func F) #[] #[], intV mx, .bool pt] fmT (0, 0))).alloc (.cells #[.int .i64 0] 3)).alloc (.cells #[.slice a L.length c] lT (0, 0))) = X := ⟨_, rfl⟩
        obtain ⟨s5, k0, k1, k2, kb⟩ := blocks3T w2 _ _ _ hw5
        have hbw : Below w.heap.size w w5 := hB2.trans (kb.mono hB2.size)
        have hbk : w5.heap[w.heap.size]? = some (.cells #[intV kind] 3 (0, 0)) := (kb.block _ hlt2).trans hb2
        have HW5 := Lib.hid hw5
        have HKK := Lib.hid (And.intro s5 (And.intro k1 (And.intro k2 (And.intro hbw (And.intro hbk (And.intro hB2.size hlt2))))))
        clear h2 hb2 hB2 hlt2 hw5 s5 k0 k1 k2 kb hbw hbk c1
        gi_wp2_with (gi_at_call 51; refine (callsIn_wide.2 (nodes_any _ _ _ _)).mono ?_; rintro e w' ⟨rfl, rfl⟩)
        rw [HW5.out]
        obtain ⟨s5, k1, k2, hbw, hbk, hs2, hlt2⟩ := HKK.out
        refine wpIn_range_ret rfl (by omega) (gf := 81) (lb := #[.pointer (some ⟨w2.heap.size + 1 + 1, 0, none⟩)]) rfl trivial Tryz.call81
          (nodes_stops w P L _ HV.out HT.out w5.heap.size none (w2.heap.size + 1 + 1) w5 hbw k2) (fun h k => h.trans k) (fun W l o o' hl ho hc _ => KpN.put (r := none) (by omega) (fun R e => by cases e) W l o o' hl ho hc) (fun _ => rfl)
          (fun pre W => (Boxed W (w2.heap.size + 1) 3 (.int .i64 (cntP kind (pre.map El.pr) : Nat)) ∧ Boxed W w.heap.size 3 (intV kind)) ∧ Below w.heap.size w5 W)
          (fun _ _ => False)
          (OwnFrom.and (OwnFrom.and (Own.from (boxed_own _ _ _) _) (Own.from (boxed_own _ _ _) _)) (ownFrom_below (by omega) (by omega)))
          (fun _ _ _ _ h _ _ => h)
          (fun pre W h => GN.of (by omega) h.2.size) (fun pre W h => h.elim)
          ⟨⟨k1, hbk⟩, Below.refl _ _⟩
          (fun p a' X => ∃ B7 : Nat, w5.heap.size ≤ B7 ∧ X.heap[B7]? = some (.cells #[intV p.x.kd, sV p.x.tx, intV p.x.nm, .slice p.sa p.x.ps.length p.sc] nT (0, 0)) ∧ a' = { tmps := #[Value.slice a L.length c, intV kind, undef, .pointer (some ⟨w.heap.size, 0, none⟩), .int .i64 0, .int .i64 0, .pointer (some ⟨w2.heap.size, 0, none⟩), .bool true, .pointer (some ⟨w2.heap.size + 1, 0, none⟩), undef, .pointer (some ⟨B7, 0, none⟩), Value.slice a L.length c, intV k, .bool false, .tuple #[.agg #[sV tg, .func (.func F) #[] #[], intV mx, .bool pt], .bool true], intV kind, .tuple #[.agg #[sV tg, .func (.func F) #[] #[], intV mx, .bool pt], .bool true], .agg #[sV tg, .func (.func F) #[] #[], intV mx, .bool pt], .bool true, .bool true, .bool false, Value.slice a L.length c, .func (.func 81) #[] #[.pointer (some ⟨w2.heap.size + 1 + 1, 0, none⟩)], intV p.lv, .agg #[intV p.x.kd, sV p.x.tx, intV p.x.nm, .slice p.sa p.x.ps.length p.sc], undef, undef, undef, undef, undef, undef, undef], defers := [] })
          (fun p a' _ X Y row h hg hr => by
            obtain ⟨B7, h1, h2, h3⟩ := h
            exact ⟨B7, h1, cells_grownT hg hr h2, h3⟩)
          ?assign ?body ?done ?stop
        case assign =>
          intro l pre p X K hI hK
          have hX := hI.2.size
          gi_wp2
          exact hK _ _ ((KeepsOthers.alloc X _).from _) (KpN.alloc (GN.of (by omega) hX) _) ⟨⟨hI.1.1.alloc _, hI.1.2.alloc _⟩, hI.2.alloc (by omega) _⟩ ⟨X.heap.size, hX, World.alloc_heap_new _ _, rfl⟩
        case body =>
          intro l pre p a' X hl hI hA hN
          obtain ⟨⟨b1, b2⟩, hB⟩ := hI
          obtain ⟨B7, hB7, hx7, rfl⟩ := hA
          obtain ⟨n0, hn0⟩ : ∃ n0, cntP kind (pre.map El.pr) = n0 := ⟨_, rfl⟩
          have hle := cntP_le kind (pre.map El.pr)
          rw [List.length_map, hn0] at hle
          rw [hn0] at b1
          obtain ⟨p0, p1, p2, p3⟩ := box4T hx7
          have c1 := b1.cell
          have f1 := b1.frozen
          have c2 := b2.cell
          have HI := Lib.hid (And.intro b1 (And.intro b2 hB))
          have HLE := Lib.hid (show cntP kind ((pre ++ [p]).map El.pr) = n0 + (if p.x.kd = kind then 1 else 0) by
            rw [List.map_append, cntP_append, hn0]
            show n0 + (List.filter _ [(p.lv, p.x)]).length = _
            by_cases h : p.x.kd = kind <;> simp [h])
          obtain ⟨n1, hn1⟩ : ∃ n1, n0 + 1 = n1 := ⟨_, rfl⟩
          have w1 : IntKind.i64.wrap ((n0 : Int) + 1) = (n1 : Int) := by
            rw [show (n0 : Int) + 1 = (n1 : Int) by omega]; exact IntWalk.i64_in _ (by omega)
          obtain ⟨qb, hq⟩ : ∃ qb, (p.x.kd == kind) = qb := ⟨_, rfl⟩
          have HN1 := Lib.hid hn1
          clear hx7 b1 b2 hB hn0 hn1
          cases qb
          · have HQ := Lib.hid (show p.x.kd ≠ kind by simpa using hq)
            gi_wp2
            obtain ⟨b1, b2, hB⟩ := HI.out
            refine ⟨KeepsFrom.refl _ _, KpN.refl _ _ _ _, ⟨?_, b2⟩, hB⟩
            show Boxed _ _ _ (.int .i64 ((cntP kind ((pre ++ [p]).map El.pr) : Nat) : Int))
            rw [HLE.out, if_neg HQ.out]
            exact b1
          · have HQ := Lib.hid (show p.x.kd = kind by simpa using hq)
            gi_wp2
            obtain ⟨b1, b2, hB⟩ := HI.out
            refine ⟨(KeepsOthers.setCell _ _ _).from _, KpN.set (by omega) (by omega) (fun R e => by cases e) _, ⟨?_, b2.other (by omega) _⟩, hB.setCell (p := ⟨_, 0, none⟩) (by simp; omega) _⟩
            show Boxed _ _ _ (.int .i64 ((cntP kind ((pre ++ [p]).map El.pr) : Nat) : Int))
            rw [HLE.out, if_pos HQ.out, HN1.out]
            exact b1.set _
        case done =>
          rintro D xs W hD hxs ⟨⟨b1, b2⟩, hB⟩ hK
          have hcn : cntP kind (xs.map El.pr) = cntL kind L := by rw [hxs, take_all HTT.out, (cntP_cnt kind).2]
          rw [hcn] at b1
          have c1 := b1.cell
          have HI := Lib.hid (And.intro b1 hB)
          have HKD := Lib.hid hK
          obtain ⟨rfl, rfl⟩ := HZ.out
          clear b1 b2 hB hxs hK hcn HR
          gi_wp2
          obtain ⟨b1, hB⟩ := HI.out
          refine ⟨by simp, .inl ⟨_, _, rfl, run_takeDeferred HKD.out, ?_⟩⟩
          exact ⟨_, by simp [results, Tryz.f20, go_sem], rfl, fin_belowT (W0 := w5) (hbw.trans hB) (by omega) hD HKD.out⟩
        case stop => exact fun _ _ _ _ _ h _ => h.elim
  · have q1 : (k != 0) = true := by simpa using hk0
    have HZ := Lib.hid (show d = 0 ∧ e = 1 by
      have h := HR.out
      unfold countR at h
      rw [HK.out, if_neg hk0] at h
      exact ⟨(Prod.mk.inj h).1.symm, (Prod.mk.inj h).2.symm⟩)
    clear hk0
    gi_wp2
    exact ⟨.tuple #[intV 0, intV 1], by simp [results, Tryz.f20, go_sem], by rw [HZ.out.1, HZ.out.2], H1.out.2⟩
end Go.Proofs.YtmfcepfagbkceaaGreatDoor
