/- Of, Union, Intersect, Minus, Complement, Within of layer 4's own code. -/
import Derived.Test.YtdplcpnahahkaaaIsList
namespace Go.Proofs.Ytdplcpnahahkaaa
set_option linter.unusedSimpArgs false
set_option linter.unusedVariables false
set_option maxRecDepth 100000
open Go.RowKit Go.Shelf

theorem quiet_id {P : Program} {f : FuncId} {args : Array Value} {w : World} {n : Nat} {v : Value}
    (h : Calls P f args (w.drewN n) fun e w' => e = .returned v ∧ w.drewN n = w') : Calls P f args (w.drewN n) fun e w'' => e = .returned v ∧ ∃ m, w'' = w.drewN m :=
  h.mono fun _ _ ⟨he, hm⟩ => ⟨he, n, hm.symm⟩
set_option maxHeartbeats 400000 in
theorem or_any (a b : Bool) (w : World) : Calls Try.prog 54 #[.bool a, .bool b] w fun e w' => e = .returned (.bool (orB a b)) ∧ w = w' := by
  cases a
  all_goals
    go_enter Try.func54, Try.ntmps54
    go_wp2
    go_ret
    exact ⟨ret_bool (by simp [orB]), rfl⟩
set_option maxHeartbeats 400000 in
theorem and_any (a b : Bool) (w : World) : Calls Try.prog 56 #[.bool a, .bool b] w fun e w' => e = .returned (.bool (andB a b)) ∧ w = w' := by
  cases a
  all_goals
    go_enter Try.func56, Try.ntmps56
    go_wp2
    go_ret
    exact ⟨ret_bool (by simp [andB]), rfl⟩
set_option maxHeartbeats 400000 in
theorem min_any (a b : Bool) (w : World) : Calls Try.prog 57 #[.bool a, .bool b] w fun e w' => e = .returned (.bool (minB a b)) ∧ w = w' := by
  cases a
  all_goals
    go_enter Try.func57, Try.ntmps57
    go_wp2
    go_ret
    exact ⟨ret_bool (by simp [minB]), rfl⟩

set_option maxHeartbeats 2000000 in
theorem combine1_any (f : Bool → Bool → Bool) (fs : Nat) (hce : ∀ args W, Sem.run Try.prog (callFunc fs args) W = .ok (.enter fs args) W) (hf : ∀ a b w, Calls Try.prog fs #[.bool a, .bool b] w fun e w' => e = .returned (.bool (f a b)) ∧ w = w')
    (b1 b2 b3 : Nat) (m1 m2 : Nat) (h1 : m1 < 18446744073709551616) (h2 : m2 < 18446744073709551616) (i : Nat) (hi : i < 64) (w : World)
    (c1 : w.cell? ⟨b1, 0, none⟩ = some (.func (.func fs) #[] #[])) (c2 : w.cell? ⟨b2, 0, none⟩ = some (u64V m1)) (c3 : w.cell? ⟨b3, 0, none⟩ = some (u64V m2)) :
    Calls Try.prog 68 #[intV i, .pointer (some ⟨b1, 0, none⟩), .pointer (some ⟨b2, 0, none⟩), .pointer (some ⟨b3, 0, none⟩)] w fun e w' => e = .returned (.bool (f (m1.testBit i) (m2.testBit i))) ∧ ∃ m, w' = w.drewN m := by
  have HF := Lib.hid hf
  clear hf
  go_enter Try.func68, Try.ntmps68
  go_wp2_with fail
  go_quiet (first
    | (go_at_call 45; first | with_reducible exact quiet_id (has_any m1 h1 i hi _) | with_reducible exact quiet_id (has_any m2 h2 i hi _))
    | exact quiet_id (HF.out _ _ _))
  go_wp2
  go_ret
  exact ⟨rfl, _, rfl⟩

theorem cell_new1 (w : World) (a : Value) (t : TypeId) : (w.alloc (.cells #[a] t)).cell? ⟨w.heap.size, 0, none⟩ = some a := by rw [World.cell?_alloc_new]; rfl
theorem cell_old1 {w : World} {b : Nat} {v : Value} (h : w.cell? ⟨b, 0, none⟩ = some v) (hb : b < w.heap.size) (a : Value) (t : TypeId) : (w.alloc (.cells #[a] t)).cell? ⟨b, 0, none⟩ = some v := by rw [World.cell?_alloc_lt _ _ _ hb]; exact h
theorem three_cells (w : World) (a b c : Value) (t1 t2 t3 : TypeId) : ∃ W, ((w.alloc (.cells #[a] t1)).alloc (.cells #[b] t2)).alloc (.cells #[c] t3) = W ∧ W.cell? ⟨w.heap.size, 0, none⟩ = some a ∧ W.cell? ⟨w.heap.size + 1, 0, none⟩ = some b ∧ W.cell? ⟨w.heap.size + 1 + 1, 0, none⟩ = some c ∧ W.heap.size = w.heap.size + 3 ∧ Below w.heap.size w W := by
  refine ⟨_, rfl, ?_, ?_, ?_, by simp, (((Below.refl _ _).alloc (Nat.le_refl _) _).alloc (by simp) _).alloc (by simp; omega) _⟩
  · exact cell_old1 (cell_old1 (cell_new1 w a t1) (by simp) b t2) (by simp; omega) c t3
  · have h := cell_new1 (w.alloc (.cells #[a] t1)) b t2
    rw [World.size_alloc] at h
    exact cell_old1 h (by simp) c t3
  · have h := cell_new1 ((w.alloc (.cells #[a] t1)).alloc (.cells #[b] t2)) c t3
    rw [World.size_alloc, World.size_alloc] at h
    exact h
theorem testBit_congr (f : Bool → Bool → Bool) (a b : List Int) (ha : InR a) (hb : InR b) : sel 64 (fun i => f ((mask a).testBit i) ((mask b).testBit i)) = sel 64 fun i => f (has a i) (has b i) :=
  sel_congr fun i _ => by rw [mask_bit ha, mask_bit hb]
set_option maxHeartbeats 2000000 in
theorem combine_any (f : Bool → Bool → Bool) (fs : Nat) (hce : ∀ args W, Sem.run Try.prog (callFunc fs args) W = .ok (.enter fs args) W) (hf : ∀ a b w, Calls Try.prog fs #[.bool a, .bool b] w fun e w' => e = .returned (.bool (f a b)) ∧ w = w')
    (xs ys : List Int) (r : List Int × Int) (hr : opR f xs ys = r) (vx vy : Value) (w : World) (hx : IntsAt w vx xs) (hy : IntsAt w vy ys) (lx : xs.length ≤ 1000000) (ly : ys.length ≤ 1000000) :
    Calls Try.prog 53 #[vx, vy, .func (.func fs) #[] #[]] w (ListPost r w) := by
  have HX := Lib.hid hx
  have HY := Lib.hid hy
  have HR := Lib.hid hr
  have HF := Lib.hid hf
  obtain ⟨ax, cx, rfl, _⟩ := hx
  obtain ⟨ay, cy, rfl, _⟩ := hy
  clear hr hf
  have hB : Below w.heap.size w (w.alloc (.cells #[.func (.func fs) #[] #[]] 58)) := (Below.refl _ _).alloc (Nat.le_refl _) _
  by_cases e1 : errL xs = 0
  · have I1 := Lib.hid (fun w' h => isSet_any xs true (by simpa using e1) _ w' (HX.out.below h) lx)
    by_cases e2 : errL ys = 0
    · have I2 := Lib.hid (fun w' h => isSet_any ys true (by simpa using e2) _ w' (HY.out.below h) ly)
      have R1 := ((err_iff _).1 e1).2
      have R2 := ((err_iff _).1 e2).2
      have M1 := Lib.hid (fun w' h => mark_any xs R1 _ w' (HX.out.below h) lx)
      have M2 := Lib.hid (fun w' h => mark_any ys R2 _ w' (HY.out.below h) ly)
      have HRR := Lib.hid (show r = (sel 64 fun i => f ((mask xs).testBit i) ((mask ys).testBit i), 0) by rw [← HR.out, opR, if_neg (by simp [e1, e2]), testBit_congr f xs ys R1 R2])
      have m1 := mask_lt R1
      have m2 := mask_lt R2
      obtain ⟨n1, hn1⟩ : ∃ n, mask xs = n := ⟨_, rfl⟩
      obtain ⟨n2, hn2⟩ : ∃ n, mask ys = n := ⟨_, rfl⟩
      rw [hn1] at M1 HRR m1
      rw [hn2] at M2 HRR m2
      have HB := Lib.hid hB
      clear hn1 hn2 R1 R2 HX HY HR e1 e2 hB
      obtain ⟨k1, hk1⟩ : ∃ k, xs.length = k := ⟨_, rfl⟩
      obtain ⟨k2, hk2⟩ : ∃ k, ys.length = k := ⟨_, rfl⟩
      rw [hk1] at I1 M1 ⊢
      rw [hk2] at I2 M2 ⊢
      clear lx ly hk1 hk2
      go_enter Try.func53, Try.ntmps53
      go_wp2_with fail
      refine (I1.out _ HB.out).mono ?_
      rintro e w1 ⟨rfl, rfl⟩
      go_wp2_with fail
      refine (I2.out _ HB.out).mono ?_
      rintro e w1 ⟨rfl, rfl⟩
      go_wp2_with fail
      refine (M1.out _ HB.out).mono ?_
      rintro e w1 ⟨rfl, rfl⟩
      go_wp2_with fail
      refine (M2.out _ HB.out).mono ?_
      rintro e w1 ⟨rfl, rfl⟩
      clear I1 I2 M1 M2
      go_wp2_with fail
      obtain ⟨w1, hw1, c1, c2, c3, hs1, hB1⟩ := three_cells w (.func (.func fs) #[] #[]) (u64V n1) (u64V n2) 58 53 53
      rw [hw1]
      clear hw1 HB
      have HP : Picks w1 68 #[] #[.pointer (some ⟨w.heap.size, 0, none⟩), .pointer (some ⟨w.heap.size + 1, 0, none⟩), .pointer (some ⟨w.heap.size + 1 + 1, 0, none⟩)] 64 (fun i => f (n1.testBit i) (n2.testBit i)) :=
        fun W' hW i hi => combine1_any f fs hce HF.out _ _ _ n1 n2 m1 m2 i hi W' ((hW.cell (p := ⟨w.heap.size, 0, none⟩) (by show w.heap.size < _; omega)).trans c1) ((hW.cell (p := ⟨w.heap.size + 1, 0, none⟩) (by show w.heap.size + 1 < _; omega)).trans c2) ((hW.cell (p := ⟨w.heap.size + 1 + 1, 0, none⟩) (by show w.heap.size + 1 + 1 < _; omega)).trans c3)
      refine (listOf_any 64 (Nat.le_refl _) _ _ _ _ Try.call68 w1 HP).mono ?_
      rintro e w2 ⟨v, rfl, h1, h2⟩
      have H1 := Lib.hid h1
      have H2 := Lib.hid (below_then hB1 h2)
      obtain ⟨a, cap, rfl, _⟩ := id h1
      clear HP c1 c2 c3 h1 h2
      go_wp2
      go_ret2
      exact ListPost.good HRR.out H1.out H2.out
    · have I2 := Lib.hid (fun w' h => isSet_any ys false (by simpa using e2) _ w' (HY.out.below h) ly)
      have HRR := Lib.hid (show r = ([], 1) by rw [← HR.out, opR, if_pos (by simp [e2])])
      have HB := Lib.hid hB
      clear e1 e2 hB HX HY HR
      go_enter Try.func53, Try.ntmps53
      go_wp2_with fail
      refine (I1.out _ HB.out).mono ?_
      rintro e w1 ⟨rfl, rfl⟩
      go_wp2_with fail
      refine (I2.out _ HB.out).mono ?_
      rintro e w1 ⟨rfl, rfl⟩
      clear I1 I2
      go_wp2
      go_ret2
      exact ListPost.bad HRR.out HB.out
  · have I1 := Lib.hid (fun w' h => isSet_any xs false (by simpa using e1) _ w' (HX.out.below h) lx)
    have HRR := Lib.hid (show r = ([], 1) by rw [← HR.out, opR, if_pos (by simp [e1])])
    have HB := Lib.hid hB
    clear e1 hB HX HY HR
    go_enter Try.func53, Try.ntmps53
    go_wp2_with fail
    refine (I1.out _ HB.out).mono ?_
    rintro e w1 ⟨rfl, rfl⟩
    clear I1
    go_wp2
    go_ret2
    exact ListPost.bad HRR.out HB.out

set_option maxHeartbeats 1000000 in
theorem union_any (xs ys : List Int) (r : List Int × Int) (hr : opR orB xs ys = r) (vx vy : Value) (w : World) (hx : IntsAt w vx xs) (hy : IntsAt w vy ys) (lx : xs.length ≤ 1000000) (ly : ys.length ≤ 1000000) :
    Calls Try.prog 23 #[vx, vy] w (ListPost r w) := by
  have HC := Lib.hid (combine_any orB 54 Try.call54 or_any xs ys r hr vx vy w hx hy lx ly)
  obtain ⟨ax, cx, rfl, _⟩ := hx
  obtain ⟨ay, cy, rfl, _⟩ := hy
  clear hr
  go_enter Try.func23, Try.ntmps23
  go_wp2_with fail
  refine HC.out.mono ?_
  rintro e w1 ⟨v, rfl, h1, h2⟩
  have H1 := Lib.hid h1
  have H2 := Lib.hid h2
  obtain ⟨a, cap, rfl, _⟩ := id h1
  clear h1 h2 HC
  go_wp2
  go_ret2
  exact ⟨_, rfl, H1.out, H2.out⟩

set_option maxHeartbeats 1000000 in
theorem intersect_any (xs ys : List Int) (r : List Int × Int) (hr : opR andB xs ys = r) (vx vy : Value) (w : World) (hx : IntsAt w vx xs) (hy : IntsAt w vy ys) (lx : xs.length ≤ 1000000) (ly : ys.length ≤ 1000000) :
    Calls Try.prog 25 #[vx, vy] w (ListPost r w) := by
  have HC := Lib.hid (combine_any andB 56 Try.call56 and_any xs ys r hr vx vy w hx hy lx ly)
  obtain ⟨ax, cx, rfl, _⟩ := hx
  obtain ⟨ay, cy, rfl, _⟩ := hy
  clear hr
  go_enter Try.func25, Try.ntmps25
  go_wp2_with fail
  refine HC.out.mono ?_
  rintro e w1 ⟨v, rfl, h1, h2⟩
  have H1 := Lib.hid h1
  have H2 := Lib.hid h2
  obtain ⟨a, cap, rfl, _⟩ := id h1
  clear h1 h2 HC
  go_wp2
  go_ret2
  exact ⟨_, rfl, H1.out, H2.out⟩

set_option maxHeartbeats 1000000 in
theorem minus_any (xs ys : List Int) (r : List Int × Int) (hr : opR minB xs ys = r) (vx vy : Value) (w : World) (hx : IntsAt w vx xs) (hy : IntsAt w vy ys) (lx : xs.length ≤ 1000000) (ly : ys.length ≤ 1000000) :
    Calls Try.prog 27 #[vx, vy] w (ListPost r w) := by
  have HC := Lib.hid (combine_any minB 57 Try.call57 min_any xs ys r hr vx vy w hx hy lx ly)
  obtain ⟨ax, cx, rfl, _⟩ := hx
  obtain ⟨ay, cy, rfl, _⟩ := hy
  clear hr
  go_enter Try.func27, Try.ntmps27
  go_wp2_with fail
  refine HC.out.mono ?_
  rintro e w1 ⟨v, rfl, h1, h2⟩
  have H1 := Lib.hid h1
  have H2 := Lib.hid h2
  obtain ⟨a, cap, rfl, _⟩ := id h1
  clear h1 h2 HC
  go_wp2
  go_ret2
  exact ⟨_, rfl, H1.out, H2.out⟩

theorem minus_empty (a b : List Int) (ha : errL a = 0) : (sel 64 fun i => minB (has a i) (has b i)) = [] ↔ ∀ x ∈ a, x ∈ b := by
  rw [List.eq_nil_iff_forall_not_mem]
  constructor
  · intro h x hx
    have hr := ((err_iff a).1 ha).2 x hx
    have := h x
    rw [mem_sel] at this
    refine Classical.byContradiction fun hn => this ⟨x.toNat, by omega, ?_, by omega⟩
    have e : ((x.toNat : Nat) : Int) = x := by omega
    simp [minB, has, e, hx, hn]
  · intro h x hx
    obtain ⟨i, _, hi, rfl⟩ := mem_sel.1 hx
    simp only [minB, has, Bool.and_eq_true, decide_eq_true_eq, Bool.not_eq_true', decide_eq_false_iff_not] at hi
    exact hi.2 (h _ hi.1)
theorem within_len (a b : List Int) : withinR a b = (decide ((opR minB a b).2 = 0 ∧ (opR minB a b).1.length = 0), (opR minB a b).2) := by
  rw [withinR, opR]
  by_cases h : errL a ≠ 0 ∨ errL b ≠ 0
  · rw [if_pos h, if_pos h]; rfl
  · have ha : errL a = 0 := by omega
    rw [if_neg h, if_neg h]
    refine congrArg (fun q => (q, (0 : Int))) ?_
    apply decide_eq_decide.2
    rw [List.length_eq_zero_iff, minus_empty a b ha]
    simp
set_option maxHeartbeats 1000000 in
theorem within_any (xs ys : List Int) (r : Bool × Int) (hr : withinR xs ys = r) (vx vy : Value) (w : World) (hx : IntsAt w vx xs) (hy : IntsAt w vy ys) (lx : xs.length ≤ 1000000) (ly : ys.length ≤ 1000000) :
    Calls Try.prog 29 #[vx, vy] w fun e w' => e = .returned (.tuple #[.bool r.1, intV r.2]) ∧ Below w.heap.size w w' := by
  obtain ⟨q, hq⟩ : ∃ q, opR minB xs ys = q := ⟨_, rfl⟩
  have HC := Lib.hid (minus_any xs ys q hq vx vy w hx hy lx ly)
  rw [within_len, hq] at hr
  have HR := Lib.hid hr
  obtain ⟨ax, cx, rfl, _⟩ := hx
  obtain ⟨ay, cy, rfl, _⟩ := hy
  obtain ⟨l, k⟩ := q
  clear hr hq
  go_enter Try.func29, Try.ntmps29
  go_wp2_with fail
  refine HC.out.mono ?_
  rintro e w1 ⟨v, rfl, h1, h2⟩
  have H1 := Lib.hid h1
  have H2 := Lib.hid h2
  obtain ⟨a, cap, rfl, _⟩ := id h1
  clear h1 h2 HC
  obtain ⟨n, hn⟩ : ∃ n, l.length = n := ⟨_, rfl⟩
  dsimp only at HR H1
  rw [hn] at HR
  dsimp only
  rw [hn]
  clear hn
  by_cases hk : k = 0
  · subst hk
    go_wp2
    go_ret2
    refine ⟨?_, H2.out⟩
    rw [← HR.out]
    exact ret_bi (by rw [Bool.eq_iff_iff]; simp) rfl
  · go_wp2
    go_ret2
    refine ⟨?_, H2.out⟩
    rw [← HR.out]
    exact ret_bi (by rw [Bool.eq_iff_iff]; simp [hk]) rfl
end Go.Proofs.Ytdplcpnahahkaaa
