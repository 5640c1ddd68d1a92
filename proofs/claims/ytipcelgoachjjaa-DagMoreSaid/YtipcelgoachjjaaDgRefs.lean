/- The reference's Check, check and Great. -/
import Derived.Test.YtipcelgoachjjaaDgNode
namespace Go.Proofs.Ytipcelgoachjjaa
set_option linter.unusedSimpArgs false
set_option linter.unusedVariables false
set_option maxRecDepth 100000
open Go.RowKit Go.Deep

theorem errLk_two {n : Int} {x : LkV} (h : x.f < 0 ∨ n ≤ x.f ∨ x.t < 0 ∨ n ≤ x.t ∨ x.c < 0 ∨ 1073741824 < x.c) : errLk n x = 2 := by rw [errLk, if_pos h]
set_option maxHeartbeats 2000000 in
theorem refCheck_any (n : Int) (ls : List LkV) (v : Value) (w : World) (hv : LinksAt w v ls) (hl : ls.length ≤ maxLen) (r : Int) (hr : checkR n ls = r) :
    Calls Try.prog 18 #[intV n, v] w fun e w' => e = .returned (intV r) ∧ Below w.heap.size w w' := by
  unfold maxLen at hl
  have HV := Lib.hid hv
  obtain ⟨a, cap, rfl⟩ := hv.slice
  have HR := Lib.hid hr
  clear hv hr
  by_cases h1 : n < 1
  · go_enter Try.func18, Try.ntmps18
    go_wp2
    go_ret
    exact ⟨ret_int (by rw [← HR.out, checkR, if_pos (by omega)]), Below.refl _ _⟩
  by_cases h2 : 4096 < n
  · go_enter Try.func18, Try.ntmps18
    go_wp2
    go_ret
    exact ⟨ret_int (by rw [← HR.out, checkR, if_pos (by omega)]), Below.refl _ _⟩
  by_cases h3 : 65536 < ls.length
  · go_enter Try.func18, Try.ntmps18
    go_wp2
    go_ret
    exact ⟨ret_int (by rw [← HR.out, checkR, if_neg (by omega), if_pos h3]), Below.refl _ _⟩
  have he : errLs n ls = r := by rw [← HR.out, checkR, if_neg (by omega), if_neg h3]
  have HE := Lib.hid he
  clear HR he
  go_enter Try.func18, Try.ntmps18
  go_wp2
  go_loopw [5] (fun i wr => ∃ k : Nat, k ≤ ls.length ∧ i = .int .i64 k ∧ Below w.heap.size w wr ∧ errLs n (ls.drop k) = r) (fun i _ => ls.length - (intOf i).toNat)
  case atStart => exact ⟨0, Nat.zero_le _, rfl, Below.refl _ _, HE.out⟩
  case round =>
    obtain ⟨k, hk, rfl, hB, he⟩ := hrel
    obtain ⟨wk, rfl⟩ : ∃ x, x = wr := ⟨_, rfl⟩
    by_cases hlt : k < ls.length
    · obtain ⟨b, off, rfl, hbb, q1, q2, q3⟩ := HV.out.elem hlt
      have c1 := (hB.cell (p := ⟨b, off + k * 3, none⟩) hbb).trans q1
      have c2 := (hB.cell (p := ⟨b, off + k * 3 + 1, none⟩) hbb).trans q2
      have c3 := (hB.cell (p := ⟨b, off + k * 3 + 2, none⟩) hbb).trans q3
      rw [drop_lk hlt, errLs] at he
      obtain ⟨x, hx⟩ : ∃ x, lk ls k = x := ⟨_, rfl⟩
      rw [hx] at c1 c2 c3 he
      obtain ⟨f, t, c⟩ := x
      clear q1 q2 q3 hx
      have HE := Lib.hid he
      have HB1 := Lib.hid (hB.alloc hB.size (.cells #[intV f, intV t, intV c] 52))
      clear hB he
      dsimp only at c1 c2 c3
      by_cases f0 : f < 0
      · have hr2 : r = 2 := by rw [← HE.out, errLk_two (by simp only; omega), if_pos (by decide)]
        subst hr2
        go_wp2
        go_ret
        exact ⟨rfl, HB1.out⟩
      by_cases f1 : n ≤ f
      · have hr2 : r = 2 := by rw [← HE.out, errLk_two (by simp only; omega), if_pos (by decide)]
        subst hr2
        go_wp2
        go_ret
        exact ⟨rfl, HB1.out⟩
      by_cases t0 : t < 0
      · have hr2 : r = 2 := by rw [← HE.out, errLk_two (by simp only; omega), if_pos (by decide)]
        subst hr2
        go_wp2
        go_ret
        exact ⟨rfl, HB1.out⟩
      by_cases t1 : n ≤ t
      · have hr2 : r = 2 := by rw [← HE.out, errLk_two (by simp only; omega), if_pos (by decide)]
        subst hr2
        go_wp2
        go_ret
        exact ⟨rfl, HB1.out⟩
      by_cases c0 : c < 0
      · have hr2 : r = 2 := by rw [← HE.out, errLk_two (by simp only; omega), if_pos (by decide)]
        subst hr2
        go_wp2
        go_ret
        exact ⟨rfl, HB1.out⟩
      by_cases d1 : 1073741824 < c
      · have hr2 : r = 2 := by rw [← HE.out, errLk_two (by simp only; omega), if_pos (by decide)]
        subst hr2
        go_wp2
        go_ret
        exact ⟨rfl, HB1.out⟩
      by_cases o1 : t ≤ f
      · have hr2 : r = 10 := by rw [← HE.out, show errLk n ⟨f, t, c⟩ = 10 by rw [errLk, if_neg (by simp only; omega), if_pos o1], if_pos (by decide)]
        subst hr2
        go_wp2
        go_ret
        exact ⟨rfl, HB1.out⟩
      · have he := HE.out
        rw [show errLk n ⟨f, t, c⟩ = 0 by rw [errLk, if_neg (by simp only; omega), if_neg (by simp only; omega)], if_neg (by decide)] at he
        have HE2 := Lib.hid he
        clear he HE
        go_wp2
        go_roundw
        case rel => exact ⟨k + 1, by omega, by go_num, HB1.out, HE2.out⟩
        case measure => simp [intOf]; omega
    · obtain rfl : k = ls.length := by omega
      rw [List.drop_length] at he
      have HE := Lib.hid he
      clear he
      go_wp2
      go_ret
      exact ⟨ret_int HE.out, hB⟩

theorem nodes_two {n : Int} {ls : List LkV} {s t : Int} (h : checkR n ls = 0) : nodesR n ls [s, t] = if inN n s ∧ inN n t then 0 else 2 := by
  rw [nodesR, h, if_neg (by decide)]
  simp only [List.mem_cons, List.not_mem_nil, or_false, forall_eq_or_imp, forall_eq]
set_option maxHeartbeats 1000000 in
theorem refNodes_any (n : Int) (ls : List LkV) (s t : Int) (v : Value) (w : World) (hv : LinksAt w v ls) (hl : ls.length ≤ maxLen) (r : Int) (hr : nodesR n ls [s, t] = r) :
    Calls Try.prog 43 #[intV n, v, intV s, intV t] w fun e w' => e = .returned (intV r) ∧ Below w.heap.size w w' := by
  obtain ⟨q, hq⟩ : ∃ q, checkR n ls = q := ⟨_, rfl⟩
  have HC := Lib.hid (refCheck_any n ls v w hv hl q hq)
  obtain ⟨a, cap, rfl⟩ := hv.slice
  by_cases h : q = 0
  · subst h
    rw [nodes_two hq] at hr
    unfold inN at hr
    have HR := Lib.hid hr
    clear hv hq hr
    by_cases s0 : s < 0
    · go_enter Try.func43, Try.ntmps43
      go_wp2_with fail
      refine HC.out.mono ?_
      rintro e w1 ⟨rfl, hB⟩
      have HB := Lib.hid hB
      clear hB
      go_wp2
      go_ret
      exact ⟨ret_int (by rw [← HR.out, if_neg (by omega)]), HB.out⟩
    by_cases s1 : n ≤ s
    · go_enter Try.func43, Try.ntmps43
      go_wp2_with fail
      refine HC.out.mono ?_
      rintro e w1 ⟨rfl, hB⟩
      have HB := Lib.hid hB
      clear hB
      go_wp2
      go_ret
      exact ⟨ret_int (by rw [← HR.out, if_neg (by omega)]), HB.out⟩
    by_cases t0 : t < 0
    · go_enter Try.func43, Try.ntmps43
      go_wp2_with fail
      refine HC.out.mono ?_
      rintro e w1 ⟨rfl, hB⟩
      have HB := Lib.hid hB
      clear hB
      go_wp2
      go_ret
      exact ⟨ret_int (by rw [← HR.out, if_neg (by omega)]), HB.out⟩
    by_cases t1 : n ≤ t
    · go_enter Try.func43, Try.ntmps43
      go_wp2_with fail
      refine HC.out.mono ?_
      rintro e w1 ⟨rfl, hB⟩
      have HB := Lib.hid hB
      clear hB
      go_wp2
      go_ret
      exact ⟨ret_int (by rw [← HR.out, if_neg (by omega)]), HB.out⟩
    · go_enter Try.func43, Try.ntmps43
      go_wp2_with fail
      refine HC.out.mono ?_
      rintro e w1 ⟨rfl, hB⟩
      have HB := Lib.hid hB
      clear hB
      go_wp2
      go_ret
      exact ⟨ret_int (by rw [← HR.out, if_pos (by omega)]), HB.out⟩
  · rw [nodesR, hq, if_pos h] at hr
    subst hr
    clear hv hq
    have hb : (q != 0) = true := by rw [bne_iff_ne]; exact h
    go_enter Try.func43, Try.ntmps43
    go_wp2_with fail
    refine HC.out.mono ?_
    rintro e w1 ⟨rfl, hB⟩
    have HB := Lib.hid hB
    clear hB
    go_wp2
    go_ret
    exact ⟨rfl, HB.out⟩

/-- what is too large for the statements -/
def greatR (n : Int) (ls : List LkV) : Bool := decide (14 < ls.length ∨ (8 < n ∧ n ≤ 4096))
set_option maxHeartbeats 400000 in
theorem great_any (n : Int) (ls : List LkV) (v : Value) (w : World) (hv : LinksAt w v ls) (r : Bool) (hr : greatR n ls = r) :
    Calls Try.prog 11 #[intV n, v] w fun e w' => e = .returned (.bool r) ∧ w = w' := by
  obtain ⟨a, cap, rfl⟩ := hv.slice
  rw [greatR] at hr
  have HR := Lib.hid hr
  clear hv hr
  by_cases h1 : 14 < ls.length
  · go_enter Try.func11, Try.ntmps11
    go_wp2
    go_ret
    exact ⟨ret_bool (by rw [← HR.out, eq_comm, decide_eq_true_eq]; omega), rfl⟩
  by_cases h2 : 8 < n
  · go_enter Try.func11, Try.ntmps11
    go_wp2
    go_ret
    exact ⟨ret_bool (by rw [← HR.out, Bool.eq_iff_iff]; simp; omega), rfl⟩
  · go_enter Try.func11, Try.ntmps11
    go_wp2
    go_ret
    exact ⟨ret_bool (by rw [← HR.out, Bool.eq_iff_iff]; simp; omega), rfl⟩
end Go.Proofs.Ytipcelgoachjjaa
