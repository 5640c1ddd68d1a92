/- The references' small functions: Same, SameLists, Great, GreatLists. -/
import Derived.Test.YteceahbnafaeoaaSqLib
namespace Go.Proofs.Yteceahbnafaeoaa
set_option linter.unusedSimpArgs false
set_option linter.unusedVariables false
set_option maxRecDepth 100000
open Go.RowKit Go.Deep

set_option maxHeartbeats 1000000 in
theorem same_any (xs ys : List Int) (r : Bool) (hr : decide (xs = ys) = r) (vx vy : Value) (w : World) (hx : IntsAt w vx xs) (hy : IntsAt w vy ys) (lx : xs.length ≤ 1000000) (ly : ys.length ≤ 1000000) :
    Calls Try.prog 54 #[vx, vy] w fun e w' => e = .returned (.bool r) ∧ ∃ m, w' = w.drewN m := by
  obtain ⟨ax, cx, rfl, hcx⟩ := hx
  obtain ⟨ay, cy, rfl, hcy⟩ := hy
  have HX := Lib.hid hcx
  have HY := Lib.hid hcy
  have HR := Lib.hid hr
  clear hcx hcy hr
  by_cases hlen : xs.length = ys.length
  · have hli : ((xs.length : Int) != (ys.length : Int)) = false := by rw [hlen]; simp
    have HLEN := Lib.hid hlen
    clear hlen
    go_enter Try.func54, Try.ntmps54
    go_wp2
    clear hli
    go_loopw [5] (fun i wr => ∃ k m : Nat, k ≤ xs.length ∧ i = .int .i64 k ∧ wr = w.drewN m ∧ xs.take k = ys.take k) (fun i _ => xs.length - (intOf i).toNat)
    case atStart => exact ⟨0, 0, Nat.zero_le _, rfl, rfl, by simp⟩
    case round =>
      obtain ⟨k, m, hk, rfl, hwr, ht⟩ := hrel
      have HW := Lib.hid hwr
      obtain ⟨wk, rfl⟩ : ∃ x, x = wr := ⟨_, rfl⟩
      have HT := Lib.hid ht
      clear ht
      by_cases hlt : k < xs.length
      · obtain ⟨b, off, rfl, hbb, hcs⟩ := HX.out (by omega)
        obtain ⟨b', off', rfl, hbb', hcs'⟩ := HY.out (by have := HLEN.out; omega)
        have hlt2 : k < ys.length := by have := HLEN.out; omega
        have hcell : wk.cell? ⟨b, off + k, none⟩ = some (.int .i64 xs[k]) := by rw [hwr]; exact hcs k hlt
        have hcell' : wk.cell? ⟨b', off' + k, none⟩ = some (.int .i64 (ys[k])) := by rw [hwr]; exact hcs' k hlt2
        have HT1 := Lib.hid (take_succ_int xs k hlt)
        have HT2 := Lib.hid (take_succ_int ys k hlt2)
        have HG := Lib.hid (show xs = ys → xs[k] = ys[k] from fun e => by subst e; rfl)
        clear hcs hcs' hwr
        obtain ⟨x, hx⟩ : ∃ x, xs[k] = x := ⟨_, rfl⟩
        obtain ⟨y, hy⟩ : ∃ y, ys[k] = y := ⟨_, rfl⟩
        rw [hx] at hcell HT1 HG
        rw [hy] at hcell' HT2 HG
        clear hx hy
        have hki : (k : Int) < (xs.length : Int) := by omega
        have hkj : (k : Int) < (ys.length : Int) := by omega
        by_cases h : x = y
        · subst h
          go_wp2_with fail
          go_quiet (fail)
          go_wp2
          go_roundw
          case rel => exact ⟨k + 1, _, by omega, by go_num, by rw [HW.out, World.drewN_drewN], by rw [HT1.out, HT2.out, HT.out]⟩
          case measure => simp [intOf]; omega
        · have h' : (x != y) = true := by rw [bne_iff_ne]; exact h
          go_wp2_with fail
          go_quiet (fail)
          go_wp2
          go_ret
          exact ⟨ret_bool (by rw [← HR.out, eq_comm, decide_eq_false_iff_not]; exact fun e => h (HG.out e)), _, by rw [HW.out, World.drewN_drewN]⟩
      · obtain rfl : k = xs.length := by omega
        go_wp2
        go_ret
        refine ⟨ret_bool ?_, _, rfl⟩
        have := HT.out
        rw [List.take_length, HLEN.out, List.take_length] at this
        rw [← HR.out, eq_comm, decide_eq_true_eq]; exact this
  · have hli : ((xs.length : Int) != (ys.length : Int)) = true := by rw [bne_iff_ne]; omega
    go_enter Try.func54, Try.ntmps54
    go_wp2
    go_ret
    exact ⟨ret_bool (by rw [← HR.out, eq_comm, decide_eq_false_iff_not]; intro e; rw [e] at hlen; exact hlen rfl), 0, rfl⟩

theorem take_succ_list (xs : List (List Int)) (k : Nat) (h : k < xs.length) : xs.take (k + 1) = xs.take k ++ [xs[k]] := List.take_succ_eq_append_getElem h
set_option maxHeartbeats 1000000 in
theorem sameL_any (X Y : List (List Int)) (r : Bool) (hr : decide (X = Y) = r) (vx vy : Value) (w : World) (hx : ListsAt w vx X) (hy : ListsAt w vy Y) (lx : X.length ≤ 1000000) (ly : Y.length ≤ 1000000) (mx : ∀ l ∈ X, l.length ≤ 1000000) (my : ∀ l ∈ Y, l.length ≤ 1000000) :
    Calls Try.prog 24 #[vx, vy] w fun e w' => e = .returned (.bool r) ∧ ∃ m, w' = w.drewN m := by
  have HX := Lib.hid hx
  have HY := Lib.hid hy
  obtain ⟨ax, cx, rfl, _⟩ := hx
  obtain ⟨ay, cy, rfl, _⟩ := hy
  have HR := Lib.hid hr
  have HMX := Lib.hid mx
  have HMY := Lib.hid my
  clear hr mx my
  by_cases hlen : X.length = Y.length
  · have hli : ((X.length : Int) != (Y.length : Int)) = false := by rw [hlen]; simp
    have HLEN := Lib.hid hlen
    clear hlen
    go_enter Try.func24, Try.ntmps24
    go_wp2
    clear hli
    go_loopw [5] (fun i wr => ∃ k m : Nat, k ≤ X.length ∧ i = .int .i64 k ∧ wr = w.drewN m ∧ X.take k = Y.take k) (fun i _ => X.length - (intOf i).toNat)
    case atStart => exact ⟨0, 0, Nat.zero_le _, rfl, rfl, by simp⟩
    case round =>
      obtain ⟨k, m, hk, rfl, hwr, ht⟩ := hrel
      have HW := Lib.hid hwr
      obtain ⟨wk, rfl⟩ : ∃ x, x = wr := ⟨_, rfl⟩
      have HT := Lib.hid ht
      clear ht
      by_cases hlt : k < X.length
      · have hlt2 : k < Y.length := by have := HLEN.out; omega
        have hB : Below w.heap.size w wk := by rw [hwr]; exact below_drewN _ _
        obtain ⟨b, off, u, c, rfl, hb, hcell, hx⟩ := (HX.out.below hB).elem hlt
        obtain ⟨b', off', u', c', rfl, hb', hcell', hy⟩ := (HY.out.below hB).elem hlt2
        have HT1 := Lib.hid (take_succ_list X k hlt)
        have HT2 := Lib.hid (take_succ_list Y k hlt2)
        have HG := Lib.hid (show X = Y → X[k] = Y[k] from fun e => by subst e; rfl)
        have l1 := HMX.out X[k] (List.getElem_mem hlt)
        have l2 := HMY.out Y[k] (List.getElem_mem hlt2)
        obtain ⟨x, hxx⟩ : ∃ x, X[k] = x := ⟨_, rfl⟩
        obtain ⟨y, hyy⟩ : ∃ y, Y[k] = y := ⟨_, rfl⟩
        rw [hxx] at hcell hx HT1 HG l1
        rw [hyy] at hcell' hy HT2 HG l2
        clear hxx hyy hwr hB
        have hki : (k : Int) < (X.length : Int) := by omega
        have hkj : (k : Int) < (Y.length : Int) := by omega
        by_cases h : x = y
        · subst h
          have S := Lib.hid (fun (q : Nat) => same_any x x true (by simp) _ _ (wk.drewN q) (hx.below (below_drewN _ _)) (hy.below (below_drewN _ _)) l1 l1)
          clear hx hy l1 l2
          go_wp2_with fail
          go_region_held3 (fun w' => w'.cell? ⟨b, off + k, none⟩ = some (.slice u x.length c) ∧ w'.cell? ⟨b', off' + k, none⟩ = some (.slice u' x.length c'))
            (first | exact ⟨hcell, hcell'⟩ | exact ⟨by rw [HQ.out]; exact hcell, by rw [HQ.out]; exact hcell'⟩ | assumption)
            (first | ((try go_simp); go_at_call 54; refine (S.out 1).mono ?_; rintro e w5 ⟨rfl, q, hq⟩; have HQ := Lib.hid (show w5 = wk.drewN (1 + q) by rw [hq, World.drewN_drewN]); clear hq) | (trace_state; sorry))
          all_goals
            go_wp2
            go_roundw
            case rel => exact ⟨k + 1, _, by omega, by go_num, by rw [HQ.out, HW.out, World.drewN_drewN], by rw [HT1.out, HT2.out, HT.out]⟩
            case measure => simp [intOf]; omega
        · have S := Lib.hid (fun (q : Nat) => same_any x y false (by simpa using h) _ _ (wk.drewN q) (hx.below (below_drewN _ _)) (hy.below (below_drewN _ _)) l1 l2)
          clear hx hy l1 l2
          go_wp2_with fail
          go_region_held3 (fun w' => w'.cell? ⟨b, off + k, none⟩ = some (.slice u x.length c) ∧ w'.cell? ⟨b', off' + k, none⟩ = some (.slice u' y.length c'))
            (first | exact ⟨hcell, hcell'⟩ | exact ⟨by rw [HQ.out]; exact hcell, by rw [HQ.out]; exact hcell'⟩ | assumption)
            (first | ((try go_simp); go_at_call 54; refine (S.out 1).mono ?_; rintro e w5 ⟨rfl, q, hq⟩; have HQ := Lib.hid (show w5 = wk.drewN (1 + q) by rw [hq, World.drewN_drewN]); clear hq) | (trace_state; sorry))
          all_goals
            go_wp2
            go_ret
            exact ⟨ret_bool (by rw [← HR.out, eq_comm, decide_eq_false_iff_not]; exact fun e => h (HG.out e)), _, by rw [HQ.out, HW.out, World.drewN_drewN]⟩
      · obtain rfl : k = X.length := by omega
        go_wp2
        go_ret
        refine ⟨ret_bool ?_, _, rfl⟩
        have := HT.out
        rw [List.take_length, HLEN.out, List.take_length] at this
        rw [← HR.out, eq_comm, decide_eq_true_eq]; exact this
  · have hli : ((X.length : Int) != (Y.length : Int)) = true := by rw [bne_iff_ne]; omega
    go_enter Try.func24, Try.ntmps24
    go_wp2
    go_ret
    exact ⟨ret_bool (by rw [← HR.out, eq_comm, decide_eq_false_iff_not]; intro e; rw [e] at hlen; exact hlen rfl), 0, rfl⟩
end Go.Proofs.Yteceahbnafaeoaa
