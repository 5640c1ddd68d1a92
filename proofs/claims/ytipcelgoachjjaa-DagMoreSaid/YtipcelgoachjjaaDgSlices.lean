/- slices.Equal, Contains, Compare, ContainsFunc over lists, IsSorted. -/
import Derived.Deep.RegionHeld3
import Derived.Test.YtipcelgoachjjaaDgMathTwo
import Derived.Test.YtipcelgoachjjaaDgGraph
namespace Go.Proofs.Ytipcelgoachjjaa
set_option linter.unusedSimpArgs false
set_option linter.unusedVariables false
set_option maxRecDepth 100000
open Go.RowKit Go.Deep

theorem take_succ_int (xs : List Int) (k : Nat) (h : k < xs.length) : xs.take (k + 1) = xs.take k ++ [xs[k]] := List.take_succ_eq_append_getElem h
set_option maxHeartbeats 1000000 in
theorem equal_any (xs ys : List Int) (r : Bool) (hr : decide (xs = ys) = r) (vx vy : Value) (w : World) (hx : IntsAt w vx xs) (hy : IntsAt w vy ys) (lx : xs.length ≤ 1000000) (ly : ys.length ≤ 1000000) :
    Calls Try.prog 19 #[vx, vy] w fun e w' => e = .returned (.bool r) ∧ ∃ m, w' = w.drewN m := by
  obtain ⟨ax, cx, rfl, hcx⟩ := hx
  obtain ⟨ay, cy, rfl, hcy⟩ := hy
  have HX := Lib.hid hcx
  have HY := Lib.hid hcy
  have HR := Lib.hid hr
  clear hcx hcy hr
  by_cases hlen : xs.length = ys.length
  · have hli : ((xs.length : Int) != (ys.length : Int)) = false := by rw [hlen]; simp
    have HLEN := Lib.hid hlen
    clear hlen
    go_enter Try.func19, Try.ntmps19
    go_wp2
    clear hli
    go_loopw [13] (fun i wr => ∃ k m : Nat, k ≤ xs.length ∧ i = .int .i64 k ∧ wr = w.drewN m ∧ xs.take k = ys.take k) (fun i _ => xs.length - (intOf i).toNat)
    case atStart => exact ⟨0, 0, Nat.zero_le _, rfl, rfl, by simp⟩
    case round =>
      obtain ⟨k, m, hk, rfl, hwr, ht⟩ := hrel
      have HW := Lib.hid hwr
      obtain ⟨wk, rfl⟩ : ∃ x, x = wr := ⟨_, rfl⟩
      have HT := Lib.hid ht
      clear ht
      by_cases hlt : k < xs.length
      · obtain ⟨b, off, rfl, hbb, hcs⟩ := HX.out (by omega)
        obtain ⟨b', off', rfl, hbb', hcs'⟩ := HY.out (by have := HLEN.out; omega)
        have hlt2 : k < ys.length := by have := HLEN.out; omega
        have hcell : wk.cell? ⟨b, off + k, none⟩ = some (.int .i64 xs[k]) := by rw [hwr]; exact hcs k hlt
        have hcell' : wk.cell? ⟨b', off' + k, none⟩ = some (.int .i64 (ys[k])) := by rw [hwr]; exact hcs' k hlt2
        have HT1 := Lib.hid (take_succ_int xs k hlt)
        have HT2 := Lib.hid (take_succ_int ys k hlt2)
        have HG := Lib.hid (show xs = ys → xs[k] = ys[k] from fun e => by subst e; rfl)
        clear hcs hcs' hwr
        obtain ⟨x, hx⟩ : ∃ x, xs[k] = x := ⟨_, rfl⟩
        obtain ⟨y, hy⟩ : ∃ y, ys[k] = y := ⟨_, rfl⟩
        rw [hx] at hcell HT1 HG
        rw [hy] at hcell' HT2 HG
        clear hx hy
        have hki : (k : Int) < (xs.length : Int) := by omega
        have hkj : (k : Int) < (ys.length : Int) := by omega
        by_cases h : x = y
        · subst h
          go_wp2_with fail
          go_quiet (fail)
          go_wp2
          go_roundw
          case rel => exact ⟨k + 1, _, by omega, by go_num, by rw [HW.out, World.drewN_drewN], by rw [HT1.out, HT2.out, HT.out]⟩
          case measure => simp [intOf]; omega
        · have h' : (x != y) = true := by rw [bne_iff_ne]; exact h
          go_wp2_with fail
          go_quiet (fail)
          go_wp2
          go_ret
          exact ⟨ret_bool (by rw [← HR.out, eq_comm, decide_eq_false_iff_not]; exact fun e => h (HG.out e)), _, by rw [HW.out, World.drewN_drewN]⟩
      · obtain rfl : k = xs.length := by omega
        go_wp2
        go_ret
        refine ⟨ret_bool ?_, _, rfl⟩
        have := HT.out
        rw [List.take_length, HLEN.out, List.take_length] at this
        rw [← HR.out, eq_comm, decide_eq_true_eq]; exact this
  · have hli : ((xs.length : Int) != (ys.length : Int)) = true := by rw [bne_iff_ne]; omega
    go_enter Try.func19, Try.ntmps19
    go_wp2
    go_ret
    exact ⟨ret_bool (by rw [← HR.out, eq_comm, decide_eq_false_iff_not]; intro e; rw [e] at hlen; exact hlen rfl), 0, rfl⟩

/-- the place of the first y in xs, or -1 -/
def idxL (y : Int) (xs : List Int) : Int := if y ∈ xs then (xs.idxOf y : Nat) else -1
set_option maxHeartbeats 1000000 in
theorem contains_any (xs : List Int) (y : Int) (r : Bool) (hr : decide (y ∈ xs) = r) (v : Value) (w : World) (hv : IntsAt w v xs) (hl : xs.length ≤ 1000000) :
    Calls Try.prog 36 #[v, intV y] w fun e w' => e = .returned (.bool r) ∧ w = w' := by
  have hidx : Calls Try.prog 54 #[v, intV y] w fun e w' => (∃ i : Int, e = .returned (intV i) ∧ decide (0 ≤ i) = r) ∧ w = w' := by
    obtain ⟨a, cap, rfl, hc⟩ := hv
    have HC := Lib.hid hc
    have HR := Lib.hid hr
    clear hc hr
    go_enter Try.func54, Try.ntmps54
    go_wp2
    go_loop [8] (fun i => ∃ k : Nat, k ≤ xs.length ∧ i = .int .i64 k ∧ y ∉ xs.take k) (fun i => xs.length - (intOf i).toNat)
    case atStart => exact ⟨0, Nat.zero_le _, rfl, by simp⟩
    case round =>
      obtain ⟨k, hk, rfl, hn⟩ := hrel
      have HN := Lib.hid hn
      clear hn
      by_cases hlt : k < xs.length
      · obtain ⟨b, off, rfl, hbb, hcs⟩ := HC.out (by omega)
        have hcell := hcs k hlt
        have HT := Lib.hid (take_succ_int xs k hlt)
        have HM := Lib.hid (List.getElem_mem hlt)
        clear hcs
        obtain ⟨x, hx⟩ : ∃ x, xs[k] = x := ⟨_, rfl⟩
        rw [hx] at hcell HT HM
        clear hx
        by_cases h : y = x
        · subst h
          go_wp2
          go_ret
          exact ⟨⟨_, rfl, by rw [← HR.out]; apply decide_eq_decide.2; exact ⟨fun _ => HM.out, fun _ => by omega⟩⟩, rfl⟩
        · go_wp2
          go_round
          case rel =>
            refine ⟨k + 1, by omega, by go_num, ?_⟩
            rw [HT.out]
            intro hm
            rcases List.mem_append.1 hm with h' | h'
            · exact HN.out h'
            · simp at h'; exact h h'
          case measure => simp [intOf]; omega
      · obtain rfl : k = xs.length := by omega
        go_wp2
        go_ret
        refine ⟨⟨_, rfl, ?_⟩, rfl⟩
        have := HN.out
        rw [List.take_length] at this
        rw [← HR.out]; apply decide_eq_decide.2; exact ⟨fun h => absurd h (by decide), fun h => absurd h this⟩
  obtain ⟨a, cap, rfl, _⟩ := hv
  have HI := Lib.hid hidx
  clear hidx hr
  go_enter Try.func36, Try.ntmps36
  go_wp2_with fail
  refine HI.out.mono ?_
  rintro e w1 ⟨⟨i, rfl, hi⟩, rfl⟩
  have HD := Lib.hid hi
  clear hi
  go_wp2
  go_ret
  exact ⟨ret_bool HD.out, rfl⟩

set_option maxHeartbeats 400000 in
theorem nan_any (x : Int) (w : World) : Calls Try.prog 60 #[intV x] w fun e w' => e = .returned (.bool false) ∧ w = w' := by
  go_enter Try.func60, Try.ntmps60
  go_wp2
  go_ret
  exact ⟨ret_bool (by simp), rfl⟩
def cmpZ (x y : Int) : Int := if x < y then -1 else if y < x then 1 else 0
theorem cmpZ_ne {x y : Int} (h : ¬ x = y) : ¬ cmpZ x y = 0 := by
  rcases (show x < y ∨ (¬ x < y ∧ y < x) by omega) with h1 | ⟨h1, h2⟩
  · rw [cmpZ, if_pos h1]; decide
  · rw [cmpZ, if_neg h1, if_pos h2]; decide
theorem cmpZ_neg {x y : Int} (h : ¬ x = y) : cmpZ x y < 0 ↔ x < y := by
  rcases (show x < y ∨ (¬ x < y ∧ y < x) by omega) with h1 | ⟨h1, h2⟩
  · rw [cmpZ, if_pos h1]; exact ⟨fun _ => h1, fun _ => by decide⟩
  · rw [cmpZ, if_neg h1, if_pos h2]; exact ⟨fun h => absurd h (by decide), fun h => absurd h h1⟩
set_option maxHeartbeats 1000000 in
theorem cmp_any (x y : Int) (z : Int) (hz : cmpZ x y = z) (w : World) : Calls Try.prog 53 #[intV x, intV y] w fun e w' => e = .returned (intV z) ∧ w = w' := by
  have C1 := Lib.hid (nan_any x w)
  have C2 := Lib.hid (nan_any y w)
  have HZ := Lib.hid hz
  clear hz
  rcases (show x < y ∨ (y ≤ x ∧ y < x) ∨ x = y by omega) with h | ⟨h0, h⟩ | h
  · go_enter Try.func53, Try.ntmps53
    go_wp2_with fail
    refine C1.out.mono ?_
    rintro e w1 ⟨rfl, rfl⟩
    go_wp2_with fail
    refine C2.out.mono ?_
    rintro e w1 ⟨rfl, rfl⟩
    go_wp2
    go_ret
    exact ⟨ret_int (by rw [← HZ.out, cmpZ, if_pos h]), rfl⟩
  · go_enter Try.func53, Try.ntmps53
    go_wp2_with fail
    refine C1.out.mono ?_
    rintro e w1 ⟨rfl, rfl⟩
    go_wp2_with fail
    refine C2.out.mono ?_
    rintro e w1 ⟨rfl, rfl⟩
    go_wp2
    go_ret
    exact ⟨ret_int (by rw [← HZ.out, cmpZ, if_neg (by omega), if_pos h]), rfl⟩
  · subst h
    go_enter Try.func53, Try.ntmps53
    go_wp2_with fail
    refine C1.out.mono ?_
    rintro e w1 ⟨rfl, rfl⟩
    go_wp2_with fail
    refine C1.out.mono ?_
    rintro e w1 ⟨rfl, rfl⟩
    go_wp2
    go_ret
    exact ⟨ret_int (by rw [← HZ.out, cmpZ, if_neg (by omega), if_neg (by omega)]), rfl⟩
/-- lists by their first difference -/
def lexI : List Int → List Int → Int
  | [], [] => 0
  | [], _ :: _ => -1
  | _ :: _, [] => 1
  | a :: p, b :: q => if cmpZ a b ≠ 0 then cmpZ a b else lexI p q
theorem lexI_toI : ∀ a b : List Nat, lexI (toI a) (toI b) = lexZ a b
  | [], [] => rfl
  | [], _ :: _ => rfl
  | _ :: _, [] => rfl
  | i :: a, j :: b => by
    show (if cmpZ (i : Int) (j : Int) ≠ 0 then cmpZ (i : Int) (j : Int) else lexI (toI a) (toI b)) = _
    rw [lexI_toI a b, lexZ, cmpZ]
    by_cases h1 : i < j
    · rw [if_pos (show (i : Int) < j by omega), if_pos (by decide), if_pos h1]
    · rw [if_neg (show ¬ (i : Int) < j by omega), if_neg h1]
      by_cases h2 : j < i
      · rw [if_pos (show (j : Int) < i by omega), if_pos (by decide), if_pos h2]
      · rw [if_neg (show ¬ (j : Int) < i by omega), if_neg (by decide), if_neg h2]
theorem lexI_nil (l : List Int) : lexI [] l = if 0 < l.length then -1 else 0 := by cases l <;> rfl
set_option maxHeartbeats 1000000 in
theorem compare_any (xs ys : List Int) (r : Int) (hr : lexI xs ys = r) (vx vy : Value) (w : World) (hx : IntsAt w vx xs) (hy : IntsAt w vy ys) (lx : xs.length ≤ 1000000) (ly : ys.length ≤ 1000000) :
    Calls Try.prog 34 #[vx, vy] w fun e w' => e = .returned (intV r) ∧ w = w' := by
  obtain ⟨ax, cx, rfl, hcx⟩ := hx
  obtain ⟨ay, cy, rfl, hcy⟩ := hy
  have HX := Lib.hid hcx
  have HY := Lib.hid hcy
  have HR := Lib.hid hr
  clear hcx hcy hr
  go_enter Try.func34, Try.ntmps34
  go_wp2
  go_loop [11] (fun i => ∃ k : Nat, k ≤ xs.length ∧ k ≤ ys.length ∧ i = .int .i64 k ∧ lexI (xs.drop k) (ys.drop k) = r) (fun i => xs.length - (intOf i).toNat)
  case atStart => exact ⟨0, Nat.zero_le _, Nat.zero_le _, rfl, HR.out⟩
  case round =>
    obtain ⟨k, hk, hk2, rfl, he⟩ := hrel
    by_cases hkx : k < xs.length
    · by_cases hky : k < ys.length
      · obtain ⟨b, off, rfl, hbb, hcs⟩ := HX.out (by omega)
        obtain ⟨b', off', rfl, hbb', hcs'⟩ := HY.out (by omega)
        have hcell := hcs k hkx
        have hcell' := hcs' k hky
        rw [List.drop_eq_getElem_cons hkx, List.drop_eq_getElem_cons hky, lexI] at he
        obtain ⟨x, hx⟩ : ∃ x, xs[k] = x := ⟨_, rfl⟩
        obtain ⟨y, hy⟩ : ∃ y, ys[k] = y := ⟨_, rfl⟩
        rw [hx] at hcell he
        rw [hy] at hcell' he
        obtain ⟨z, hz⟩ : ∃ z, cmpZ x y = z := ⟨_, rfl⟩
        rw [hz] at he
        have HE := Lib.hid he
        have C := Lib.hid (cmp_any x y z hz w)
        clear hcs hcs' hx hy he hz
        by_cases e : z = 0
        · subst e
          go_wp2_with fail
          refine C.out.mono ?_
          rintro e w1 ⟨rfl, rfl⟩
          go_wp2
          go_round
          case rel => exact ⟨k + 1, by omega, by omega, by go_num, by have := HE.out; rwa [if_neg (by decide)] at this⟩
          case measure => simp [intOf]; omega
        · go_wp2_with fail
          refine C.out.mono ?_
          rintro e w1 ⟨rfl, rfl⟩
          go_wp2
          go_ret
          exact ⟨ret_int (by have := HE.out; rwa [if_pos e] at this), rfl⟩
      · have hd : ys.drop k = [] := List.drop_of_length_le (by omega)
        rw [hd, List.drop_eq_getElem_cons hkx, lexI] at he
        obtain ⟨b, off, rfl, hbb, hcs⟩ := HX.out (by omega)
        have hcell := hcs k hkx
        have HE := Lib.hid he
        clear hcs he hd
        go_wp2
        go_ret
        exact ⟨ret_int HE.out, rfl⟩
    · obtain rfl : k = xs.length := by omega
      rw [List.drop_length, lexI_nil, List.length_drop] at he
      have HE := Lib.hid he
      clear he
      by_cases hlt : xs.length < ys.length
      · go_wp2
        go_ret
        exact ⟨ret_int (by rw [← HE.out, if_pos (by omega)]), rfl⟩
      · go_wp2
        go_ret
        exact ⟨ret_int (by rw [← HE.out, if_neg (by omega)]), rfl⟩

set_option maxHeartbeats 1000000 in
/-- a function that answers p for the lists -/
theorem containsL_any (L : List (List Int)) (p : List Int → Bool) (fe : Nat) (cs : Array Value) (hce : ∀ args W, Sem.run Try.prog (callFunc fe args) W = .ok (.enter fe args) W) (r : Bool) (hr : L.any p = r) (v : Value) (w : World) (hv : ListsAt w v L) (hl : L.length ≤ 1000000)
    (hf : ∀ W, Below w.heap.size w W → ∀ l ∈ L, ∀ u, IntsAt W u l → Calls Try.prog fe (#[u] ++ cs) W fun e w' => e = .returned (.bool (p l)) ∧ Below W.heap.size W w') :
    Calls Try.prog 30 #[v, .func (.func fe) #[] cs] w fun e w' => e = .returned (.bool r) ∧ Below w.heap.size w w' := by
  have hidx : Calls Try.prog 52 #[v, .func (.func fe) #[] cs] w fun e w' => (∃ i : Int, e = .returned (intV i) ∧ decide (0 ≤ i) = r) ∧ Below w.heap.size w w' := by
    have HL := Lib.hid hv
    obtain ⟨a, cap, rfl, hc⟩ := hv
    have HR := Lib.hid hr
    have HF := Lib.hid hf
    clear hc hr hf
    go_enter Try.func52, Try.ntmps52
    go_wp2
    go_loopw [8] (fun i wr => ∃ k : Nat, k ≤ L.length ∧ i = .int .i64 k ∧ Below w.heap.size w wr ∧ (L.take k).any p = false) (fun i _ => L.length - (intOf i).toNat)
    case atStart => exact ⟨0, Nat.zero_le _, rfl, Below.refl _ _, by simp⟩
    case round =>
      obtain ⟨k, hk, rfl, hB, hn⟩ := hrel
      have HN := Lib.hid hn
      have HB := Lib.hid hB
      obtain ⟨wk, rfl⟩ : ∃ x, x = wr := ⟨_, rfl⟩
      clear hn
      by_cases hlt : k < L.length
      · obtain ⟨b, off, x, c, rfl, hbb, hc, hi⟩ := HL.out.elem hlt
        have hcell := (hB.cell (p := ⟨b, off + k, none⟩) hbb).trans hc
        have HT := Lib.hid (List.take_succ_eq_append_getElem hlt)
        have HM := Lib.hid (List.getElem_mem hlt)
        have hcall := HF.out wk hB _ (List.getElem_mem hlt) _ (hi.below hB)
        obtain ⟨l, hl'⟩ : ∃ l, L[k] = l := ⟨_, rfl⟩
        rw [hl'] at hcell HT HM hcall
        have HCALL := Lib.hid hcall
        clear hl' hcall hc hi hB
        go_wp2_with fail
        refine HCALL.out.mono ?_
        rintro e w1 ⟨rfl, hB1⟩
        have HB1 := Lib.hid (below_then HB.out hB1)
        clear HCALL hcell hB1
        cases hp : p l
        · have HP := Lib.hid hp
          clear hp
          go_wp2
          go_roundw
          case rel =>
            refine ⟨k + 1, by omega, by go_num, HB1.out, ?_⟩
            rw [HT.out, List.any_append, HN.out]; simp [HP.out]
          case measure => simp [intOf]; omega
        · have HP := Lib.hid hp
          clear hp
          go_wp2
          go_ret
          exact ⟨⟨_, rfl, by rw [← HR.out, List.any_eq_true.2 ⟨l, HM.out, HP.out⟩, decide_eq_true_eq]; omega⟩, HB1.out⟩
      · obtain rfl : k = L.length := by omega
        clear hB
        go_wp2
        go_ret
        refine ⟨⟨_, rfl, ?_⟩, HB.out⟩
        have := HN.out
        rw [List.take_length] at this
        rw [← HR.out, this]; decide
  obtain ⟨a, cap, rfl, _⟩ := hv
  have HI := Lib.hid hidx
  clear hidx hr hf
  go_enter Try.func30, Try.ntmps30
  go_wp2_with fail
  refine HI.out.mono ?_
  rintro e w1 ⟨⟨i, rfl, hi⟩, hm⟩
  have HD := Lib.hid hi
  have HM := Lib.hid hm
  clear hi hm
  go_wp2
  go_ret
  exact ⟨ret_bool HD.out, HM.out⟩

set_option maxHeartbeats 1000000 in
theorem less_any (x y : Int) (r : Bool) (hr : decide (x < y) = r) (w : World) : Calls Try.prog 55 #[intV x, intV y] w fun e w' => e = .returned (.bool r) ∧ w = w' := by
  have C1 := Lib.hid (nan_any x w)
  have HR := Lib.hid hr
  clear hr
  go_enter Try.func55, Try.ntmps55
  go_wp2_with fail
  refine C1.out.mono ?_
  rintro e w1 ⟨rfl, rfl⟩
  go_wp2
  go_ret
  exact ⟨ret_bool (by rw [← HR.out]), rfl⟩
set_option maxHeartbeats 1000000 in
theorem sorted_any (xs : List Int) (hs : xs.Pairwise (· < ·)) (v : Value) (w : World) (hv : IntsAt w v xs) (hl : xs.length ≤ 1000000) :
    Calls Try.prog 37 #[v] w fun e w' => e = .returned (.bool true) ∧ Below w.heap.size w w' := by
  have HV := Lib.hid hv
  obtain ⟨a, cap, rfl⟩ := hv.slice
  have HS := Lib.hid hs
  clear hv hs
  go_enter Try.func37, Try.ntmps37
  go_wp2
  go_loopw [3] (fun i wr => ∃ k : Nat, k ≤ xs.length ∧ i = .int .i64 ((k : Int) - 1) ∧ Below w.heap.size w wr) (fun i _ => (intOf i + 1).toNat)
  case atStart => exact ⟨xs.length, Nat.le_refl _, rfl, Below.refl _ _⟩
  case round =>
    obtain ⟨k, hk, rfl, hB⟩ := hrel
    obtain ⟨wk, rfl⟩ : ∃ x, x = wr := ⟨_, rfl⟩
    by_cases hlt : 2 ≤ k
    · obtain ⟨j, rfl⟩ : ∃ j, k = j + 2 := ⟨k - 2, by omega⟩
      obtain ⟨b, off, rfl, hbb, q1⟩ := HV.out.elem (j := j + 1) (by omega)
      obtain ⟨b', off', e', _, q2⟩ := HV.out.elem (j := j) (by omega)
      cases e'
      have c1 := (hB.cell (p := ⟨b, off + (j + 1), none⟩) hbb).trans q1
      have c2 := (hB.cell (p := ⟨b, off + j, none⟩) hbb).trans q2
      have hp := List.pairwise_iff_getElem.1 HS.out j (j + 1) (by omega) (by omega) (by omega)
      have hnl : decide (xs[j + 1] < xs[j]) = false := by rw [decide_eq_false_iff_not]; omega
      obtain ⟨x, hx⟩ : ∃ x, xs[j + 1] = x := ⟨_, rfl⟩
      obtain ⟨y, hy⟩ : ∃ y, xs[j] = y := ⟨_, rfl⟩
      rw [hx] at c1 hnl
      rw [hy] at c2 hnl
      have HNL := Lib.hid hnl
      have HB := Lib.hid hB
      obtain ⟨i, hi⟩ : ∃ i, j + 1 = i := ⟨_, rfl⟩
      have hi1 : ((j + 2 : Nat) : Int) - 1 = (i : Int) := by omega
      have hwr : IntKind.i64.wrap ((i : Int) - 1) = (j : Int) := by rw [show (i : Int) - 1 = j by omega]; exact IntWalk.i64_in _ (by omega)
      have hb1 : (0 : Int) ≤ (i : Int) := by omega
      have hb2 : (i : Int) < (xs.length : Int) := by omega
      have hb3 : (0 : Int) ≤ (j : Int) := by omega
      have hb4 : (j : Int) < (xs.length : Int) := by omega
      have hb5 : (0 : Int) < (i : Int) := by omega
      have HIJ := Lib.hid hi
      rw [hi1]
      rw [hi] at c1
      clear q1 q2 hp hx hy hnl hB hi1 hi hk hlt
      go_wp2_with fail
      go_region_held3 (fun w' => w'.cell? ⟨b, off + i, none⟩ = some (intV x) ∧ w'.cell? ⟨b, off + j, none⟩ = some (intV y))
        (first | exact ⟨c1, c2⟩ | assumption)
        (first | ((try go_simp); go_at_call 55; refine (less_any x y false HNL.out _).mono ?_; rintro e w5 ⟨rfl, rfl⟩) | (trace_state; sorry))
      all_goals
        go_wp2
        go_roundw
        case rel => exact ⟨i, by have := HIJ.out; omega, by have := HIJ.out; congr 1; omega, HB.out.trans (below_drew1 _ _)⟩
        case measure => have := HIJ.out; simp [intOf]; omega
    · go_wp2
      go_ret
      exact ⟨rfl, hB⟩
end Go.Proofs.Ytipcelgoachjjaa
