/- Library functions over lists of integers: Equal, Compare, ContainsFunc, IsSorted. -/
import Derived.Deep.RegionHeld3
import Derived.Test.YteceahbnafaeoaaSqVals
namespace Go.Proofs.Yteceahbnafaeoaa
set_option linter.unusedSimpArgs false
set_option linter.unusedVariables false
set_option maxRecDepth 100000
open Go.RowKit Go.Deep

theorem take_succ_int (xs : List Int) (k : Nat) (h : k < xs.length) : xs.take (k + 1) = xs.take k ++ [xs[k]] := List.take_succ_eq_append_getElem h
set_option maxHeartbeats 1000000 in
theorem equal_any (xs ys : List Int) (r : Bool) (hr : decide (xs = ys) = r) (vx vy : Value) (w : World) (hx : IntsAt w vx xs) (hy : IntsAt w vy ys) (lx : xs.length ≤ 1000000) (ly : ys.length ≤ 1000000) :
    Calls Try.prog 23 #[vx, vy] w fun e w' => e = .returned (.bool r) ∧ ∃ m, w' = w.drewN m := by
  obtain ⟨ax, cx, rfl, hcx⟩ := hx
  obtain ⟨ay, cy, rfl, hcy⟩ := hy
  have HX := Lib.hid hcx
  have HY := Lib.hid hcy
  have HR := Lib.hid hr
  clear hcx hcy hr
  by_cases hlen : xs.length = ys.length
  · have hli : ((xs.length : Int) != (ys.length : Int)) = false := by rw [hlen]; simp
    have HLEN := Lib.hid hlen
    clear hlen
    go_enter Try.func23, Try.ntmps23
    go_wp2
    clear hli
    go_loopw [13] (fun i wr => ∃ k m : Nat, k ≤ xs.length ∧ i = .int .i64 k ∧ wr = w.drewN m ∧ xs.take k = ys.take k) (fun i _ => xs.length - (intOf i).toNat)
    case atStart => exact ⟨0, 0, Nat.zero_le _, rfl, rfl, by simp⟩
    case round =>
      obtain ⟨k, m, hk, rfl, hwr, ht⟩ := hrel
      have HW := Lib.hid hwr
      obtain ⟨wk, rfl⟩ : ∃ x, x = wr := ⟨_, rfl⟩
      have HT := Lib.hid ht
      clear ht
      by_cases hlt : k < xs.length
      · obtain ⟨b, off, rfl, hbb, hcs⟩ := HX.out (by omega)
        obtain ⟨b', off', rfl, hbb', hcs'⟩ := HY.out (by have := HLEN.out; omega)
        have hlt2 : k < ys.length := by have := HLEN.out; omega
        have hcell : wk.cell? ⟨b, off + k, none⟩ = some (.int .i64 xs[k]) := by rw [hwr]; exact hcs k hlt
        have hcell' : wk.cell? ⟨b', off' + k, none⟩ = some (.int .i64 (ys[k])) := by rw [hwr]; exact hcs' k hlt2
        have HT1 := Lib.hid (take_succ_int xs k hlt)
        have HT2 := Lib.hid (take_succ_int ys k hlt2)
        have HG := Lib.hid (show xs = ys → xs[k] = ys[k] from fun e => by subst e; rfl)
        clear hcs hcs' hwr
        obtain ⟨x, hx⟩ : ∃ x, xs[k] = x := ⟨_, rfl⟩
        obtain ⟨y, hy⟩ : ∃ y, ys[k] = y := ⟨_, rfl⟩
        rw [hx] at hcell HT1 HG
        rw [hy] at hcell' HT2 HG
        clear hx hy
        have hki : (k : Int) < (xs.length : Int) := by omega
        have hkj : (k : Int) < (ys.length : Int) := by omega
        by_cases h : x = y
        · subst h
          go_wp2_with fail
          go_quiet (fail)
          go_wp2
          go_roundw
          case rel => exact ⟨k + 1, _, by omega, by go_num, by rw [HW.out, World.drewN_drewN], by rw [HT1.out, HT2.out, HT.out]⟩
          case measure => simp [intOf]; omega
        · have h' : (x != y) = true := by rw [bne_iff_ne]; exact h
          go_wp2_with fail
          go_quiet (fail)
          go_wp2
          go_ret
          exact ⟨ret_bool (by rw [← HR.out, eq_comm, decide_eq_false_iff_not]; exact fun e => h (HG.out e)), _, by rw [HW.out, World.drewN_drewN]⟩
      · obtain rfl : k = xs.length := by omega
        go_wp2
        go_ret
        refine ⟨ret_bool ?_, _, rfl⟩
        have := HT.out
        rw [List.take_length, HLEN.out, List.take_length] at this
        rw [← HR.out, eq_comm, decide_eq_true_eq]; exact this
  · have hli : ((xs.length : Int) != (ys.length : Int)) = true := by rw [bne_iff_ne]; omega
    go_enter Try.func23, Try.ntmps23
    go_wp2
    go_ret
    exact ⟨ret_bool (by rw [← HR.out, eq_comm, decide_eq_false_iff_not]; intro e; rw [e] at hlen; exact hlen rfl), 0, rfl⟩

set_option maxHeartbeats 400000 in
theorem nan_any (x : Int) (w : World) : Calls Try.prog 76 #[intV x] w fun e w' => e = .returned (.bool false) ∧ w = w' := by
  go_enter Try.func76, Try.ntmps76
  go_wp2
  go_ret
  exact ⟨ret_bool (by simp), rfl⟩
def cmpZ (x y : Int) : Int := if x < y then -1 else if y < x then 1 else 0
theorem cmpZ_ne {x y : Int} (h : ¬ x = y) : ¬ cmpZ x y = 0 := by
  rcases (show x < y ∨ (¬ x < y ∧ y < x) by omega) with h1 | ⟨h1, h2⟩
  · rw [cmpZ, if_pos h1]; decide
  · rw [cmpZ, if_neg h1, if_pos h2]; decide
theorem cmpZ_neg {x y : Int} (h : ¬ x = y) : cmpZ x y < 0 ↔ x < y := by
  rcases (show x < y ∨ (¬ x < y ∧ y < x) by omega) with h1 | ⟨h1, h2⟩
  · rw [cmpZ, if_pos h1]; exact ⟨fun _ => h1, fun _ => by decide⟩
  · rw [cmpZ, if_neg h1, if_pos h2]; exact ⟨fun h => absurd h (by decide), fun h => absurd h h1⟩
set_option maxHeartbeats 1000000 in
theorem cmp_any (x y : Int) (z : Int) (hz : cmpZ x y = z) (w : World) : Calls Try.prog 61 #[intV x, intV y] w fun e w' => e = .returned (intV z) ∧ w = w' := by
  have C1 := Lib.hid (nan_any x w)
  have C2 := Lib.hid (nan_any y w)
  have HZ := Lib.hid hz
  clear hz
  rcases (show x < y ∨ (y ≤ x ∧ y < x) ∨ x = y by omega) with h | ⟨h0, h⟩ | h
  · go_enter Try.func61, Try.ntmps61
    go_wp2_with fail
    refine C1.out.mono ?_
    rintro e w1 ⟨rfl, rfl⟩
    go_wp2_with fail
    refine C2.out.mono ?_
    rintro e w1 ⟨rfl, rfl⟩
    go_wp2
    go_ret
    exact ⟨ret_int (by rw [← HZ.out, cmpZ, if_pos h]), rfl⟩
  · go_enter Try.func61, Try.ntmps61
    go_wp2_with fail
    refine C1.out.mono ?_
    rintro e w1 ⟨rfl, rfl⟩
    go_wp2_with fail
    refine C2.out.mono ?_
    rintro e w1 ⟨rfl, rfl⟩
    go_wp2
    go_ret
    exact ⟨ret_int (by rw [← HZ.out, cmpZ, if_neg (by omega), if_pos h]), rfl⟩
  · subst h
    go_enter Try.func61, Try.ntmps61
    go_wp2_with fail
    refine C1.out.mono ?_
    rintro e w1 ⟨rfl, rfl⟩
    go_wp2_with fail
    refine C1.out.mono ?_
    rintro e w1 ⟨rfl, rfl⟩
    go_wp2
    go_ret
    exact ⟨ret_int (by rw [← HZ.out, cmpZ, if_neg (by omega), if_neg (by omega)]), rfl⟩
/-- lists by their first difference -/
def lexI : List Int → List Int → Int
  | [], [] => 0
  | [], _ :: _ => -1
  | _ :: _, [] => 1
  | a :: p, b :: q => if cmpZ a b ≠ 0 then cmpZ a b else lexI p q
theorem lexI_nil (l : List Int) : lexI [] l = if 0 < l.length then -1 else 0 := by cases l <;> rfl
set_option maxHeartbeats 1000000 in
theorem compare_any (xs ys : List Int) (r : Int) (hr : lexI xs ys = r) (vx vy : Value) (w : World) (hx : IntsAt w vx xs) (hy : IntsAt w vy ys) (lx : xs.length ≤ 1000000) (ly : ys.length ≤ 1000000) :
    Calls Try.prog 35 #[vx, vy] w fun e w' => e = .returned (intV r) ∧ w = w' := by
  obtain ⟨ax, cx, rfl, hcx⟩ := hx
  obtain ⟨ay, cy, rfl, hcy⟩ := hy
  have HX := Lib.hid hcx
  have HY := Lib.hid hcy
  have HR := Lib.hid hr
  clear hcx hcy hr
  go_enter Try.func35, Try.ntmps35
  go_wp2
  go_loop [11] (fun i => ∃ k : Nat, k ≤ xs.length ∧ k ≤ ys.length ∧ i = .int .i64 k ∧ lexI (xs.drop k) (ys.drop k) = r) (fun i => xs.length - (intOf i).toNat)
  case atStart => exact ⟨0, Nat.zero_le _, Nat.zero_le _, rfl, HR.out⟩
  case round =>
    obtain ⟨k, hk, hk2, rfl, he⟩ := hrel
    by_cases hkx : k < xs.length
    · by_cases hky : k < ys.length
      · obtain ⟨b, off, rfl, hbb, hcs⟩ := HX.out (by omega)
        obtain ⟨b', off', rfl, hbb', hcs'⟩ := HY.out (by omega)
        have hcell := hcs k hkx
        have hcell' := hcs' k hky
        rw [List.drop_eq_getElem_cons hkx, List.drop_eq_getElem_cons hky, lexI] at he
        obtain ⟨x, hx⟩ : ∃ x, xs[k] = x := ⟨_, rfl⟩
        obtain ⟨y, hy⟩ : ∃ y, ys[k] = y := ⟨_, rfl⟩
        rw [hx] at hcell he
        rw [hy] at hcell' he
        obtain ⟨z, hz⟩ : ∃ z, cmpZ x y = z := ⟨_, rfl⟩
        rw [hz] at he
        have HE := Lib.hid he
        have C := Lib.hid (cmp_any x y z hz w)
        clear hcs hcs' hx hy he hz
        by_cases e : z = 0
        · subst e
          go_wp2_with fail
          refine C.out.mono ?_
          rintro e w1 ⟨rfl, rfl⟩
          go_wp2
          go_round
          case rel => exact ⟨k + 1, by omega, by omega, by go_num, by have := HE.out; rwa [if_neg (by decide)] at this⟩
          case measure => simp [intOf]; omega
        · go_wp2_with fail
          refine C.out.mono ?_
          rintro e w1 ⟨rfl, rfl⟩
          go_wp2
          go_ret
          exact ⟨ret_int (by have := HE.out; rwa [if_pos e] at this), rfl⟩
      · have hd : ys.drop k = [] := List.drop_of_length_le (by omega)
        rw [hd, List.drop_eq_getElem_cons hkx, lexI] at he
        obtain ⟨b, off, rfl, hbb, hcs⟩ := HX.out (by omega)
        have hcell := hcs k hkx
        have HE := Lib.hid he
        clear hcs he hd
        go_wp2
        go_ret
        exact ⟨ret_int HE.out, rfl⟩
    · obtain rfl : k = xs.length := by omega
      rw [List.drop_length, lexI_nil, List.length_drop] at he
      have HE := Lib.hid he
      clear he
      by_cases hlt : xs.length < ys.length
      · go_wp2
        go_ret
        exact ⟨ret_int (by rw [← HE.out, if_pos (by omega)]), rfl⟩
      · go_wp2
        go_ret
        exact ⟨ret_int (by rw [← HE.out, if_neg (by omega)]), rfl⟩

set_option maxHeartbeats 1000000 in
theorem less_any (x y : Int) (r : Bool) (hr : decide (x < y) = r) (w : World) : Calls Try.prog 62 #[intV x, intV y] w fun e w' => e = .returned (.bool r) ∧ w = w' := by
  have C1 := Lib.hid (nan_any x w)
  have HR := Lib.hid hr
  clear hr
  go_enter Try.func62, Try.ntmps62
  go_wp2_with fail
  refine C1.out.mono ?_
  rintro e w1 ⟨rfl, rfl⟩
  go_wp2
  go_ret
  exact ⟨ret_bool (by rw [← HR.out]), rfl⟩
set_option maxHeartbeats 1000000 in
/-- a function that answers p for the elements, and reads only -/
theorem containsF_any (xs : List Int) (p : Int → Bool) (fe : Nat) (cs : Array Value) (hce : ∀ args W, Sem.run Try.prog (callFunc fe args) W = .ok (.enter fe args) W) (r : Bool) (hr : decide (∃ x ∈ xs, p x = true) = r) (v : Value) (w : World) (hv : IntsAt w v xs) (hl : xs.length ≤ 1000000)
    (hf : ∀ m, ∀ x ∈ xs, Calls Try.prog fe (#[intV x] ++ cs) (w.drewN m) fun e w' => e = .returned (.bool (p x)) ∧ ∃ m, w' = w.drewN m) :
    Calls Try.prog 32 #[v, .func (.func fe) #[] cs] w fun e w' => e = .returned (.bool r) ∧ ∃ m, w' = w.drewN m := by
  have hidx : Calls Try.prog 60 #[v, .func (.func fe) #[] cs] w fun e w' => (∃ i : Int, e = .returned (intV i) ∧ decide (0 ≤ i) = r) ∧ ∃ m, w' = w.drewN m := by
    obtain ⟨a, cap, rfl, hc⟩ := hv
    have HC := Lib.hid hc
    have HR := Lib.hid hr
    have HF := Lib.hid hf
    clear hc hr hf
    go_enter Try.func60, Try.ntmps60
    go_wp2
    go_loopw [8] (fun i wr => ∃ k m : Nat, k ≤ xs.length ∧ i = .int .i64 k ∧ wr = w.drewN m ∧ ∀ x ∈ xs.take k, p x = false) (fun i _ => xs.length - (intOf i).toNat)
    case atStart => exact ⟨0, 0, Nat.zero_le _, rfl, rfl, by simp⟩
    case round =>
      obtain ⟨k, m, hk, rfl, hwr, hn⟩ := hrel
      have HN := Lib.hid hn
      have HW := Lib.hid hwr
      obtain ⟨wk, rfl⟩ : ∃ x, x = wr := ⟨_, rfl⟩
      clear hn
      by_cases hlt : k < xs.length
      · obtain ⟨b, off, rfl, hbb, hcs⟩ := HC.out (by omega)
        have hcell : wk.cell? ⟨b, off + k, none⟩ = some (.int .i64 xs[k]) := by rw [hwr]; exact hcs k hlt
        have HT := Lib.hid (take_succ_int xs k hlt)
        have HM := Lib.hid (List.getElem_mem hlt)
        have hcall := HF.out m _ (List.getElem_mem hlt)
        rw [← hwr] at hcall
        clear hcs hwr
        obtain ⟨x, hx⟩ : ∃ x, xs[k] = x := ⟨_, rfl⟩
        rw [hx] at hcell HT HM hcall
        have HCALL := Lib.hid hcall
        clear hx hcall
        go_wp2_with fail
        refine HCALL.out.mono ?_
        rintro e w1 ⟨rfl, m', hm'⟩
        have HM' := Lib.hid hm'
        clear hm' HCALL hcell
        cases hp : p x
        · have HP := Lib.hid hp
          clear hp
          go_wp2
          go_roundw
          case rel =>
            refine ⟨k + 1, m', by omega, by go_num, HM'.out, ?_⟩
            rw [HT.out]
            intro y hy
            rcases List.mem_append.1 hy with h' | h'
            · exact HN.out y h'
            · simp at h'; rw [h']; exact HP.out
          case measure => simp [intOf]; omega
        · have HP := Lib.hid hp
          clear hp
          go_wp2
          go_ret
          exact ⟨⟨_, rfl, by rw [← HR.out]; apply decide_eq_decide.2; exact ⟨fun _ => ⟨x, HM.out, HP.out⟩, fun _ => by omega⟩⟩, m', HM'.out⟩
      · obtain rfl : k = xs.length := by omega
        clear hwr
        go_wp2
        go_ret
        refine ⟨⟨_, rfl, ?_⟩, m, HW.out⟩
        have := HN.out
        rw [List.take_length] at this
        rw [← HR.out]; apply decide_eq_decide.2
        exact ⟨fun h => absurd h (by decide), fun ⟨x, h1, h2⟩ => by rw [this x h1] at h2; cases h2⟩
  obtain ⟨a, cap, rfl, _⟩ := hv
  have HI := Lib.hid hidx
  clear hidx hr hf
  go_enter Try.func32, Try.ntmps32
  go_wp2_with fail
  refine HI.out.mono ?_
  rintro e w1 ⟨⟨i, rfl, hi⟩, m, hm⟩
  have HD := Lib.hid hi
  have HM := Lib.hid hm
  clear hi hm
  go_wp2
  go_ret
  exact ⟨ret_bool HD.out, m, HM.out⟩

/-- a list ascends weakly -/
def srtB (xs : List Int) : Bool := (List.range xs.length).all fun i => decide (i = 0) || decide (ix xs (i - 1) ≤ ix xs i)
theorem srt_iff (xs : List Int) : srtB xs = true ↔ xs.Pairwise (· ≤ ·) := by
  unfold srtB
  rw [List.all_eq_true]
  constructor
  · intro h
    have hs : ∀ d i, (hi : i + d < xs.length) → xs[i] ≤ xs[i + d] := by
      intro d
      induction d with
      | zero => intro i hi; exact Int.le_refl _
      | succ d ih =>
        intro i hi
        have h1 := ih i (by omega)
        have h2 := h (i + d + 1) (by simp; omega)
        rw [Bool.or_eq_true, decide_eq_true_eq, decide_eq_true_eq] at h2
        rcases h2 with h2 | h2
        · omega
        · rw [ix_get _ _ (by omega), ix_get _ _ (by omega)] at h2
          have e1 : xs[i + d + 1 - 1] = xs[i + d] := by congr 1
          have e2 : xs[i + d + 1] = xs[i + (d + 1)] := by congr 1
          omega
    rw [List.pairwise_iff_getElem]
    intro i j hi hj hij
    have := hs (j - i) i (by omega)
    have e : xs[i + (j - i)] = xs[j] := by congr 1; omega
    omega
  · intro h i hi
    have hi : i < xs.length := by simpa using hi
    rw [Bool.or_eq_true, decide_eq_true_eq, decide_eq_true_eq]
    by_cases h0 : i = 0
    · exact Or.inl h0
    · right
      rw [ix_get _ _ (by omega), ix_get _ _ hi]
      exact List.pairwise_iff_getElem.1 h (i - 1) i (by omega) hi (by omega)
theorem below_drew1 (N : Nat) (w : World) : Below N w w.drew := ⟨rfl, rfl, rfl, Nat.le_refl _, fun _ _ => rfl⟩
set_option maxHeartbeats 1000000 in
theorem sorted_any (xs : List Int) (r : Bool) (hs : srtB xs = r) (v : Value) (w : World) (hv : IntsAt w v xs) (hl : xs.length ≤ 1000000) :
    Calls Try.prog 41 #[v] w fun e w' => e = .returned (.bool r) ∧ Below w.heap.size w w' := by
  have HV := Lib.hid hv
  obtain ⟨a, cap, rfl⟩ := hv.slice
  have HS := Lib.hid hs
  clear hv hs
  go_enter Try.func41, Try.ntmps41
  go_wp2
  go_loopw [3] (fun i wr => ∃ k : Nat, k ≤ xs.length ∧ i = .int .i64 ((k : Int) - 1) ∧ Below w.heap.size w wr ∧ ∀ i, k ≤ i → i < xs.length → (i = 0 ∨ ix xs (i - 1) ≤ ix xs i)) (fun i _ => (intOf i + 1).toNat)
  case atStart => exact ⟨xs.length, Nat.le_refl _, rfl, Below.refl _ _, fun i h1 h2 => by omega⟩
  case round =>
    obtain ⟨k, hk, rfl, hB, hd⟩ := hrel
    obtain ⟨wk, rfl⟩ : ∃ x, x = wr := ⟨_, rfl⟩
    by_cases hlt : 2 ≤ k
    · obtain ⟨j, rfl⟩ : ∃ j, k = j + 2 := ⟨k - 2, by omega⟩
      obtain ⟨b, off, rfl, hbb, q1⟩ := HV.out.elem (j := j + 1) (by omega)
      obtain ⟨b', off', e', _, q2⟩ := HV.out.elem (j := j) (by omega)
      cases e'
      have c1 := (hB.cell (p := ⟨b, off + (j + 1), none⟩) hbb).trans q1
      have c2 := (hB.cell (p := ⟨b, off + j, none⟩) hbb).trans q2
      have e1 : ix xs (j + 1) = xs[j + 1] := ix_get _ _ (by omega)
      have e2 : ix xs j = xs[j] := ix_get _ _ (by omega)
      obtain ⟨x, hx⟩ : ∃ x, xs[j + 1] = x := ⟨_, rfl⟩
      obtain ⟨y, hy⟩ : ∃ y, xs[j] = y := ⟨_, rfl⟩
      rw [hx] at c1 e1
      rw [hy] at c2 e2
      obtain ⟨nl, hnl⟩ : ∃ q, decide (x < y) = q := ⟨_, rfl⟩
      have HNL := Lib.hid hnl
      have HB := Lib.hid hB
      have HD := Lib.hid hd
      have HE := Lib.hid (And.intro e1 e2)
      obtain ⟨i, hi⟩ : ∃ i, j + 1 = i := ⟨_, rfl⟩
      have hi1 : ((j + 2 : Nat) : Int) - 1 = (i : Int) := by omega
      have hwr : IntKind.i64.wrap ((i : Int) - 1) = (j : Int) := by rw [show (i : Int) - 1 = j by omega]; exact IntWalk.i64_in _ (by omega)
      have hb1 : (0 : Int) ≤ (i : Int) := by omega
      have hb2 : (i : Int) < (xs.length : Int) := by omega
      have hb3 : (0 : Int) ≤ (j : Int) := by omega
      have hb4 : (j : Int) < (xs.length : Int) := by omega
      have hb5 : (0 : Int) < (i : Int) := by omega
      have HIJ := Lib.hid hi
      rw [hi1]
      rw [hi] at c1
      have HLE := Lib.hid hk
      clear q1 q2 hx hy hnl hB hi1 hi hk hlt hd e1 e2
      go_wp2_with fail
      go_region_held3 (fun w' => w'.cell? ⟨b, off + i, none⟩ = some (intV x) ∧ w'.cell? ⟨b, off + j, none⟩ = some (intV y))
        (first | exact ⟨c1, c2⟩ | assumption)
        (first | ((try go_simp); go_at_call 62; refine (less_any x y nl HNL.out _).mono ?_; rintro e w5 ⟨rfl, rfl⟩) | (trace_state; sorry))
      all_goals
        cases nl with
        | true =>
          go_wp2
          go_ret
          refine ⟨ret_bool ?_, HB.out.trans (below_drew1 _ _)⟩
          have h1 := HNL.out
          rw [decide_eq_true_eq] at h1
          rw [← HS.out]
          cases hq : srtB xs with
          | false => rfl
          | true =>
            have h2 := (List.all_eq_true.1 hq) i (by have := HIJ.out; have := HLE.out; simp; omega)
            have h3 := HIJ.out
            subst h3
            rw [Bool.or_eq_true, decide_eq_true_eq, decide_eq_true_eq] at h2
            rcases h2 with h2 | h2
            · omega
            · rw [Nat.add_sub_cancel, HE.out.1, HE.out.2] at h2; omega
        | false =>
          go_wp2
          go_roundw
          case rel =>
            have h3 := HIJ.out
            have h1 := HNL.out
            rw [decide_eq_false_iff_not] at h1
            refine ⟨i, by have := HLE.out; omega, by congr 1; omega, HB.out.trans (below_drew1 _ _), fun q h4 h5 => ?_⟩
            by_cases hq : q = i
            · subst hq
              subst h3
              right
              rw [Nat.add_sub_cancel, HE.out.1, HE.out.2]; omega
            · exact HD.out q (by omega) h5
          case measure => have := HIJ.out; simp [intOf]; omega
    · have HD := Lib.hid hd
      have HS2 := Lib.hid (show srtB xs = true by
        unfold srtB
        rw [List.all_eq_true]
        intro i hi
        have hi : i < xs.length := by simpa using hi
        rw [Bool.or_eq_true, decide_eq_true_eq, decide_eq_true_eq]
        by_cases h : i = 0
        · exact Or.inl h
        · exact hd i (by omega) hi)
      clear hd
      go_wp2
      go_ret
      exact ⟨ret_bool (by rw [← HS.out, HS2.out]), hB⟩
end Go.Proofs.Yteceahbnafaeoaa
