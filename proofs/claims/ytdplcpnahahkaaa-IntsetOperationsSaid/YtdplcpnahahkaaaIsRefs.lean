/- The reference's Check, Has, bad, Great, GreatLists; Equal, Index, Contains of the library. -/
import Derived.Test.YtdplcpnahahkaaaIsMark
namespace Go.Proofs.Ytdplcpnahahkaaa
set_option linter.unusedSimpArgs false
set_option linter.unusedVariables false
set_option maxRecDepth 100000
open Go.RowKit Go.Deep

theorem int_news (W : World) (c : Int) (t : TypeId) (n : Nat) (h : n = W.heap.size) : ∀ j u, [Value.int .i64 c][j]? = some u → (W.alloc (.cells #[.int .i64 c] t)).cell? ((⟨n, 0, none⟩ : Addr).add j) = some u := by
  intro j u hj
  subst h
  match j, hj with
  | 0, hj => simp at hj; subst hj; simp [Addr.add]
theorem own_below {w wr w1 : World} {base : Nat} {e : TypeId} {size n : Nat} {v : Value} {xs : List Value} {o : Obj} (hB : Below base w wr) (hb : base ≤ wr.heap.size) (hown : wr.ownsRow base e size v n xs) (hg : (wr.alloc o).grownBy w1 v.ownBlock) : Below base w w1 :=
  (hB.alloc hb o).grown hg (by simp; omega) (fun k hk => (hown.lt k hk).1)
theorem take_succ_int (zs : List Int) (k : Nat) (h : k < zs.length) : zs.take (k + 1) = zs.take k ++ [zs[k]] := List.take_succ_eq_append_getElem h

set_option maxHeartbeats 1000000 in
theorem refCheck_any (xs : List Int) (v : Value) (w : World) (hv : IntsAt w v xs) (hl : xs.length ≤ 1000000) :
    Calls Try.prog 21 #[v] w fun e w' => e = .returned (intV (errL xs)) ∧ ∃ m, w' = w.drewN m := by
  obtain ⟨a, cap, rfl, hc⟩ := hv
  have HC := Lib.hid hc
  clear hc
  obtain ⟨res, hres⟩ : ∃ res, errL xs = res := ⟨_, rfl⟩
  rw [hres]
  have HR := Lib.hid hres
  clear hres
  go_enter Try.func21, Try.ntmps21
  go_wp2
  go_loopw [3] (fun i wr => ∃ k m : Nat, k ≤ xs.length ∧ i = .int .i64 k ∧ wr = w.drewN m ∧ errFrom (prevA xs k) (xs.drop k) = res) (fun i _ => xs.length - (intOf i).toNat)
  case atStart => exact ⟨0, 0, Nat.zero_le _, rfl, rfl, HR.out⟩
  case round =>
    obtain ⟨k, m, hk, rfl, hwr, he⟩ := hrel
    have HW := Lib.hid hwr
    obtain ⟨wk, rfl⟩ : ∃ x, x = wr := ⟨_, rfl⟩
    by_cases hlt : k < xs.length
    · obtain ⟨b, off, rfl, hbb, hcs⟩ := HC.out (by omega)
      have hcell : wk.cell? ⟨b, off + k, none⟩ = some (.int .i64 xs[k]) := by rw [hwr]; exact hcs k hlt
      have hprev : 0 < (k : Int) → wk.cell? ⟨b, off + (k - 1), none⟩ = some (.int .i64 (prevA xs k)) := fun h0 => by
        rw [hwr, show (w.drewN m).cell? ⟨b, off + (k - 1), none⟩ = _ from hcs (k - 1) (by omega), prevA, if_neg (by omega), List.getD_eq_getElem?_getD, List.getElem?_eq_getElem (by omega)]; rfl
      rw [err_step xs k hlt] at he
      clear hcs hwr
      have hki : (k : Int) < (xs.length : Int) := by omega
      obtain ⟨x, hx⟩ : ∃ x, xs[k] = x := ⟨_, rfl⟩
      obtain ⟨p, hp⟩ : ∃ p, prevA xs k = p := ⟨_, rfl⟩
      have hp0 : k = 0 → p = -1 := fun h => by rw [← hp, h]; rfl
      rw [hx] at hcell he
      rw [hp] at hprev he
      clear hx hp
      by_cases h1 : x < 0 ∨ 63 < x
      · rw [if_pos h1] at he
        subst he
        clear hprev hp0
        rcases (show x < 0 ∨ (0 ≤ x ∧ 63 < x) by omega) with h1 | ⟨h0, h1⟩
        all_goals
          go_wp2
          go_ret
          exact ⟨rfl, _, HW.out⟩
      · rw [if_neg h1] at he
        obtain ⟨x0, x1⟩ : 0 ≤ x ∧ x ≤ 63 := by omega
        clear h1
        rcases Nat.eq_zero_or_pos k with h0 | h0
        · have hp1 := hp0 h0
          subst hp1
          rw [if_neg (by omega)] at he
          have HE := Lib.hid he
          have hk0 : decide ((0 : Int) < (k : Int)) = false := by rw [decide_eq_false_iff_not]; omega
          have hk1 : decide (0 < k) = false := by rw [decide_eq_false_iff_not]; omega
          clear he hprev hp0 h0
          go_wp2
          go_quiet (fail)
          go_wp2
          go_roundw
          case rel => exact ⟨k + 1, _, by omega, by go_num, by rw [HW.out, World.drewN_drewN], HE.out⟩
          case measure => simp [intOf]; omega
        · have hp2 := hprev (by omega)
          have hk1 : (k : Int) - 1 = ((k - 1 : Nat) : Int) := by omega
          have hkp : (0 : Int) < k := by omega
          have hkl : ((k - 1 : Nat) : Int) < (xs.length : Int) := by omega
          have hw1 : IntKind.i64.wrap ((k - 1 : Nat) : Int) = ((k - 1 : Nat) : Int) := IntWalk.i64_in _ (by omega)
          by_cases h2 : x ≤ p
          · rw [if_pos h2] at he
            subst he
            clear hprev hp0
            go_wp2
            go_quiet (fail)
            go_wp2
            go_ret
            exact ⟨rfl, _, by rw [HW.out, World.drewN_drewN]⟩
          · rw [if_neg h2] at he
            have HE := Lib.hid he
            have h2' : decide (x ≤ p) = false := by rw [decide_eq_false_iff_not]; exact h2
            clear he hprev hp0
            go_wp2
            go_quiet (fail)
            go_wp2
            go_roundw
            case rel => exact ⟨k + 1, _, by omega, by go_num, by rw [HW.out, World.drewN_drewN], HE.out⟩
            case measure => simp [intOf]; omega
    · obtain rfl : k = xs.length := by omega
      rw [List.drop_length] at he
      have HE := Lib.hid he
      clear he
      go_wp2
      go_ret
      exact ⟨ret_int HE.out, _, rfl⟩

set_option maxHeartbeats 1000000 in
theorem refHas_any (xs : List Int) (y : Int) (r : Bool) (hr : decide (y ∈ xs) = r) (v : Value) (w : World) (hv : IntsAt w v xs) (hl : xs.length ≤ 1000000) :
    Calls Try.prog 46 #[v, intV y] w fun e w' => e = .returned (.bool r) ∧ w = w' := by
  obtain ⟨a, cap, rfl, hc⟩ := hv
  have HC := Lib.hid hc
  have HR := Lib.hid hr
  clear hc hr
  go_enter Try.func46, Try.ntmps46
  go_wp2
  go_loop [5] (fun i => ∃ k : Nat, k ≤ xs.length ∧ i = .int .i64 k ∧ y ∉ xs.take k) (fun i => xs.length - (intOf i).toNat)
  case atStart => exact ⟨0, Nat.zero_le _, rfl, by simp⟩
  case round =>
    obtain ⟨k, hk, rfl, hn⟩ := hrel
    have HN := Lib.hid hn
    clear hn
    by_cases hlt : k < xs.length
    · obtain ⟨b, off, rfl, hbb, hcs⟩ := HC.out (by omega)
      have hcell := hcs k hlt
      have HT := Lib.hid (take_succ_int xs k hlt)
      have HM := Lib.hid (List.getElem_mem hlt)
      clear hcs
      obtain ⟨x, hx⟩ : ∃ x, xs[k] = x := ⟨_, rfl⟩
      rw [hx] at hcell HT HM
      clear hx
      by_cases h : x = y
      · subst h
        go_wp2
        go_ret
        exact ⟨ret_bool (by rw [← HR.out, eq_comm, decide_eq_true_eq]; exact HM.out), rfl⟩
      · go_wp2
        go_round
        case rel =>
          refine ⟨k + 1, by omega, by go_num, ?_⟩
          rw [HT.out]
          intro hm
          rcases List.mem_append.1 hm with h' | h'
          · exact HN.out h'
          · simp at h'; exact h h'.symm
        case measure => simp [intOf]; omega
    · obtain rfl : k = xs.length := by omega
      go_wp2
      go_ret
      refine ⟨ret_bool ?_, rfl⟩
      have := HN.out
      rw [List.take_length] at this
      rw [← HR.out, eq_comm, decide_eq_false_iff_not]; exact this

set_option maxHeartbeats 1000000 in
theorem bad_any (xs ys : List Int) (r : Bool) (hr : decide (errL xs ≠ 0 ∨ errL ys ≠ 0) = r) (vx vy : Value) (w : World) (hx : IntsAt w vx xs) (hy : IntsAt w vy ys) (lx : xs.length ≤ 1000000) (ly : ys.length ≤ 1000000) :
    Calls Try.prog 55 #[vx, vy] w fun e w' => e = .returned (.bool r) ∧ ∃ m, w' = w.drewN m := by
  have C1 := Lib.hid (refCheck_any xs vx w hx lx)
  have C2 := Lib.hid (fun m => refCheck_any ys vy (w.drewN m) (hy.below (below_drewN w m)) ly)
  have HR := Lib.hid hr
  obtain ⟨ax, cx, rfl, _⟩ := hx
  obtain ⟨ay, cy, rfl, _⟩ := hy
  clear hr
  obtain ⟨e1, h1⟩ : ∃ e, errL xs = e := ⟨_, rfl⟩
  obtain ⟨e2, h2⟩ : ∃ e, errL ys = e := ⟨_, rfl⟩
  rw [h1] at C1 HR
  rw [h2] at C2 HR
  clear h1 h2
  by_cases h : e1 = 0
  · subst h
    go_enter Try.func55, Try.ntmps55
    go_wp2_with fail
    refine C1.out.mono ?_
    rintro e w1 ⟨rfl, m, rfl⟩
    go_wp2_with fail
    refine (C2.out m).mono ?_
    rintro e w1 ⟨rfl, m2, rfl⟩
    go_wp2
    go_ret
    exact ⟨ret_bool (by rw [← HR.out, Bool.eq_iff_iff]; simp), _, rfl⟩
  · have h' : (e1 != 0) = true := by rw [bne_iff_ne]; exact h
    go_enter Try.func55, Try.ntmps55
    go_wp2_with fail
    refine C1.out.mono ?_
    rintro e w1 ⟨rfl, m, rfl⟩
    go_wp2
    go_ret
    exact ⟨ret_bool (by rw [← HR.out, Bool.eq_iff_iff]; simp [h]), _, rfl⟩

set_option maxHeartbeats 1000000 in
theorem equal_any (xs ys : List Int) (r : Bool) (hr : decide (xs = ys) = r) (vx vy : Value) (w : World) (hx : IntsAt w vx xs) (hy : IntsAt w vy ys) (lx : xs.length ≤ 1000000) (ly : ys.length ≤ 1000000) :
    Calls Try.prog 22 #[vx, vy] w fun e w' => e = .returned (.bool r) ∧ ∃ m, w' = w.drewN m := by
  obtain ⟨ax, cx, rfl, hcx⟩ := hx
  obtain ⟨ay, cy, rfl, hcy⟩ := hy
  have HX := Lib.hid hcx
  have HY := Lib.hid hcy
  have HR := Lib.hid hr
  clear hcx hcy hr
  by_cases hlen : xs.length = ys.length
  · have hli : ((xs.length : Int) != (ys.length : Int)) = false := by rw [hlen]; simp
    have HLEN := Lib.hid hlen
    clear hlen
    go_enter Try.func22, Try.ntmps22
    go_wp2
    clear hli
    go_loopw [13] (fun i wr => ∃ k m : Nat, k ≤ xs.length ∧ i = .int .i64 k ∧ wr = w.drewN m ∧ xs.take k = ys.take k) (fun i _ => xs.length - (intOf i).toNat)
    case atStart => exact ⟨0, 0, Nat.zero_le _, rfl, rfl, by simp⟩
    case round =>
      obtain ⟨k, m, hk, rfl, hwr, ht⟩ := hrel
      have HW := Lib.hid hwr
      obtain ⟨wk, rfl⟩ : ∃ x, x = wr := ⟨_, rfl⟩
      have HT := Lib.hid ht
      clear ht
      by_cases hlt : k < xs.length
      · obtain ⟨b, off, rfl, hbb, hcs⟩ := HX.out (by omega)
        obtain ⟨b', off', rfl, hbb', hcs'⟩ := HY.out (by have := HLEN.out; omega)
        have hlt2 : k < ys.length := by have := HLEN.out; omega
        have hcell : wk.cell? ⟨b, off + k, none⟩ = some (.int .i64 xs[k]) := by rw [hwr]; exact hcs k hlt
        have hcell' : wk.cell? ⟨b', off' + k, none⟩ = some (.int .i64 (ys[k])) := by rw [hwr]; exact hcs' k hlt2
        have HT1 := Lib.hid (take_succ_int xs k hlt)
        have HT2 := Lib.hid (take_succ_int ys k hlt2)
        have HG := Lib.hid (show xs = ys → xs[k] = ys[k] from fun e => by subst e; rfl)
        clear hcs hcs' hwr
        obtain ⟨x, hx⟩ : ∃ x, xs[k] = x := ⟨_, rfl⟩
        obtain ⟨y, hy⟩ : ∃ y, ys[k] = y := ⟨_, rfl⟩
        rw [hx] at hcell HT1 HG
        rw [hy] at hcell' HT2 HG
        clear hx hy
        have hki : (k : Int) < (xs.length : Int) := by omega
        have hkj : (k : Int) < (ys.length : Int) := by omega
        by_cases h : x = y
        · subst h
          go_wp2_with fail
          go_quiet (fail)
          go_wp2
          go_roundw
          case rel => exact ⟨k + 1, _, by omega, by go_num, by rw [HW.out, World.drewN_drewN], by rw [HT1.out, HT2.out, HT.out]⟩
          case measure => simp [intOf]; omega
        · have h' : (x != y) = true := by rw [bne_iff_ne]; exact h
          go_wp2_with fail
          go_quiet (fail)
          go_wp2
          go_ret
          exact ⟨ret_bool (by rw [← HR.out, eq_comm, decide_eq_false_iff_not]; exact fun e => h (HG.out e)), _, by rw [HW.out, World.drewN_drewN]⟩
      · obtain rfl : k = xs.length := by omega
        go_wp2
        go_ret
        refine ⟨ret_bool ?_, _, rfl⟩
        have := HT.out
        rw [List.take_length, HLEN.out, List.take_length] at this
        rw [← HR.out, eq_comm, decide_eq_true_eq]; exact this
  · have hli : ((xs.length : Int) != (ys.length : Int)) = true := by rw [bne_iff_ne]; omega
    go_enter Try.func22, Try.ntmps22
    go_wp2
    go_ret
    exact ⟨ret_bool (by rw [← HR.out, eq_comm, decide_eq_false_iff_not]; intro e; rw [e] at hlen; exact hlen rfl), 0, rfl⟩

/-- the place of the first y in xs, or -1 -/
def idxL (y : Int) (xs : List Int) : Int := if y ∈ xs then (xs.idxOf y : Nat) else -1
set_option maxHeartbeats 1000000 in
theorem contains_any (xs : List Int) (y : Int) (r : Bool) (hr : decide (y ∈ xs) = r) (v : Value) (w : World) (hv : IntsAt w v xs) (hl : xs.length ≤ 1000000) :
    Calls Try.prog 34 #[v, intV y] w fun e w' => e = .returned (.bool r) ∧ w = w' := by
  have hidx : Calls Try.prog 63 #[v, intV y] w fun e w' => (∃ i : Int, e = .returned (intV i) ∧ decide (0 ≤ i) = r) ∧ w = w' := by
    obtain ⟨a, cap, rfl, hc⟩ := hv
    have HC := Lib.hid hc
    have HR := Lib.hid hr
    clear hc hr
    go_enter Try.func63, Try.ntmps63
    go_wp2
    go_loop [8] (fun i => ∃ k : Nat, k ≤ xs.length ∧ i = .int .i64 k ∧ y ∉ xs.take k) (fun i => xs.length - (intOf i).toNat)
    case atStart => exact ⟨0, Nat.zero_le _, rfl, by simp⟩
    case round =>
      obtain ⟨k, hk, rfl, hn⟩ := hrel
      have HN := Lib.hid hn
      clear hn
      by_cases hlt : k < xs.length
      · obtain ⟨b, off, rfl, hbb, hcs⟩ := HC.out (by omega)
        have hcell := hcs k hlt
        have HT := Lib.hid (take_succ_int xs k hlt)
        have HM := Lib.hid (List.getElem_mem hlt)
        clear hcs
        obtain ⟨x, hx⟩ : ∃ x, xs[k] = x := ⟨_, rfl⟩
        rw [hx] at hcell HT HM
        clear hx
        by_cases h : y = x
        · subst h
          go_wp2
          go_ret
          exact ⟨⟨_, rfl, by rw [← HR.out]; apply decide_eq_decide.2; exact ⟨fun _ => HM.out, fun _ => by omega⟩⟩, rfl⟩
        · go_wp2
          go_round
          case rel =>
            refine ⟨k + 1, by omega, by go_num, ?_⟩
            rw [HT.out]
            intro hm
            rcases List.mem_append.1 hm with h' | h'
            · exact HN.out h'
            · simp at h'; exact h h'
          case measure => simp [intOf]; omega
      · obtain rfl : k = xs.length := by omega
        go_wp2
        go_ret
        refine ⟨⟨_, rfl, ?_⟩, rfl⟩
        have := HN.out
        rw [List.take_length] at this
        rw [← HR.out]; apply decide_eq_decide.2; exact ⟨fun h => absurd h (by decide), fun h => absurd h this⟩
  obtain ⟨a, cap, rfl, _⟩ := hv
  have HI := Lib.hid hidx
  clear hidx hr
  go_enter Try.func34, Try.ntmps34
  go_wp2_with fail
  refine HI.out.mono ?_
  rintro e w1 ⟨⟨i, rfl, hi⟩, rfl⟩
  have HD := Lib.hid hi
  clear hi
  go_wp2
  go_ret
  exact ⟨ret_bool HD.out, rfl⟩

set_option maxHeartbeats 400000 in
theorem great_any (xs : List Int) (r : Bool) (hr : decide (12 < xs.length) = r) (v : Value) (w : World) (hv : IntsAt w v xs) :
    Calls Try.prog 11 #[v] w fun e w' => e = .returned (.bool r) ∧ w = w' := by
  obtain ⟨a, cap, rfl, _⟩ := hv
  have HR := Lib.hid hr
  clear hr
  go_enter Try.func11, Try.ntmps11
  go_wp2
  go_ret
  exact ⟨ret_bool (by rw [← HR.out]; apply decide_eq_decide.2; omega), rfl⟩
/-- what lists are too large for the statements -/
def greatL (L : List (List Int)) : Bool := decide (20 < L.length ∨ ∃ l ∈ L, 12 < l.length ∨ (7 < L.length ∧ (L.length ≤ 16 ∨ 0 < l.length)))
set_option maxHeartbeats 1000000 in
theorem greatLists_any (L : List (List Int)) (r : Bool) (hr : greatL L = r) (v : Value) (w : World) (hv : ListsAt w v L) :
    Calls Try.prog 12 #[v] w fun e w' => e = .returned (.bool r) ∧ w = w' := by
  obtain ⟨a, cap, rfl, _⟩ := id hv
  have HV := Lib.hid hv
  have HR := Lib.hid hr
  clear hv hr
  by_cases h20 : 20 < L.length
  · have h20' : (20 : Int) < (L.length : Int) := by omega
    go_enter Try.func12, Try.ntmps12
    go_wp2
    go_ret
    exact ⟨ret_bool (by rw [← HR.out, greatL, eq_comm, decide_eq_true_eq]; exact .inl h20), rfl⟩
  · go_enter Try.func12, Try.ntmps12
    go_wp2
    go_loop [3] (fun i => ∃ k : Nat, k ≤ L.length ∧ i = .int .i64 k ∧ ∀ l ∈ L.take k, ¬ (12 < l.length ∨ (7 < L.length ∧ (L.length ≤ 16 ∨ 0 < l.length)))) (fun i => L.length - (intOf i).toNat)
    case atStart => exact ⟨0, Nat.zero_le _, rfl, by simp⟩
    case round =>
      obtain ⟨k, hk, rfl, ha⟩ := hrel
      have HA := Lib.hid ha
      clear ha
      by_cases hlt : k < L.length
      · obtain ⟨b, off, u, c, rfl, hb, hcell, hx⟩ := HV.out.elem hlt
        have HT := Lib.hid (List.take_succ_eq_append_getElem hlt)
        have HM := Lib.hid (List.getElem_mem hlt)
        obtain ⟨x, hxx⟩ : ∃ x, L[k] = x := ⟨_, rfl⟩
        rw [hxx] at hcell hx HT HM
        clear hxx
        have hbad : (12 < x.length ∨ (7 < L.length ∧ (L.length ≤ 16 ∨ 0 < x.length))) → true = r := fun h => by
          rw [← HR.out, greatL, eq_comm, decide_eq_true_eq]; exact .inr ⟨x, HM.out, h⟩
        have HBAD := Lib.hid hbad
        clear hbad
        rcases (show 12 < x.length ∨ (x.length ≤ 12 ∧ 7 < L.length ∧ L.length ≤ 16) ∨ (x.length ≤ 12 ∧ 7 < L.length ∧ 16 < L.length ∧ 0 < x.length) ∨ (x.length ≤ 12 ∧ 7 < L.length ∧ 16 < L.length ∧ x.length ≤ 0) ∨ (x.length ≤ 12 ∧ L.length ≤ 7) by omega) with h | ⟨h, h1, h2⟩ | ⟨h, h1, h2, h3⟩ | ⟨h, h1, h2, h3⟩ | ⟨h, h1⟩
        · have G := Lib.hid (great_any x true (by simpa using h) _ w hx)
          clear hx
          go_wp2_with fail
          refine G.out.mono ?_
          rintro e w1 ⟨rfl, rfl⟩
          go_wp2
          go_ret
          exact ⟨ret_bool (HBAD.out (by omega)), rfl⟩
        · have G := Lib.hid (great_any x false (by simpa using h) _ w hx)
          clear hx
          go_wp2_with fail
          refine G.out.mono ?_
          rintro e w1 ⟨rfl, rfl⟩
          go_wp2
          go_ret
          exact ⟨ret_bool (HBAD.out (by omega)), rfl⟩
        · have G := Lib.hid (great_any x false (by simpa using h) _ w hx)
          clear hx
          go_wp2_with fail
          refine G.out.mono ?_
          rintro e w1 ⟨rfl, rfl⟩
          go_wp2
          go_ret
          exact ⟨ret_bool (HBAD.out (by omega)), rfl⟩
        · have G := Lib.hid (great_any x false (by simpa using h) _ w hx)
          clear hx
          go_wp2_with fail
          refine G.out.mono ?_
          rintro e w1 ⟨rfl, rfl⟩
          go_wp2
          go_round
          case rel =>
            refine ⟨k + 1, by omega, by go_num, ?_⟩
            rw [HT.out]
            intro l hl
            rcases List.mem_append.1 hl with h' | h'
            · exact HA.out l h'
            · simp at h'; rw [h']; omega
          case measure => simp [intOf]; omega
        · have G := Lib.hid (great_any x false (by simpa using h) _ w hx)
          clear hx
          go_wp2_with fail
          refine G.out.mono ?_
          rintro e w1 ⟨rfl, rfl⟩
          go_wp2
          go_round
          case rel =>
            refine ⟨k + 1, by omega, by go_num, ?_⟩
            rw [HT.out]
            intro l hl
            rcases List.mem_append.1 hl with h' | h'
            · exact HA.out l h'
            · simp at h'; rw [h']; omega
          case measure => simp [intOf]; omega
      · obtain rfl : k = L.length := by omega
        go_wp2
        go_ret
        refine ⟨ret_bool ?_, rfl⟩
        have := HA.out
        rw [List.take_length] at this
        rw [← HR.out, greatL, eq_comm, decide_eq_false_iff_not]
        rintro (h | ⟨l, hl, h⟩)
        · exact h20 h
        · exact this l hl h
end Go.Proofs.Ytdplcpnahahkaaa
