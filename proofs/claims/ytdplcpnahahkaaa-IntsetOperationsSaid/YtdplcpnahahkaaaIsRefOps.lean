/- The reference's Of, Union, Intersect, Minus, Complement, Within. -/
import Derived.Test.YtdplcpnahahkaaaIsRefs
import Derived.Maps.AppendAt
namespace Go.Proofs.Ytdplcpnahahkaaa
set_option linter.unusedSimpArgs false
set_option linter.unusedVariables false
set_option maxRecDepth 100000
open Go.RowKit Go.Deep

theorem own_done {w wr : World} {o : Value} {xs : List Int} {n : Nat} {r : List Int × Int} {k : Int} (h : wr.ownsRow w.heap.size 3 1 o n (xs.map intV)) (hB : Below w.heap.size w wr) (hr : r = (xs, k)) : ListPost r w (.returned (.tuple #[o, intV k])) wr :=
  ListPost.good hr (IntsAt.of_own h) hB
theorem own_more {wr : World} {base : Nat} {o : Value} {xs ys : List Int} {x : Int} {n : Nat} (h : wr.ownsRow base 3 1 o n (xs.map intV ++ [Value.int .i64 x])) (hy : ys = xs ++ [x]) (hn : n = ys.length) : wr.ownsRow base 3 1 o ys.length (ys.map intV) := by
  subst hn; rw [hy] at h ⊢; simpa using h
theorem filt_succ (p : Int → Bool) (xs : List Int) (k : Nat) (h : k < xs.length) : (xs.take (k + 1)).filter p = if p xs[k] = true then (xs.take k).filter p ++ [xs[k]] else (xs.take k).filter p := by
  rw [take_succ_int xs k h, List.filter_append]
  by_cases hp : p xs[k] = true
  · rw [if_pos hp, List.filter_cons_of_pos hp]; rfl
  · rw [if_neg hp, List.filter_cons_of_neg hp]; simp
theorem filt_sel (f : Bool → Bool) (xs ys : List Int) (h : errL xs = 0) : xs.filter (fun x => f (decide (x ∈ ys))) = sel 64 fun i => has xs i && f (has ys i) := by
  obtain ⟨a, b⟩ := (err_iff xs).1 h
  refine sorted_ext _ _ (List.Pairwise.filter _ a) (sel_sorted _ _) fun x => ?_
  rw [mem_sel, List.mem_filter]
  constructor
  · rintro ⟨hx, hf⟩
    have := b x hx
    have e : ((x.toNat : Nat) : Int) = x := by omega
    exact ⟨x.toNat, by omega, by rw [has, has, e]; simp [hx, hf], by omega⟩
  · rintro ⟨i, _, h, rfl⟩
    simpa [has] using h
theorem last_max {xs : List Int} (h : errL xs = 0) (h0 : 0 < xs.length) (n : Int) : (∃ x ∈ xs, n ≤ x) ↔ n ≤ xs[xs.length - 1] := by
  obtain ⟨a, b⟩ := (err_iff xs).1 h
  constructor
  · rintro ⟨x, hx, hn⟩
    obtain ⟨j, hj, rfl⟩ := List.getElem_of_mem hx
    by_cases hjl : j = xs.length - 1
    · subst hjl; exact hn
    · have := List.pairwise_iff_getElem.1 a j (xs.length - 1) hj (by omega) (by omega)
      omega
  · intro hn
    exact ⟨_, List.getElem_mem (by omega), hn⟩

set_option maxHeartbeats 2000000 in
theorem refUnion_any (xs ys : List Int) (r : List Int × Int) (hr : opR orB xs ys = r) (vx vy : Value) (w : World) (hx : IntsAt w vx xs) (hy : IntsAt w vy ys) (lx : xs.length ≤ 1000000) (ly : ys.length ≤ 1000000) :
    Calls Try.prog 24 #[vx, vy] w (ListPost r w) := by
  obtain ⟨i0, hi, hz0, hz1, hz2⟩ := info_parts info_int
  have HX := Lib.hid hx
  have HY := Lib.hid hy
  have HR := Lib.hid hr
  clear hr
  by_cases hbad : errL xs ≠ 0 ∨ errL ys ≠ 0
  · have HBD := Lib.hid (bad_any xs ys true (by simpa using hbad) vx vy w hx hy lx ly)
    have HRR := Lib.hid (show r = ([], 1) by rw [← HR.out, opR, if_pos hbad])
    obtain ⟨ax, cx, rfl, _⟩ := hx
    obtain ⟨ay, cy, rfl, _⟩ := hy
    clear hbad HX HY HR hi hz0 hz1 hz2
    go_enter Try.func24, Try.ntmps24
    go_wp2_with fail
    refine HBD.out.mono ?_
    rintro e w1 ⟨rfl, m, rfl⟩
    go_wp2
    go_ret2
    exact ListPost.bad HRR.out (below_drewN _ _)
  · have HBD := Lib.hid (bad_any xs ys false (by rw [decide_eq_false_iff_not]; exact hbad) vx vy w hx hy lx ly)
    have he : errL xs = 0 := by omega
    have HRR := Lib.hid (show r = (sel 64 fun i => orB (has xs i) (has ys i), 0) by rw [← HR.out, opR, if_neg hbad])
    obtain ⟨ax, cx, rfl, hcx⟩ := hx
    obtain ⟨ay, cy, rfl, _⟩ := hy
    have HC := Lib.hid hcx
    clear hbad HR he hcx
    go_enter Try.func24, Try.ntmps24
    go_wp2_with fail
    refine HBD.out.mono ?_
    rintro e w1 ⟨rfl, m, rfl⟩
    clear HBD
    go_wp2
    go_loopw [6, 7] (fun o i wr => ∃ k : Nat, k ≤ 64 ∧ i = .int .i64 k ∧ wr.ownsRow w.heap.size 3 1 o (sel k fun i => orB (has xs i) (has ys i)).length ((sel k fun i => orB (has xs i) (has ys i)).map intV) ∧ Below w.heap.size w wr)
      (fun _ i _ => 64 - (intOf i).toNat)
    case atStart => exact ⟨0, Nat.zero_le _, rfl, World.ownsRow_lit _ #[] 0 (Nat.le_refl _) (by simp [maxLen]) rfl, (below_drewN_n _ _ _).alloc (Nat.le_refl _) _⟩
    case round =>
      obtain ⟨k, hk, rfl, hown, hB⟩ := hrel
      obtain ⟨wk, rfl⟩ : ∃ x, x = wr := ⟨_, rfl⟩
      have HO := Lib.hid hown
      have HB := Lib.hid hB
      have hlen := sel_len k (fun i => orB (has xs i) (has ys i))
      have HS := Lib.hid (sel_succ k (fun i => orB (has xs i) (has ys i)))
      clear hown
      by_cases hlt : k < 64
      · have C1 := Lib.hid (refHas_any xs k (has xs k) rfl _ wk (HX.out.below hB) lx)
        have C2 := Lib.hid (refHas_any ys k (has ys k) rfl _ wk (HY.out.below hB) ly)
        clear hB
        obtain ⟨p, hp⟩ : ∃ p, has xs k = p := ⟨_, rfl⟩
        obtain ⟨q, hq⟩ : ∃ q, has ys k = q := ⟨_, rfl⟩
        rw [hp] at C1 HS
        rw [hq] at C2 HS
        clear hp hq
        obtain ⟨S, hS⟩ : ∃ S, sel k (fun i => orB (has xs i) (has ys i)) = S := ⟨_, rfl⟩
        rw [hS] at HS HO hlen
        clear hS
        cases p
        · cases q
          · go_wp2_with fail
            refine C1.out.mono ?_
            rintro e w1 ⟨rfl, rfl⟩
            go_wp2_with fail
            refine C2.out.mono ?_
            rintro e w1 ⟨rfl, rfl⟩
            go_wp2
            go_roundw
            case rel => exact ⟨k + 1, by omega, by go_num, by rw [HS.out]; exact HO.out, HB.out⟩
            case measure => simp [intOf]; omega
          · go_wp2_with fail
            refine C1.out.mono ?_
            rintro e w1 ⟨rfl, rfl⟩
            go_wp2_with fail
            refine C2.out.mono ?_
            rintro e w1 ⟨rfl, rfl⟩
            go_wp2_with (at_builtin; refine wpList_append_own _ rfl _ _ 22 rfl w.heap.size 3 i0 (.int .i64 0) 1 8 Try.underlying22 hi hz0 hz1 hz2 rfl (by decide) _ _ _ rfl (HO.out.alloc _) ⟨wk.heap.size, 0, none⟩ 1 1 [.int .i64 _] rfl rfl (int_news _ _ _ _ rfl) (by simp [Value.oneCell']) (by unfold maxLen; omega) (by omega) (by have := HB.out.size; simp; omega) ?_; intro v' w1 hown' hgrow hnn; clear hnn; have HO1 := Lib.hid hown'; have HB1 := Lib.hid (own_below HB.out HB.out.size HO.out hgrow); clear hown' hgrow)
            go_roundw
            case rel => exact ⟨k + 1, by omega, by go_num, own_more HO1.out (by rw [HS.out]; rfl) (by rw [HS.out]; simp [orB]), HB1.out⟩
            case measure => simp [intOf]; omega
        · go_wp2_with fail
          refine C1.out.mono ?_
          rintro e w1 ⟨rfl, rfl⟩
          go_wp2_with (at_builtin; refine wpList_append_own _ rfl _ _ 22 rfl w.heap.size 3 i0 (.int .i64 0) 1 8 Try.underlying22 hi hz0 hz1 hz2 rfl (by decide) _ _ _ rfl (HO.out.alloc _) ⟨wk.heap.size, 0, none⟩ 1 1 [.int .i64 _] rfl rfl (int_news _ _ _ _ rfl) (by simp [Value.oneCell']) (by unfold maxLen; omega) (by omega) (by have := HB.out.size; simp; omega) ?_; intro v' w1 hown' hgrow hnn; clear hnn; have HO1 := Lib.hid hown'; have HB1 := Lib.hid (own_below HB.out HB.out.size HO.out hgrow); clear hown' hgrow)
          go_roundw
          case rel => exact ⟨k + 1, by omega, by go_num, own_more HO1.out (by rw [HS.out]; rfl) (by rw [HS.out]; simp [orB]), HB1.out⟩
          case measure => simp [intOf]; omega
      · obtain rfl : k = 64 := by omega
        clear hB
        go_wp2
        go_ret2
        exact own_done HO.out HB.out HRR.out

set_option maxHeartbeats 2000000 in
theorem refIntersect_any (xs ys : List Int) (r : List Int × Int) (hr : opR andB xs ys = r) (vx vy : Value) (w : World) (hx : IntsAt w vx xs) (hy : IntsAt w vy ys) (lx : xs.length ≤ 1000000) (ly : ys.length ≤ 1000000) :
    Calls Try.prog 26 #[vx, vy] w (ListPost r w) := by
  obtain ⟨i0, hi, hz0, hz1, hz2⟩ := info_parts info_int
  have HX := Lib.hid hx
  have HY := Lib.hid hy
  have HR := Lib.hid hr
  clear hr
  by_cases hbad : errL xs ≠ 0 ∨ errL ys ≠ 0
  · have HBD := Lib.hid (bad_any xs ys true (by simpa using hbad) vx vy w hx hy lx ly)
    have HRR := Lib.hid (show r = ([], 1) by rw [← HR.out, opR, if_pos hbad])
    obtain ⟨ax, cx, rfl, _⟩ := hx
    obtain ⟨ay, cy, rfl, _⟩ := hy
    clear hbad HX HY HR hi hz0 hz1 hz2
    go_enter Try.func26, Try.ntmps26
    go_wp2_with fail
    refine HBD.out.mono ?_
    rintro e w1 ⟨rfl, m, rfl⟩
    go_wp2
    go_ret2
    exact ListPost.bad HRR.out (below_drewN _ _)
  · have HBD := Lib.hid (bad_any xs ys false (by rw [decide_eq_false_iff_not]; exact hbad) vx vy w hx hy lx ly)
    have he : errL xs = 0 := by omega
    have HRR := Lib.hid (show r = (xs.filter (fun x => (fun b => b) (decide (x ∈ ys))), 0) by rw [← HR.out, opR, if_neg hbad, filt_sel (fun b => b) xs ys he])
    obtain ⟨ax, cx, rfl, hcx⟩ := hx
    obtain ⟨ay, cy, rfl, _⟩ := hy
    have HC := Lib.hid hcx
    clear hbad HR he hcx
    go_enter Try.func26, Try.ntmps26
    go_wp2_with fail
    refine HBD.out.mono ?_
    rintro e w1 ⟨rfl, m, rfl⟩
    clear HBD
    go_wp2
    go_loopw [6, 7] (fun o i wr => ∃ k : Nat, k ≤ xs.length ∧ i = .int .i64 k ∧ wr.ownsRow w.heap.size 3 1 o ((xs.take k).filter fun x => (fun b => b) (decide (x ∈ ys))).length (((xs.take k).filter fun x => (fun b => b) (decide (x ∈ ys))).map intV) ∧ Below w.heap.size w wr)
      (fun _ i _ => xs.length - (intOf i).toNat)
    case atStart => exact ⟨0, Nat.zero_le _, rfl, World.ownsRow_lit _ #[] 0 (Nat.le_refl _) (by simp [maxLen]) rfl, (below_drewN_n _ _ _).alloc (Nat.le_refl _) _⟩
    case round =>
      obtain ⟨k, hk, rfl, hown, hB⟩ := hrel
      obtain ⟨wk, rfl⟩ : ∃ x, x = wr := ⟨_, rfl⟩
      have HO := Lib.hid hown
      have HB := Lib.hid hB
      have hlen : ((xs.take k).filter fun x => (fun b => b) (decide (x ∈ ys))).length ≤ 1000000 := Nat.le_trans (List.length_filter_le _ _) (by rw [List.length_take]; omega)
      clear hown
      by_cases hlt : k < xs.length
      · obtain ⟨b, off, rfl, hbb, hcs⟩ := HC.out (by omega)
        have hcell : wk.cell? ⟨b, off + k, none⟩ = some (.int .i64 xs[k]) := (hB.cell (p := ⟨b, off + k, none⟩) hbb).trans (hcs k hlt)
        have HS := Lib.hid (filt_succ (fun x => (fun b => b) (decide (x ∈ ys))) xs k hlt)
        obtain ⟨x, hxx⟩ : ∃ x, xs[k] = x := ⟨_, rfl⟩
        dsimp only at HS
        rw [hxx] at hcell HS
        have C2 := Lib.hid (refHas_any ys x (decide (x ∈ ys)) rfl _ wk (HY.out.below hB) ly)
        clear hB hcs hxx
        obtain ⟨q, hq⟩ : ∃ q, decide (x ∈ ys) = q := ⟨_, rfl⟩
        rw [hq] at C2 HS
        clear hq
        obtain ⟨S, hS⟩ : ∃ S, ((xs.take k).filter fun x => (fun b => b) (decide (x ∈ ys))) = S := ⟨_, rfl⟩
        dsimp only at hS HO hlen
        rw [hS] at HS HO hlen
        clear hS
        have hcell1 : ∀ (t : TypeId), True := fun _ => trivial
        cases q
        · go_wp2_with fail
          refine C2.out.mono ?_
          rintro e w1 ⟨rfl, rfl⟩
          go_wp2
          go_roundw
          case rel => exact ⟨k + 1, by omega, by go_num, by rw [HS.out]; exact HO.out, HB.out⟩
          case measure => simp [intOf]; omega
        · go_wp2_with fail
          refine C2.out.mono ?_
          rintro e w1 ⟨rfl, rfl⟩
          go_wp2_with (at_builtin; refine wpList_append_own _ rfl _ _ 22 rfl w.heap.size 3 i0 (.int .i64 0) 1 8 Try.underlying22 hi hz0 hz1 hz2 rfl (by decide) _ _ _ rfl (HO.out.alloc _) ⟨wk.heap.size, 0, none⟩ 1 1 [.int .i64 _] rfl rfl (int_news _ _ _ _ rfl) (by simp [Value.oneCell']) (by unfold maxLen; omega) (by omega) (by have := HB.out.size; simp; omega) ?_; intro v' w1 hown' hgrow hnn; clear hnn; have HO1 := Lib.hid hown'; have HB1 := Lib.hid (own_below HB.out HB.out.size HO.out hgrow); clear hown' hgrow)
          go_roundw
          case rel => exact ⟨k + 1, by omega, by go_num, own_more HO1.out (by rw [HS.out]; rfl) (by rw [HS.out]; simp), HB1.out⟩
          case measure => simp [intOf]; omega
      · obtain rfl : k = xs.length := by omega
        rw [List.take_length] at HO
        clear hB
        go_wp2
        go_ret2
        exact own_done HO.out HB.out HRR.out

set_option maxHeartbeats 2000000 in
theorem refMinus_any (xs ys : List Int) (r : List Int × Int) (hr : opR minB xs ys = r) (vx vy : Value) (w : World) (hx : IntsAt w vx xs) (hy : IntsAt w vy ys) (lx : xs.length ≤ 1000000) (ly : ys.length ≤ 1000000) :
    Calls Try.prog 28 #[vx, vy] w (ListPost r w) := by
  obtain ⟨i0, hi, hz0, hz1, hz2⟩ := info_parts info_int
  have HX := Lib.hid hx
  have HY := Lib.hid hy
  have HR := Lib.hid hr
  clear hr
  by_cases hbad : errL xs ≠ 0 ∨ errL ys ≠ 0
  · have HBD := Lib.hid (bad_any xs ys true (by simpa using hbad) vx vy w hx hy lx ly)
    have HRR := Lib.hid (show r = ([], 1) by rw [← HR.out, opR, if_pos hbad])
    obtain ⟨ax, cx, rfl, _⟩ := hx
    obtain ⟨ay, cy, rfl, _⟩ := hy
    clear hbad HX HY HR hi hz0 hz1 hz2
    go_enter Try.func28, Try.ntmps28
    go_wp2_with fail
    refine HBD.out.mono ?_
    rintro e w1 ⟨rfl, m, rfl⟩
    go_wp2
    go_ret2
    exact ListPost.bad HRR.out (below_drewN _ _)
  · have HBD := Lib.hid (bad_any xs ys false (by rw [decide_eq_false_iff_not]; exact hbad) vx vy w hx hy lx ly)
    have he : errL xs = 0 := by omega
    have HRR := Lib.hid (show r = (xs.filter (fun x => (fun b => !b) (decide (x ∈ ys))), 0) by rw [← HR.out, opR, if_neg hbad, filt_sel (fun b => !b) xs ys he])
    obtain ⟨ax, cx, rfl, hcx⟩ := hx
    obtain ⟨ay, cy, rfl, _⟩ := hy
    have HC := Lib.hid hcx
    clear hbad HR he hcx
    go_enter Try.func28, Try.ntmps28
    go_wp2_with fail
    refine HBD.out.mono ?_
    rintro e w1 ⟨rfl, m, rfl⟩
    clear HBD
    go_wp2
    go_loopw [6, 7] (fun o i wr => ∃ k : Nat, k ≤ xs.length ∧ i = .int .i64 k ∧ wr.ownsRow w.heap.size 3 1 o ((xs.take k).filter fun x => (fun b => !b) (decide (x ∈ ys))).length (((xs.take k).filter fun x => (fun b => !b) (decide (x ∈ ys))).map intV) ∧ Below w.heap.size w wr)
      (fun _ i _ => xs.length - (intOf i).toNat)
    case atStart => exact ⟨0, Nat.zero_le _, rfl, World.ownsRow_lit _ #[] 0 (Nat.le_refl _) (by simp [maxLen]) rfl, (below_drewN_n _ _ _).alloc (Nat.le_refl _) _⟩
    case round =>
      obtain ⟨k, hk, rfl, hown, hB⟩ := hrel
      obtain ⟨wk, rfl⟩ : ∃ x, x = wr := ⟨_, rfl⟩
      have HO := Lib.hid hown
      have HB := Lib.hid hB
      have hlen : ((xs.take k).filter fun x => (fun b => !b) (decide (x ∈ ys))).length ≤ 1000000 := Nat.le_trans (List.length_filter_le _ _) (by rw [List.length_take]; omega)
      clear hown
      by_cases hlt : k < xs.length
      · obtain ⟨b, off, rfl, hbb, hcs⟩ := HC.out (by omega)
        have hcell : wk.cell? ⟨b, off + k, none⟩ = some (.int .i64 xs[k]) := (hB.cell (p := ⟨b, off + k, none⟩) hbb).trans (hcs k hlt)
        have HS := Lib.hid (filt_succ (fun x => (fun b => !b) (decide (x ∈ ys))) xs k hlt)
        obtain ⟨x, hxx⟩ : ∃ x, xs[k] = x := ⟨_, rfl⟩
        dsimp only at HS
        rw [hxx] at hcell HS
        have C2 := Lib.hid (refHas_any ys x (decide (x ∈ ys)) rfl _ wk (HY.out.below hB) ly)
        clear hB hcs hxx
        obtain ⟨q, hq⟩ : ∃ q, decide (x ∈ ys) = q := ⟨_, rfl⟩
        rw [hq] at C2 HS
        clear hq
        obtain ⟨S, hS⟩ : ∃ S, ((xs.take k).filter fun x => (fun b => !b) (decide (x ∈ ys))) = S := ⟨_, rfl⟩
        dsimp only at hS HO hlen
        rw [hS] at HS HO hlen
        clear hS
        have hcell1 : ∀ (t : TypeId), True := fun _ => trivial
        cases q
        · go_wp2_with fail
          refine C2.out.mono ?_
          rintro e w1 ⟨rfl, rfl⟩
          go_wp2_with (at_builtin; refine wpList_append_own _ rfl _ _ 22 rfl w.heap.size 3 i0 (.int .i64 0) 1 8 Try.underlying22 hi hz0 hz1 hz2 rfl (by decide) _ _ _ rfl (HO.out.alloc _) ⟨wk.heap.size, 0, none⟩ 1 1 [.int .i64 _] rfl rfl (int_news _ _ _ _ rfl) (by simp [Value.oneCell']) (by unfold maxLen; omega) (by omega) (by have := HB.out.size; simp; omega) ?_; intro v' w1 hown' hgrow hnn; clear hnn; have HO1 := Lib.hid hown'; have HB1 := Lib.hid (own_below HB.out HB.out.size HO.out hgrow); clear hown' hgrow)
          go_roundw
          case rel => exact ⟨k + 1, by omega, by go_num, own_more HO1.out (by rw [HS.out]; rfl) (by rw [HS.out]; simp), HB1.out⟩
          case measure => simp [intOf]; omega
        · go_wp2_with fail
          refine C2.out.mono ?_
          rintro e w1 ⟨rfl, rfl⟩
          go_wp2
          go_roundw
          case rel => exact ⟨k + 1, by omega, by go_num, by rw [HS.out]; exact HO.out, HB.out⟩
          case measure => simp [intOf]; omega
      · obtain rfl : k = xs.length := by omega
        rw [List.take_length] at HO
        clear hB
        go_wp2
        go_ret2
        exact own_done HO.out HB.out HRR.out

set_option maxHeartbeats 2000000 in
theorem refOf_any (xs : List Int) (r : List Int × Int) (hr : ofR xs = r) (v : Value) (w : World) (hv : IntsAt w v xs) (lx : xs.length ≤ 1000000) :
    Calls Try.prog 15 #[v] w (ListPost r w) := by
  obtain ⟨i0, hi, hz0, hz1, hz2⟩ := info_parts info_int
  have HX := Lib.hid hv
  have HR := Lib.hid hr
  obtain ⟨a, cap, rfl, hc⟩ := hv
  have HC := Lib.hid hc
  clear hr hc
  go_enter Try.func15, Try.ntmps15
  go_wp2
  go_loop [4] (fun i => ∃ k : Nat, k ≤ xs.length ∧ i = .int .i64 k ∧ InR (xs.take k)) (fun i => xs.length - (intOf i).toNat)
  case atStart => exact ⟨0, Nat.zero_le _, rfl, by simp [InR]⟩
  case round =>
    obtain ⟨k, hk, rfl, hR⟩ := hrel
    by_cases hlt : k < xs.length
    · obtain ⟨b, off, rfl, hbb, hcs⟩ := HC.out (by omega)
      have hcell := hcs k hlt
      clear hcs
      have HT := Lib.hid (List.take_succ_eq_append_getElem hlt)
      have HM := Lib.hid (List.getElem_mem hlt)
      obtain ⟨x, hx⟩ : ∃ x, xs[k] = x := ⟨_, rfl⟩
      rw [hx] at hcell HT HM
      have HI := Lib.hid hR
      clear hx hR
      have HBAD := Lib.hid (show (x < 0 ∨ 63 < x) → r = ([], 2) from fun h1 => by rw [← HR.out, ofR, if_pos ⟨x, HM.out, h1⟩])
      rcases (show x < 0 ∨ (0 ≤ x ∧ 63 < x) ∨ (0 ≤ x ∧ x ≤ 63) by omega) with h1 | ⟨h0, h1⟩ | ⟨h0, h1⟩
      · go_wp2
        go_ret2
        exact ListPost.bad (HBAD.out (.inl h1)) (Below.refl _ _)
      · go_wp2
        go_ret2
        exact ListPost.bad (HBAD.out (.inr h1)) (Below.refl _ _)
      · go_wp2
        go_round
        case rel =>
          refine ⟨k + 1, by omega, by go_num, ?_⟩
          rw [HT.out]
          intro y hy
          rcases List.mem_append.1 hy with h | h
          · exact HI.out y h
          · simp at h; omega
        case measure => simp [intOf]; omega
    · obtain rfl : k = xs.length := by omega
      rw [List.take_length] at hR
      have HRR := Lib.hid (show r = (sel 64 (has xs), 0) by rw [← HR.out, ofR, if_neg]; rintro ⟨x, hx, h⟩; have := hR x hx; omega)
      clear hR HR HC
      go_wp2
      go_loopw [5, 6] (fun o i wr => ∃ k : Nat, k ≤ 64 ∧ i = .int .i64 k ∧ wr.ownsRow w.heap.size 3 1 o (sel k (has xs)).length ((sel k (has xs)).map intV) ∧ Below w.heap.size w wr)
        (fun _ i _ => 64 - (intOf i).toNat)
      case atStart => exact ⟨0, Nat.zero_le _, rfl, World.ownsRow_lit _ #[] 0 (Nat.le_refl _) (by simp [maxLen]) rfl, (Below.refl _ _).alloc (Nat.le_refl _) _⟩
      case round =>
        obtain ⟨k, hk, rfl, hown, hB⟩ := hrel
        obtain ⟨wk, rfl⟩ : ∃ x, x = wr := ⟨_, rfl⟩
        have HO := Lib.hid hown
        have HB := Lib.hid hB
        have hlen := sel_len k (has xs)
        have HS := Lib.hid (sel_succ k (has xs))
        clear hown
        by_cases hlt : k < 64
        · have C1 := Lib.hid (refHas_any xs k (has xs k) rfl _ wk (HX.out.below hB) lx)
          clear hB
          obtain ⟨p, hp⟩ : ∃ p, has xs k = p := ⟨_, rfl⟩
          rw [hp] at C1 HS
          clear hp
          obtain ⟨S, hS⟩ : ∃ S, sel k (has xs) = S := ⟨_, rfl⟩
          rw [hS] at HS HO hlen
          clear hS
          cases p
          · go_wp2_with fail
            refine C1.out.mono ?_
            rintro e w1 ⟨rfl, rfl⟩
            go_wp2
            go_roundw
            case rel => exact ⟨k + 1, by omega, by go_num, by rw [HS.out]; exact HO.out, HB.out⟩
            case measure => simp [intOf]; omega
          · go_wp2_with fail
            refine C1.out.mono ?_
            rintro e w1 ⟨rfl, rfl⟩
            go_wp2_with (at_builtin; refine wpList_append_own _ rfl _ _ 22 rfl w.heap.size 3 i0 (.int .i64 0) 1 8 Try.underlying22 hi hz0 hz1 hz2 rfl (by decide) _ _ _ rfl (HO.out.alloc _) ⟨wk.heap.size, 0, none⟩ 1 1 [.int .i64 _] rfl rfl (int_news _ _ _ _ rfl) (by simp [Value.oneCell']) (by unfold maxLen; omega) (by omega) (by have := HB.out.size; simp; omega) ?_; intro v' w1 hown' hgrow hnn; clear hnn; have HO1 := Lib.hid hown'; have HB1 := Lib.hid (own_below HB.out HB.out.size HO.out hgrow); clear hown' hgrow)
            go_roundw
            case rel => exact ⟨k + 1, by omega, by go_num, own_more HO1.out (by rw [HS.out]; rfl) (by rw [HS.out]; simp), HB1.out⟩
            case measure => simp [intOf]; omega
        · obtain rfl : k = 64 := by omega
          clear hB
          go_wp2
          go_ret2
          exact own_done HO.out HB.out HRR.out

set_option maxHeartbeats 2000000 in
theorem refComp_any (n : Int) (xs : List Int) (r : List Int × Int) (hr : compR n xs = r) (v : Value) (w : World) (hv : IntsAt w v xs) (lx : xs.length ≤ 1000000) :
    Calls Try.prog 17 #[intV n, v] w (ListPost r w) := by
  obtain ⟨i0, hi, hz0, hz1, hz2⟩ := info_parts info_int
  have HX := Lib.hid hv
  have HR := Lib.hid hr
  have HCK := Lib.hid (refCheck_any xs v w hv lx)
  obtain ⟨a, cap, rfl, hc⟩ := hv
  have HC := Lib.hid hc
  clear hr hc
  by_cases hn : n < 0 ∨ 64 < n
  · have HRR := Lib.hid (show r = ([], 2) by rw [← HR.out, compR, if_pos hn])
    clear HR HX HC hi hz0 hz1 hz2 HCK
    rcases (show n < 0 ∨ (0 ≤ n ∧ 64 < n) by omega) with h1 | ⟨h0, h1⟩
    all_goals
      go_enter Try.func17, Try.ntmps17
      go_wp2
      go_ret2
      exact ListPost.bad HRR.out (Below.refl _ _)
  · obtain ⟨n0, n1⟩ : 0 ≤ n ∧ n ≤ 64 := by omega
    by_cases he : errL xs = 0
    · have hr2 : r = if ∃ x ∈ xs, n ≤ x then ([], 2) else (sel n.toNat fun i => !has xs i, 0) := by
        rw [← HR.out, compR, if_neg hn, if_neg (by simpa using he)]
      rw [he] at HCK
      clear hn HR
      obtain ⟨n, rfl⟩ : ∃ k : Nat, n = k := ⟨n.toNat, by omega⟩
      have hn64 : n ≤ 64 := by omega
      have key : ∀ (hb : ¬ ∃ x ∈ xs, (n : Int) ≤ x), r = (sel n fun i => !has xs i, 0) := fun hb => by rw [hr2, if_neg hb]; rfl
      have key2 : ∀ (hb : ∃ x ∈ xs, (n : Int) ≤ x), r = ([], 2) := fun hb => by rw [hr2, if_pos hb]
      have K1 := Lib.hid key
      have K2 := Lib.hid key2
      clear key key2 hr2
      go_enter Try.func17, Try.ntmps17
      go_wp2_with fail
      refine HCK.out.mono ?_
      rintro e w1 ⟨rfl, m, rfl⟩
      clear HCK
      by_cases h0 : 0 < xs.length
      · obtain ⟨b, off, rfl, hbb, hcs⟩ := HC.out h0
        have hcell := hcs (xs.length - 1) (by omega)
        have HL := Lib.hid (last_max he h0 (n : Int))
        have hl1 : (xs.length : Int) - 1 = ((xs.length - 1 : Nat) : Int) := by omega
        obtain ⟨x, hx⟩ : ∃ x, xs[xs.length - 1]'(by omega) = x := ⟨_, rfl⟩
        rw [hx] at hcell HL
        have hcell' : (w.drewN m).cell? ⟨b, off + (xs.length - 1), none⟩ = some (.int .i64 x) := hcell
        clear hcs hx hcell he
        by_cases hb : (n : Int) ≤ x
        · have HRR := Lib.hid (K2.out (HL.out.2 hb))
          clear K1 K2 HL
          go_wp2
          go_ret2
          exact ListPost.bad HRR.out (below_drewN_n _ _ _)
        · have HRR := Lib.hid (K1.out (fun h => hb (HL.out.1 h)))
          clear K1 K2 HL
          go_wp2
          go_loopw [6, 7] (fun o i wr => ∃ k : Nat, k ≤ n ∧ i = .int .i64 k ∧ wr.ownsRow w.heap.size 3 1 o (sel k fun i => !has xs i).length ((sel k fun i => !has xs i).map intV) ∧ Below w.heap.size w wr)
            (fun _ i _ => n - (intOf i).toNat)
          case atStart => exact ⟨0, Nat.zero_le _, rfl, World.ownsRow_lit _ #[] 0 (Nat.le_refl _) (by simp [maxLen]) rfl, (below_drewN_n _ _ _).alloc (Nat.le_refl _) _⟩
          case round =>
            obtain ⟨k, hk, rfl, hown, hB⟩ := hrel
            obtain ⟨wk, rfl⟩ : ∃ x, x = wr := ⟨_, rfl⟩
            have HO := Lib.hid hown
            have HB := Lib.hid hB
            have hlen := sel_len k (fun i => !has xs i)
            have HS := Lib.hid (sel_succ k (fun i => !has xs i))
            clear hown
            by_cases hlt : k < n
            · have C1 := Lib.hid (refHas_any xs k (has xs k) rfl _ wk (HX.out.below hB) lx)
              clear hB
              obtain ⟨p, hp⟩ : ∃ p, has xs k = p := ⟨_, rfl⟩
              rw [hp] at C1 HS
              clear hp
              obtain ⟨S, hS⟩ : ∃ S, sel k (fun i => !has xs i) = S := ⟨_, rfl⟩
              rw [hS] at HS HO hlen
              clear hS
              cases p
              · go_wp2_with fail
                refine C1.out.mono ?_
                rintro e w1 ⟨rfl, rfl⟩
                go_wp2_with (at_builtin; refine wpList_append_own _ rfl _ _ 22 rfl w.heap.size 3 i0 (.int .i64 0) 1 8 Try.underlying22 hi hz0 hz1 hz2 rfl (by decide) _ _ _ rfl (HO.out.alloc _) ⟨wk.heap.size, 0, none⟩ 1 1 [.int .i64 _] rfl rfl (int_news _ _ _ _ rfl) (by simp [Value.oneCell']) (by unfold maxLen; omega) (by omega) (by have := HB.out.size; simp; omega) ?_; intro v' w1 hown' hgrow hnn; clear hnn; have HO1 := Lib.hid hown'; have HB1 := Lib.hid (own_below HB.out HB.out.size HO.out hgrow); clear hown' hgrow)
                go_roundw
                case rel => exact ⟨k + 1, by omega, by go_num, own_more HO1.out (by rw [HS.out]; rfl) (by rw [HS.out]; simp), HB1.out⟩
                case measure => simp [intOf]; omega
              · go_wp2_with fail
                refine C1.out.mono ?_
                rintro e w1 ⟨rfl, rfl⟩
                go_wp2
                go_roundw
                case rel => exact ⟨k + 1, by omega, by go_num, by rw [HS.out]; exact HO.out, HB.out⟩
                case measure => simp [intOf]; omega
            · obtain rfl : k = n := by omega
              clear hB
              go_wp2
              go_ret2
              exact own_done HO.out HB.out HRR.out
      · have HRR := Lib.hid (K1.out (by rintro ⟨x, hx, _⟩; exact h0 (List.length_pos_of_mem hx)))
        clear K1 K2 he
        go_wp2
        go_loopw [6, 7] (fun o i wr => ∃ k : Nat, k ≤ n ∧ i = .int .i64 k ∧ wr.ownsRow w.heap.size 3 1 o (sel k fun i => !has xs i).length ((sel k fun i => !has xs i).map intV) ∧ Below w.heap.size w wr)
          (fun _ i _ => n - (intOf i).toNat)
        case atStart => exact ⟨0, Nat.zero_le _, rfl, World.ownsRow_lit _ #[] 0 (Nat.le_refl _) (by simp [maxLen]) rfl, (below_drewN_n _ _ _).alloc (Nat.le_refl _) _⟩
        case round =>
          obtain ⟨k, hk, rfl, hown, hB⟩ := hrel
          obtain ⟨wk, rfl⟩ : ∃ x, x = wr := ⟨_, rfl⟩
          have HO := Lib.hid hown
          have HB := Lib.hid hB
          have hlen := sel_len k (fun i => !has xs i)
          have HS := Lib.hid (sel_succ k (fun i => !has xs i))
          clear hown
          by_cases hlt : k < n
          · have C1 := Lib.hid (refHas_any xs k (has xs k) rfl _ wk (HX.out.below hB) lx)
            clear hB
            obtain ⟨p, hp⟩ : ∃ p, has xs k = p := ⟨_, rfl⟩
            rw [hp] at C1 HS
            clear hp
            obtain ⟨S, hS⟩ : ∃ S, sel k (fun i => !has xs i) = S := ⟨_, rfl⟩
            rw [hS] at HS HO hlen
            clear hS
            cases p
            · go_wp2_with fail
              refine C1.out.mono ?_
              rintro e w1 ⟨rfl, rfl⟩
              go_wp2_with (at_builtin; refine wpList_append_own _ rfl _ _ 22 rfl w.heap.size 3 i0 (.int .i64 0) 1 8 Try.underlying22 hi hz0 hz1 hz2 rfl (by decide) _ _ _ rfl (HO.out.alloc _) ⟨wk.heap.size, 0, none⟩ 1 1 [.int .i64 _] rfl rfl (int_news _ _ _ _ rfl) (by simp [Value.oneCell']) (by unfold maxLen; omega) (by omega) (by have := HB.out.size; simp; omega) ?_; intro v' w1 hown' hgrow hnn; clear hnn; have HO1 := Lib.hid hown'; have HB1 := Lib.hid (own_below HB.out HB.out.size HO.out hgrow); clear hown' hgrow)
              go_roundw
              case rel => exact ⟨k + 1, by omega, by go_num, own_more HO1.out (by rw [HS.out]; rfl) (by rw [HS.out]; simp), HB1.out⟩
              case measure => simp [intOf]; omega
            · go_wp2_with fail
              refine C1.out.mono ?_
              rintro e w1 ⟨rfl, rfl⟩
              go_wp2
              go_roundw
              case rel => exact ⟨k + 1, by omega, by go_num, by rw [HS.out]; exact HO.out, HB.out⟩
              case measure => simp [intOf]; omega
          · obtain rfl : k = n := by omega
            clear hB
            go_wp2
            go_ret2
            exact own_done HO.out HB.out HRR.out
    · have HRR := Lib.hid (show r = ([], 1) by rw [← HR.out, compR, if_neg hn, if_pos he])
      obtain ⟨q, hq⟩ : ∃ q, errL xs = q := ⟨_, rfl⟩
      rw [hq] at HCK he
      have he' : (q != 0) = true := by rw [bne_iff_ne]; exact he
      clear HR HX HC hi hz0 hz1 hz2 hq hn he
      go_enter Try.func17, Try.ntmps17
      go_wp2_with fail
      refine HCK.out.mono ?_
      rintro e w1 ⟨rfl, m, rfl⟩
      go_wp2
      go_ret2
      exact ListPost.bad HRR.out (below_drewN_n _ _ _)

set_option maxHeartbeats 2000000 in
theorem refWithin_any (xs ys : List Int) (r : Bool × Int) (hr : withinR xs ys = r) (vx vy : Value) (w : World) (hx : IntsAt w vx xs) (hy : IntsAt w vy ys) (lx : xs.length ≤ 1000000) (ly : ys.length ≤ 1000000) :
    Calls Try.prog 30 #[vx, vy] w fun e w' => e = .returned (.tuple #[.bool r.1, intV r.2]) ∧ ∃ m, w' = w.drewN m := by
  have HY := Lib.hid hy
  have HR := Lib.hid hr
  clear hr
  by_cases hbad : errL xs ≠ 0 ∨ errL ys ≠ 0
  · have HBD := Lib.hid (bad_any xs ys true (by simpa using hbad) vx vy w hx hy lx ly)
    have HRR := Lib.hid (show r = (false, 1) by rw [← HR.out, withinR, if_pos hbad])
    obtain ⟨ax, cx, rfl, _⟩ := hx
    obtain ⟨ay, cy, rfl, _⟩ := hy
    clear hbad HY HR
    go_enter Try.func30, Try.ntmps30
    go_wp2_with fail
    refine HBD.out.mono ?_
    rintro e w1 ⟨rfl, m, rfl⟩
    go_wp2
    go_ret2
    exact ⟨ret_of HRR.out, _, rfl⟩
  · have HBD := Lib.hid (bad_any xs ys false (by rw [decide_eq_false_iff_not]; exact hbad) vx vy w hx hy lx ly)
    have HRR := Lib.hid (show r = (decide (∀ x ∈ xs, x ∈ ys), 0) by rw [← HR.out, withinR, if_neg hbad])
    obtain ⟨ax, cx, rfl, hcx⟩ := hx
    obtain ⟨ay, cy, rfl, _⟩ := hy
    have HC := Lib.hid hcx
    clear hbad HR hcx
    go_enter Try.func30, Try.ntmps30
    go_wp2_with fail
    refine HBD.out.mono ?_
    rintro e w1 ⟨rfl, m, rfl⟩
    clear HBD
    go_wp2
    go_loop [6] (fun i => ∃ k : Nat, k ≤ xs.length ∧ i = .int .i64 k ∧ ∀ x ∈ xs.take k, x ∈ ys) (fun i => xs.length - (intOf i).toNat)
    case atStart => exact ⟨0, Nat.zero_le _, rfl, by simp⟩
    case round =>
      obtain ⟨k, hk, rfl, ha⟩ := hrel
      have HA := Lib.hid ha
      clear ha
      by_cases hlt : k < xs.length
      · obtain ⟨b, off, rfl, hbb, hcs⟩ := HC.out (by omega)
        have hcell : (w.drewN m).cell? ⟨b, off + k, none⟩ = some (.int .i64 xs[k]) := hcs k hlt
        have HT := Lib.hid (take_succ_int xs k hlt)
        have HM := Lib.hid (List.getElem_mem hlt)
        obtain ⟨x, hxx⟩ : ∃ x, xs[k] = x := ⟨_, rfl⟩
        rw [hxx] at hcell HT HM
        clear hcs hxx
        by_cases h : x ∈ ys
        · have C := Lib.hid (refHas_any ys x true (by simpa using h) _ (w.drewN m) (HY.out.below (below_drewN _ _)) ly)
          have HH := Lib.hid h
          clear h
          go_wp2_with fail
          refine C.out.mono ?_
          rintro e w1 ⟨rfl, rfl⟩
          go_wp2
          go_round
          case rel =>
            refine ⟨k + 1, by omega, by go_num, ?_⟩
            rw [HT.out]
            intro l hl
            rcases List.mem_append.1 hl with h' | h'
            · exact HA.out l h'
            · simp at h'; rw [h']; exact HH.out
          case measure => simp [intOf]; omega
        · have C := Lib.hid (refHas_any ys x false (by simpa using h) _ (w.drewN m) (HY.out.below (below_drewN _ _)) ly)
          have HH := Lib.hid h
          clear h
          go_wp2_with fail
          refine C.out.mono ?_
          rintro e w1 ⟨rfl, rfl⟩
          go_wp2
          go_ret2
          refine ⟨ret_of ?_, _, rfl⟩
          rw [HRR.out]
          exact congrArg (fun b => (b, (0 : Int))) (by rw [decide_eq_false_iff_not]; exact fun h => HH.out (h x HM.out))
      · obtain rfl : k = xs.length := by omega
        go_wp2
        go_ret2
        refine ⟨ret_of ?_, _, rfl⟩
        have := HA.out
        rw [List.take_length] at this
        rw [HRR.out]
        exact congrArg (fun b => (b, (0 : Int))) (by rw [decide_eq_true_eq]; exact this)
end Go.Proofs.Ytdplcpnahahkaaa
