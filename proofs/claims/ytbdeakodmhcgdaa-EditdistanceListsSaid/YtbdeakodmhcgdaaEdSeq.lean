/- The program's areTooLong, sameAt, distance: for bytes and for strings. -/
import Derived.Test.YtbdeakodmhcgdaaEdRefSmall
import Derived.Test.YtbdeakodmhcgdaaEdFillInt
import Derived.Laws.EntriesVeiled
namespace Go.Proofs.Ytbdeakodmhcgdaa
set_option linter.unusedSimpArgs false
set_option linter.unusedVariables false
set_option maxRecDepth 100000
open Go.RowKit Go.Deep

/-! ### lists that are only read -/
abbrev u8V (c : UInt8) : Value := .int .u8 c.toNat
def LAt {α : Type} (mk : α → Value) (W : World) (v : Value) (xs : List α) : Prop :=
  ∃ a cap, v = .slice a xs.length cap ∧ (0 < xs.length → ∃ b off, a = some ⟨b, off, none⟩ ∧ b < W.heap.size ∧ ∀ j (h : j < xs.length), W.cell? ⟨b, off + j, none⟩ = some (mk xs[j]))
theorem LAt.below {α : Type} {mk : α → Value} {W W' : World} {v : Value} {xs : List α} (h : LAt mk W v xs) (hB : Below W.heap.size W W') : LAt mk W' v xs := by
  obtain ⟨a, cap, rfl, hc⟩ := h
  refine ⟨a, cap, rfl, fun h0 => ?_⟩
  obtain ⟨b, off, rfl, hb, hcs⟩ := hc h0
  exact ⟨b, off, rfl, Nat.lt_of_lt_of_le hb hB.size, fun j hj => (hB.cell (p := ⟨b, off + j, none⟩) hb).trans (hcs j hj)⟩
theorem LAt.drew {α : Type} {mk : α → Value} {W : World} {v : Value} {xs : List α} (h : LAt mk W v xs) : LAt mk W.drew v xs := h.below (Below.refl _ _).drew
/-- what sameAt makes -/
def SameFn {α : Type} (k : Nat) (mk : α → Value) (W : World) (F : Value) (xs ys : List α) : Prop :=
  ∃ b2 b3 va vb, F = .func (.func k) #[] #[.pointer (some ⟨b2, 0, none⟩), .pointer (some ⟨b3, 0, none⟩)] ∧ b2 < W.heap.size ∧ b3 < W.heap.size ∧ W.cell? ⟨b2, 0, none⟩ = some va ∧ W.cell? ⟨b3, 0, none⟩ = some vb ∧ LAt mk W va xs ∧ LAt mk W vb ys
theorem SameFn.below {α : Type} {k : Nat} {mk : α → Value} {W W' : World} {F : Value} {xs ys : List α} (h : SameFn k mk W F xs ys) (hB : Below W.heap.size W W') : SameFn k mk W' F xs ys := by
  obtain ⟨b2, b3, va, vb, rfl, h2, h3, c2, c3, hx, hy⟩ := h
  exact ⟨b2, b3, va, vb, rfl, Nat.lt_of_lt_of_le h2 hB.size, Nat.lt_of_lt_of_le h3 hB.size, (hB.cell (p := ⟨b2, 0, none⟩) h2).trans c2, (hB.cell (p := ⟨b3, 0, none⟩) h3).trans c3, hx.below hB, hy.below hB⟩

/-! ### the distances by their table -/
section
variable {α : Type} [DecidableEq α]
def DG (xs ys : List α) (i j : Nat) : Int := (lev (xs.take i) (ys.take j) : Nat)
theorem DG_zero (xs ys : List α) (j : Nat) (h : j ≤ ys.length) : DG xs ys 0 j = j := by rw [DG, List.take_zero, lev_nil, List.length_take, Nat.min_eq_left h]
theorem DG_left (xs ys : List α) (i : Nat) (h : i ≤ xs.length) : DG xs ys i 0 = i := by rw [DG, List.take_zero, lev_nil', List.length_take, Nat.min_eq_left h]
theorem DG_bd (xs ys : List α) (i j : Nat) (hi : i ≤ xs.length) (hj : j ≤ ys.length) : 0 ≤ DG xs ys i j ∧ DG xs ys i j ≤ i + j := by
  have := lev_most (xs.take i) (ys.take j)
  rw [List.length_take, List.length_take] at this
  rw [DG]; omega
theorem DG_same (xs ys : List α) (i j : Nat) (hi : i < xs.length) (hj : j < ys.length) (h : xs[i] = ys[j]) : DG xs ys (i + 1) (j + 1) = DG xs ys i j := by
  rw [DG, ← List.take_append_getElem hi, ← List.take_append_getElem hj, h, lev_snoc_same]; rfl
theorem DG_other (xs ys : List α) (i j : Nat) (hi : i < xs.length) (hj : j < ys.length) (h : ¬ xs[i] = ys[j]) : DG xs ys (i + 1) (j + 1) = min (min (DG xs ys i j) (DG xs ys i (j + 1))) (DG xs ys (i + 1) j) + 1 := by
  have h1 := lev_snoc xs[i] ys[j] (xs.take i) (ys.take j)
  rw [List.take_append_getElem hi, List.take_append_getElem hj, if_neg h] at h1
  rw [DG, DG, DG, DG, h1]
  omega
theorem DG_end (xs ys : List α) : DG xs ys xs.length ys.length = (lev xs ys : Nat) := by rw [DG, List.take_length, List.take_length]
end

set_option maxHeartbeats 400000 in
theorem tooLong_any (n m : Nat) (r : Bool) (hr : decide (256 < n ∨ 256 < m) = r) (w : World) :
    Calls Try.prog 43 #[intV n, intV m] w fun e w' => e = .returned (.bool r) ∧ w = w' := by
  have HR := Lib.hid hr
  clear hr
  go_enter Try.func43, Try.ntmps43
  go_wp2
  all_goals
    go_ret
    exact ⟨ret_bool (by rw [← HR.out]; apply decide_eq_decide.2; omega), rfl⟩
theorem below_drewN (w : World) (n : Nat) : Below w.heap.size w (w.drewN n) := ⟨rfl, rfl, rfl, Nat.le_refl _, fun _ _ => rfl⟩
/-- the distance of sequences -/
def seqR {α : Type} [DecidableEq α] (xs ys : List α) : Int × Int := if 256 < xs.length ∨ 256 < ys.length then (0, 4) else (((lev xs ys : Nat) : Int), 0)

/-! ### bytes -/
set_option maxHeartbeats 1000000 in
theorem sameB_any (xs ys : List UInt8) (i j : Nat) (hi : i < xs.length) (hj : j < ys.length) (r : Bool) (hr : decide (xs[i] = ys[j]) = r) (lx : xs.length ≤ 1000000) (ly : ys.length ≤ 1000000)
    (b2 b3 : Nat) (va vb : Value) (w : World) (c2 : w.cell? ⟨b2, 0, none⟩ = some va) (c3 : w.cell? ⟨b3, 0, none⟩ = some vb) (hx : LAt u8V w va xs) (hy : LAt u8V w vb ys) :
    Calls Try.prog 75 #[intV i, intV j, .pointer (some ⟨b2, 0, none⟩), .pointer (some ⟨b3, 0, none⟩)] w fun e w' => e = .returned (.bool r) ∧ Below w.heap.size w w' := by
  obtain ⟨ax, cx, rfl, hcx⟩ := hx
  obtain ⟨ay, cy, rfl, hcy⟩ := hy
  obtain ⟨bx, ox, rfl, hbx, hcx⟩ := hcx (by omega)
  obtain ⟨bY, oY, rfl, hbY, hcY⟩ := hcy (by omega)
  have e1 := hcx i hi
  have e2 := hcY j hj
  clear hcx hcY
  obtain ⟨x, hxx⟩ : ∃ x, xs[i] = x := ⟨_, rfl⟩
  obtain ⟨y, hyy⟩ : ∃ y, ys[j] = y := ⟨_, rfl⟩
  rw [hxx] at e1 hr
  rw [hyy] at e2 hr
  clear hxx hyy
  obtain ⟨lx', hlx⟩ : ∃ n, xs.length = n := ⟨_, rfl⟩
  obtain ⟨ly', hly⟩ : ∃ n, ys.length = n := ⟨_, rfl⟩
  rw [hlx] at hi lx c2
  rw [hly] at hj ly c3
  clear hlx hly
  have hii : (i : Int) < (lx' : Int) := by omega
  have hji : (j : Int) < (ly' : Int) := by omega
  have hq : ((x.toNat : Int) == (y.toNat : Int)) = r := by
    rw [← hr]
    rw [Bool.eq_iff_iff]; simp only [beq_iff_eq, decide_eq_true_eq, ← UInt8.toNat_inj]; omega
  clear hr
  go_enter Try.func75, Try.ntmps75
  go_wp2_with fail
  go_quiet (fail)
  go_wp2
  go_ret
  exact ⟨rfl, below_drewN _ _⟩

set_option maxHeartbeats 1000000 in
theorem sameAtB_any (xs ys : List UInt8) (va vb : Value) (w : World) (hx : LAt u8V w va xs) (hy : LAt u8V w vb ys) :
    Calls Try.prog 44 #[va, vb] w fun e w' => ∃ F, e = .returned F ∧ SameFn 75 u8V w' F xs ys ∧ Below w.heap.size w w' := by
  have hB : Below w.heap.size w ((w.alloc (.cells #[va] 57)).alloc (.cells #[vb] 57)) := ((Below.refl _ _).alloc (Nat.le_refl _) _).alloc (by rw [nblk_alloc]; omega) _
  have HX := Lib.hid (hx.below hB)
  have HY := Lib.hid (hy.below hB)
  have HB := Lib.hid hB
  obtain ⟨ax, cx, rfl, _⟩ := hx
  obtain ⟨ay, cy, rfl, _⟩ := hy
  clear hB
  go_enter Try.func44, Try.ntmps44
  go_wp2
  go_ret
  refine ⟨_, rfl, ⟨_, _, _, _, rfl, ?_, ?_, ?_, ?_, HX.out, HY.out⟩, HB.out⟩
  · simp; omega
  · simp
  · rw [World.cell?_alloc_lt _ _ _ (by simp)]; simp
  · have := World.cell?_alloc_new (w.alloc (.cells #[.slice ax xs.length cx] 57)) #[.slice ay ys.length cy] 57 0
    simp only [World.size_alloc] at this
    rw [this]; rfl

set_option maxHeartbeats 1000000 in
theorem edgeB_any (i j z : Int) (hz : 0 ≤ z ∧ z ≤ 4000000) (w : World) :
    Calls Try.prog 72 #[intV i, intV j, intV z] w fun e w' => e = .returned (intV (z + 1)) ∧ w = w' := by
  have hw : IntKind.i64.wrap (z + 1) = z + 1 := IntWalk.i64_in _ (by omega)
  go_enter Try.func72, Try.ntmps72
  go_wp2
  go_ret
  exact ⟨rfl, rfl⟩

set_option maxHeartbeats 2000000 in
theorem entryB_any (xs ys : List UInt8) (i j : Nat) (hi : i < xs.length) (hj : j < ys.length) (lx : xs.length ≤ 1000000) (ly : ys.length ≤ 1000000) (z1 z2 z3 : Int) (h1 : 0 ≤ z1 ∧ z1 ≤ 4000000) (h2 : 0 ≤ z2 ∧ z2 ≤ 4000000) (h3 : 0 ≤ z3 ∧ z3 ≤ 4000000)
    (bs : Nat) (F : Value) (w : World) (cs : w.cell? ⟨bs, 0, none⟩ = some F) (hF : SameFn 75 u8V w F xs ys) :
    Calls Try.prog 74 #[intV (i + 1 : Nat), intV (j + 1 : Nat), intV z1, intV z2, intV z3, .pointer (some ⟨bs, 0, none⟩)] w fun e w' => e = .returned (intV (if xs[i] = ys[j] then z1 else min (min z1 z2) z3 + 1)) ∧ Below w.heap.size w w' := by
  obtain ⟨b2, b3, va, vb, rfl, l2, l3, c2, c3, hx, hy⟩ := hF
  obtain ⟨r, hr⟩ : ∃ r, decide (xs[i] = ys[j]) = r := ⟨_, rfl⟩
  have HC := Lib.hid (sameB_any xs ys i j hi hj r hr lx ly b2 b3 va vb w c2 c3 hx hy)
  obtain ⟨i1, hi1⟩ : ∃ i1, i + 1 = i1 := ⟨_, rfl⟩
  obtain ⟨j1, hj1⟩ : ∃ j1, j + 1 = j1 := ⟨_, rfl⟩
  have hii : (i1 : Int) - 1 = (i : Int) := by omega
  have hji : (j1 : Int) - 1 = (j : Int) := by omega
  have hwi : IntKind.i64.wrap (i : Int) = (i : Int) := IntWalk.i64_in _ (by omega)
  have hwj : IntKind.i64.wrap (j : Int) = (j : Int) := IntWalk.i64_in _ (by omega)
  obtain ⟨m, hm⟩ : ∃ m, min (min z1 z2) z3 = m := ⟨_, rfl⟩
  have hmb : 0 ≤ m ∧ m ≤ 4000000 := by omega
  have hw : IntKind.i64.wrap (m + 1) = m + 1 := IntWalk.i64_in _ (by omega)
  have HM := Lib.hid hm
  rw [hi1, hj1, hm]
  clear c2 c3 hx hy hi1 hj1
  by_cases e : xs[i] = ys[j]
  · obtain rfl : true = r := by rw [← hr, decide_eq_true e]
    rw [if_pos e]
    clear hm hr e
    go_enter Try.func74, Try.ntmps74
    go_wp2_with fail
    refine HC.out.mono ?_
    rintro e w1 ⟨rfl, hb1⟩
    have HB := Lib.hid hb1
    clear hb1 HC
    go_wp2
    go_ret
    exact ⟨rfl, HB.out⟩
  · obtain rfl : false = r := by rw [← hr, decide_eq_false e]
    rw [if_neg e]
    clear hr e
    go_enter Try.func74, Try.ntmps74
    go_wp2_with fail
    refine HC.out.mono ?_
    rintro e w1 ⟨rfl, hb1⟩
    have HB := Lib.hid hb1
    clear hb1 HC
    go_wp2
    all_goals
      go_ret
      exact ⟨ret_int (by omega), HB.out⟩

set_option maxHeartbeats 4000000 in
theorem distanceB_any (xs ys : List UInt8) (lx : xs.length ≤ 1000000) (ly : ys.length ≤ 1000000) (va vb : Value) (w : World) (hx : LAt u8V w va xs) (hy : LAt u8V w vb ys) :
    Calls Try.prog 41 #[va, vb] w fun e w' => e = .returned (pairV (seqR xs ys)) ∧ Below w.heap.size w w' := by
  obtain ⟨ax, cx, rfl, _⟩ := id hx
  obtain ⟨ay, cy, rfl, _⟩ := id hy
  have HX := Lib.hid hx
  have HY := Lib.hid hy
  clear hx hy
  obtain ⟨n, hn⟩ : ∃ n, xs.length = n := ⟨_, rfl⟩
  obtain ⟨m, hm⟩ : ∃ m, ys.length = m := ⟨_, rfl⟩
  by_cases hlong : 256 < n ∨ 256 < m
  · have hR : seqR xs ys = (0, 4) := by rw [seqR, hn, hm, if_pos hlong]
    rw [hR]
    have HT := Lib.hid (tooLong_any n m true (by simpa using hlong))
    rw [hn, hm]
    rw [hn] at lx
    rw [hm] at ly
    clear hn hm hR
    go_enter Try.func41, Try.ntmps41
    go_wp2_with fail
    refine (HT.out _).mono ?_
    rintro e w1 ⟨rfl, rfl⟩
    go_wp2
    go_ret2
    exact ⟨rfl, Below.refl _ _⟩
  · have hR : seqR xs ys = (((lev xs ys : Nat) : Int), 0) := by rw [seqR, hn, hm, if_neg hlong]
    rw [hR]
    have HT := Lib.hid (tooLong_any n m false (by simpa using hlong))
    have HE := Lib.hid (DG_end xs ys)
    rw [hn] at HX
    rw [hm] at HY
    rw [hn, hm] at HE
    rw [hn, hm]
    have HL := Lib.hid (And.intro hn (And.intro hm (And.intro lx ly)))
    have hn2 : n ≤ 256 := by omega
    have hm2 : m ≤ 256 := by omega
    clear hn hm hR hlong lx ly
    go_enter Try.func41, Try.ntmps41
    go_wp2_with fail
    refine (HT.out _).mono ?_
    rintro e w1 ⟨rfl, rfl⟩
    go_wp2_with fail
    refine (sameAtB_any xs ys _ _ _ HX.out HY.out).mono ?_
    rintro e w1 ⟨F, rfl, hF, hb1⟩
    obtain ⟨b2, b3, va, vb, rfl, _⟩ := id hF
    obtain ⟨N, hN⟩ : ∃ N, w1.heap.size = N := ⟨_, rfl⟩
    have hst : (w1.alloc (.cells #[Value.nilFunc] 58)).cell? ⟨N, 0, none⟩ = some Value.nilFunc := by rw [← hN, World.cell?_alloc_new]; rfl
    have hfz : (w1.alloc (.cells #[Value.nilFunc] 58)).frozen? ⟨N, 0, none⟩ = false := by rw [← hN, World.frozen?_alloc_new]
    have hB2 : Below w1.heap.size w1 (w1.alloc (.cells #[Value.func (.func 75) #[] #[.pointer (some ⟨b2, 0, none⟩), .pointer (some ⟨b3, 0, none⟩)]] 58)) :=
      (Below.refl _ _).alloc (Nat.le_refl _) _
    have hcell : (w1.alloc (.cells #[Value.func (.func 75) #[] #[.pointer (some ⟨b2, 0, none⟩), .pointer (some ⟨b3, 0, none⟩)]] 58)).cell? ⟨N, 0, none⟩ = some (.func (.func 75) #[] #[.pointer (some ⟨b2, 0, none⟩), .pointer (some ⟨b3, 0, none⟩)]) := by
      rw [← hN, World.cell?_alloc_new]; rfl
    have HF := Lib.hid (hF.below hB2)
    have HB := Lib.hid (below_seq hb1 hB2 hb1.size)
    have HC := Lib.hid hcell
    have hN2 : N < (w1.alloc (.cells #[Value.func (.func 75) #[] #[.pointer (some ⟨b2, 0, none⟩), .pointer (some ⟨b3, 0, none⟩)]] 58)).heap.size := by rw [nblk_alloc, hN]; omega
    have HN2 := Lib.hid hN2
    clear hF hb1 hB2 hcell hN2
    go_wp2_with fail
    clear hst hfz
    obtain ⟨w2, hw2⟩ : ∃ w2, (w1.alloc (.cells #[Value.func (.func 75) #[] #[.pointer (some ⟨b2, 0, none⟩), .pointer (some ⟨b3, 0, none⟩)]] 58)) = w2 := ⟨_, rfl⟩
    rw [hw2] at HF HB HC HN2
    have HW := Lib.hid hw2
    obtain ⟨h1, h2, h3, h4⟩ := HL.out
    refine Calls.mono (R := fun e W' => ∃ z, e = .returned (intV z) ∧ z = DG xs ys n m ∧ Below w2.heap.size w2 W') ?_ ?_
    · have hfill := fillInt_any n m (by omega) (by omega) 72 74 #[] #[.pointer (some ⟨N, 0, none⟩)] (fun i j z => z = DG xs ys i j) w2 Try.call72 Try.call74
        (by rw [DG_zero xs ys 0 (Nat.zero_le _)]; rfl)
        (fun W j z hW hj hz => (edgeB_any 0 (j + 1 : Nat) z (by have := DG_bd xs ys 0 j (by omega) (by omega); omega) W).mono (by
          rintro e w' ⟨rfl, rfl⟩
          exact ⟨_, rfl, by rw [hz, DG_zero xs ys j (by omega), DG_zero xs ys (j + 1) (by omega)]; omega, Below.refl _ _⟩))
        (fun W i z hW hi hz => (edgeB_any (i + 1 : Nat) 0 z (by have := DG_bd xs ys i 0 (by omega) (by omega); omega) W).mono (by
          rintro e w' ⟨rfl, rfl⟩
          exact ⟨_, rfl, by rw [hz, DG_left xs ys i (by omega), DG_left xs ys (i + 1) (by omega)]; omega, Below.refl _ _⟩))
        (fun W i j z1 z2 z3 hW hi hj hz1 hz2 hz3 => (entryB_any xs ys i j (by omega) (by omega) h3 h4 z1 z2 z3
            (by have := DG_bd xs ys i j (by omega) (by omega); omega) (by have := DG_bd xs ys i (j + 1) (by omega) (by omega); omega) (by have := DG_bd xs ys (i + 1) j (by omega) (by omega); omega)
            N _ W ((hW.cell (p := ⟨N, 0, none⟩) HN2.out).trans HC.out) (HF.out.below hW)).mono (by
          rintro e w' ⟨rfl, hb⟩
          refine ⟨_, rfl, ?_, hb⟩
          by_cases e : xs[i] = ys[j]
          · rw [if_pos e, hz1, DG_same xs ys i j (by omega) (by omega) e]
          · rw [if_neg e, hz1, hz2, hz3, DG_other xs ys i j (by omega) (by omega) e]))
      rw [HW.out]
      exact hfill
    · rintro e w3 ⟨z, rfl, rfl, hb3⟩
      have hz := HE.out
      rw [hz]
      have HB3 := Lib.hid (below_seq HB.out hb3 HB.out.size)
      clear hb3 hz
      go_wp2
      go_ret2
      exact ⟨rfl, HB3.out⟩

/-! ### strings -/
set_option maxHeartbeats 1000000 in
theorem sameS_any (xs ys : List ByteArray) (i j : Nat) (hi : i < xs.length) (hj : j < ys.length) (r : Bool) (hr : decide (xs[i] = ys[j]) = r) (lx : xs.length ≤ 1000000) (ly : ys.length ≤ 1000000)
    (b2 b3 : Nat) (va vb : Value) (w : World) (c2 : w.cell? ⟨b2, 0, none⟩ = some va) (c3 : w.cell? ⟨b3, 0, none⟩ = some vb) (hx : LAt Value.string w va xs) (hy : LAt Value.string w vb ys) :
    Calls Try.prog 78 #[intV i, intV j, .pointer (some ⟨b2, 0, none⟩), .pointer (some ⟨b3, 0, none⟩)] w fun e w' => e = .returned (.bool r) ∧ Below w.heap.size w w' := by
  obtain ⟨ax, cx, rfl, hcx⟩ := hx
  obtain ⟨ay, cy, rfl, hcy⟩ := hy
  obtain ⟨bx, ox, rfl, hbx, hcx⟩ := hcx (by omega)
  obtain ⟨bY, oY, rfl, hbY, hcY⟩ := hcy (by omega)
  have e1 := hcx i hi
  have e2 := hcY j hj
  clear hcx hcY
  obtain ⟨x, hxx⟩ : ∃ x, xs[i] = x := ⟨_, rfl⟩
  obtain ⟨y, hyy⟩ : ∃ y, ys[j] = y := ⟨_, rfl⟩
  rw [hxx] at e1 hr
  rw [hyy] at e2 hr
  clear hxx hyy
  obtain ⟨lx', hlx⟩ : ∃ n, xs.length = n := ⟨_, rfl⟩
  obtain ⟨ly', hly⟩ : ∃ n, ys.length = n := ⟨_, rfl⟩
  rw [hlx] at hi lx c2
  rw [hly] at hj ly c3
  clear hlx hly
  have hii : (i : Int) < (lx' : Int) := by omega
  have hji : (j : Int) < (ly' : Int) := by omega
  have hq : (x.toList == y.toList) = r := by
    rw [← hr]
    rw [Bool.eq_iff_iff]; simp only [beq_iff_eq, decide_eq_true_eq]; exact ⟨bytes_eq, fun h => by rw [h]⟩
  clear hr
  go_enter Try.func78, Try.ntmps78
  go_wp2_with fail
  go_quiet (fail)
  go_wp2
  go_ret
  exact ⟨rfl, below_drewN _ _⟩

set_option maxHeartbeats 1000000 in
theorem sameAtS_any (xs ys : List ByteArray) (va vb : Value) (w : World) (hx : LAt Value.string w va xs) (hy : LAt Value.string w vb ys) :
    Calls Try.prog 58 #[va, vb] w fun e w' => ∃ F, e = .returned F ∧ SameFn 78 Value.string w' F xs ys ∧ Below w.heap.size w w' := by
  have hB : Below w.heap.size w ((w.alloc (.cells #[va] 34)).alloc (.cells #[vb] 34)) := ((Below.refl _ _).alloc (Nat.le_refl _) _).alloc (by rw [nblk_alloc]; omega) _
  have HX := Lib.hid (hx.below hB)
  have HY := Lib.hid (hy.below hB)
  have HB := Lib.hid hB
  obtain ⟨ax, cx, rfl, _⟩ := hx
  obtain ⟨ay, cy, rfl, _⟩ := hy
  clear hB
  go_enter Try.func58, Try.ntmps58
  go_wp2
  go_ret
  refine ⟨_, rfl, ⟨_, _, _, _, rfl, ?_, ?_, ?_, ?_, HX.out, HY.out⟩, HB.out⟩
  · simp; omega
  · simp
  · rw [World.cell?_alloc_lt _ _ _ (by simp)]; simp
  · have := World.cell?_alloc_new (w.alloc (.cells #[.slice ax xs.length cx] 34)) #[.slice ay ys.length cy] 34 0
    simp only [World.size_alloc] at this
    rw [this]; rfl

set_option maxHeartbeats 1000000 in
theorem edgeS_any (i j z : Int) (hz : 0 ≤ z ∧ z ≤ 4000000) (w : World) :
    Calls Try.prog 76 #[intV i, intV j, intV z] w fun e w' => e = .returned (intV (z + 1)) ∧ w = w' := by
  have hw : IntKind.i64.wrap (z + 1) = z + 1 := IntWalk.i64_in _ (by omega)
  go_enter Try.func76, Try.ntmps76
  go_wp2
  go_ret
  exact ⟨rfl, rfl⟩

set_option maxHeartbeats 2000000 in
theorem entryS_any (xs ys : List ByteArray) (i j : Nat) (hi : i < xs.length) (hj : j < ys.length) (lx : xs.length ≤ 1000000) (ly : ys.length ≤ 1000000) (z1 z2 z3 : Int) (h1 : 0 ≤ z1 ∧ z1 ≤ 4000000) (h2 : 0 ≤ z2 ∧ z2 ≤ 4000000) (h3 : 0 ≤ z3 ∧ z3 ≤ 4000000)
    (bs : Nat) (F : Value) (w : World) (cs : w.cell? ⟨bs, 0, none⟩ = some F) (hF : SameFn 78 Value.string w F xs ys) :
    Calls Try.prog 77 #[intV (i + 1 : Nat), intV (j + 1 : Nat), intV z1, intV z2, intV z3, .pointer (some ⟨bs, 0, none⟩)] w fun e w' => e = .returned (intV (if xs[i] = ys[j] then z1 else min (min z1 z2) z3 + 1)) ∧ Below w.heap.size w w' := by
  obtain ⟨b2, b3, va, vb, rfl, l2, l3, c2, c3, hx, hy⟩ := hF
  obtain ⟨r, hr⟩ : ∃ r, decide (xs[i] = ys[j]) = r := ⟨_, rfl⟩
  have HC := Lib.hid (sameS_any xs ys i j hi hj r hr lx ly b2 b3 va vb w c2 c3 hx hy)
  obtain ⟨i1, hi1⟩ : ∃ i1, i + 1 = i1 := ⟨_, rfl⟩
  obtain ⟨j1, hj1⟩ : ∃ j1, j + 1 = j1 := ⟨_, rfl⟩
  have hii : (i1 : Int) - 1 = (i : Int) := by omega
  have hji : (j1 : Int) - 1 = (j : Int) := by omega
  have hwi : IntKind.i64.wrap (i : Int) = (i : Int) := IntWalk.i64_in _ (by omega)
  have hwj : IntKind.i64.wrap (j : Int) = (j : Int) := IntWalk.i64_in _ (by omega)
  obtain ⟨m, hm⟩ : ∃ m, min (min z1 z2) z3 = m := ⟨_, rfl⟩
  have hmb : 0 ≤ m ∧ m ≤ 4000000 := by omega
  have hw : IntKind.i64.wrap (m + 1) = m + 1 := IntWalk.i64_in _ (by omega)
  have HM := Lib.hid hm
  rw [hi1, hj1, hm]
  clear c2 c3 hx hy hi1 hj1
  by_cases e : xs[i] = ys[j]
  · obtain rfl : true = r := by rw [← hr, decide_eq_true e]
    rw [if_pos e]
    clear hm hr e
    go_enter Try.func77, Try.ntmps77
    go_wp2_with fail
    refine HC.out.mono ?_
    rintro e w1 ⟨rfl, hb1⟩
    have HB := Lib.hid hb1
    clear hb1 HC
    go_wp2
    go_ret
    exact ⟨rfl, HB.out⟩
  · obtain rfl : false = r := by rw [← hr, decide_eq_false e]
    rw [if_neg e]
    clear hr e
    go_enter Try.func77, Try.ntmps77
    go_wp2_with fail
    refine HC.out.mono ?_
    rintro e w1 ⟨rfl, hb1⟩
    have HB := Lib.hid hb1
    clear hb1 HC
    go_wp2
    all_goals
      go_ret
      exact ⟨ret_int (by omega), HB.out⟩

set_option maxHeartbeats 4000000 in
theorem distanceS_any (xs ys : List ByteArray) (lx : xs.length ≤ 1000000) (ly : ys.length ≤ 1000000) (va vb : Value) (w : World) (hx : LAt Value.string w va xs) (hy : LAt Value.string w vb ys) :
    Calls Try.prog 57 #[va, vb] w fun e w' => e = .returned (pairV (seqR xs ys)) ∧ Below w.heap.size w w' := by
  obtain ⟨ax, cx, rfl, _⟩ := id hx
  obtain ⟨ay, cy, rfl, _⟩ := id hy
  have HX := Lib.hid hx
  have HY := Lib.hid hy
  clear hx hy
  obtain ⟨n, hn⟩ : ∃ n, xs.length = n := ⟨_, rfl⟩
  obtain ⟨m, hm⟩ : ∃ m, ys.length = m := ⟨_, rfl⟩
  by_cases hlong : 256 < n ∨ 256 < m
  · have hR : seqR xs ys = (0, 4) := by rw [seqR, hn, hm, if_pos hlong]
    rw [hR]
    have HT := Lib.hid (tooLong_any n m true (by simpa using hlong))
    rw [hn, hm]
    rw [hn] at lx
    rw [hm] at ly
    clear hn hm hR
    go_enter Try.func57, Try.ntmps57
    go_wp2_with fail
    refine (HT.out _).mono ?_
    rintro e w1 ⟨rfl, rfl⟩
    go_wp2
    go_ret2
    exact ⟨rfl, Below.refl _ _⟩
  · have hR : seqR xs ys = (((lev xs ys : Nat) : Int), 0) := by rw [seqR, hn, hm, if_neg hlong]
    rw [hR]
    have HT := Lib.hid (tooLong_any n m false (by simpa using hlong))
    have HE := Lib.hid (DG_end xs ys)
    rw [hn] at HX
    rw [hm] at HY
    rw [hn, hm] at HE
    rw [hn, hm]
    have HL := Lib.hid (And.intro hn (And.intro hm (And.intro lx ly)))
    have hn2 : n ≤ 256 := by omega
    have hm2 : m ≤ 256 := by omega
    clear hn hm hR hlong lx ly
    go_enter Try.func57, Try.ntmps57
    go_wp2_with fail
    refine (HT.out _).mono ?_
    rintro e w1 ⟨rfl, rfl⟩
    go_wp2_with fail
    refine (sameAtS_any xs ys _ _ _ HX.out HY.out).mono ?_
    rintro e w1 ⟨F, rfl, hF, hb1⟩
    obtain ⟨b2, b3, va, vb, rfl, _⟩ := id hF
    obtain ⟨N, hN⟩ : ∃ N, w1.heap.size = N := ⟨_, rfl⟩
    have hst : (w1.alloc (.cells #[Value.nilFunc] 58)).cell? ⟨N, 0, none⟩ = some Value.nilFunc := by rw [← hN, World.cell?_alloc_new]; rfl
    have hfz : (w1.alloc (.cells #[Value.nilFunc] 58)).frozen? ⟨N, 0, none⟩ = false := by rw [← hN, World.frozen?_alloc_new]
    have hB2 : Below w1.heap.size w1 (w1.alloc (.cells #[Value.func (.func 78) #[] #[.pointer (some ⟨b2, 0, none⟩), .pointer (some ⟨b3, 0, none⟩)]] 58)) :=
      (Below.refl _ _).alloc (Nat.le_refl _) _
    have hcell : (w1.alloc (.cells #[Value.func (.func 78) #[] #[.pointer (some ⟨b2, 0, none⟩), .pointer (some ⟨b3, 0, none⟩)]] 58)).cell? ⟨N, 0, none⟩ = some (.func (.func 78) #[] #[.pointer (some ⟨b2, 0, none⟩), .pointer (some ⟨b3, 0, none⟩)]) := by
      rw [← hN, World.cell?_alloc_new]; rfl
    have HF := Lib.hid (hF.below hB2)
    have HB := Lib.hid (below_seq hb1 hB2 hb1.size)
    have HC := Lib.hid hcell
    have hN2 : N < (w1.alloc (.cells #[Value.func (.func 78) #[] #[.pointer (some ⟨b2, 0, none⟩), .pointer (some ⟨b3, 0, none⟩)]] 58)).heap.size := by rw [nblk_alloc, hN]; omega
    have HN2 := Lib.hid hN2
    clear hF hb1 hB2 hcell hN2
    go_wp2_with fail
    clear hst hfz
    obtain ⟨w2, hw2⟩ : ∃ w2, (w1.alloc (.cells #[Value.func (.func 78) #[] #[.pointer (some ⟨b2, 0, none⟩), .pointer (some ⟨b3, 0, none⟩)]] 58)) = w2 := ⟨_, rfl⟩
    rw [hw2] at HF HB HC HN2
    have HW := Lib.hid hw2
    obtain ⟨h1, h2, h3, h4⟩ := HL.out
    refine Calls.mono (R := fun e W' => ∃ z, e = .returned (intV z) ∧ z = DG xs ys n m ∧ Below w2.heap.size w2 W') ?_ ?_
    · have hfill := fillInt_any n m (by omega) (by omega) 76 77 #[] #[.pointer (some ⟨N, 0, none⟩)] (fun i j z => z = DG xs ys i j) w2 Try.call76 Try.call77
        (by rw [DG_zero xs ys 0 (Nat.zero_le _)]; rfl)
        (fun W j z hW hj hz => (edgeS_any 0 (j + 1 : Nat) z (by have := DG_bd xs ys 0 j (by omega) (by omega); omega) W).mono (by
          rintro e w' ⟨rfl, rfl⟩
          exact ⟨_, rfl, by rw [hz, DG_zero xs ys j (by omega), DG_zero xs ys (j + 1) (by omega)]; omega, Below.refl _ _⟩))
        (fun W i z hW hi hz => (edgeS_any (i + 1 : Nat) 0 z (by have := DG_bd xs ys i 0 (by omega) (by omega); omega) W).mono (by
          rintro e w' ⟨rfl, rfl⟩
          exact ⟨_, rfl, by rw [hz, DG_left xs ys i (by omega), DG_left xs ys (i + 1) (by omega)]; omega, Below.refl _ _⟩))
        (fun W i j z1 z2 z3 hW hi hj hz1 hz2 hz3 => (entryS_any xs ys i j (by omega) (by omega) h3 h4 z1 z2 z3
            (by have := DG_bd xs ys i j (by omega) (by omega); omega) (by have := DG_bd xs ys i (j + 1) (by omega) (by omega); omega) (by have := DG_bd xs ys (i + 1) j (by omega) (by omega); omega)
            N _ W ((hW.cell (p := ⟨N, 0, none⟩) HN2.out).trans HC.out) (HF.out.below hW)).mono (by
          rintro e w' ⟨rfl, hb⟩
          refine ⟨_, rfl, ?_, hb⟩
          by_cases e : xs[i] = ys[j]
          · rw [if_pos e, hz1, DG_same xs ys i j (by omega) (by omega) e]
          · rw [if_neg e, hz1, hz2, hz3, DG_other xs ys i j (by omega) (by omega) e]))
      rw [HW.out]
      exact hfill
    · rintro e w3 ⟨z, rfl, rfl, hb3⟩
      have hz := HE.out
      rw [hz]
      have HB3 := Lib.hid (below_seq HB.out hb3 HB.out.size)
      clear hb3 hz
      go_wp2
      go_ret2
      exact ⟨rfl, HB3.out⟩
end Go.Proofs.Ytbdeakodmhcgdaa
