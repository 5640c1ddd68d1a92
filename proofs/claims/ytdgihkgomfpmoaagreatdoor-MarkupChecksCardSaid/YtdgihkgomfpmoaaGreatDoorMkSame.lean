/- The reference's Same, and slices.Equal over strings. -/
import Derived.Test.YtdgihkgomfpmoaaGreatDoorMkHelp
namespace Go.Proofs.YtdgihkgomfpmoaaGreatDoor
set_option linter.unusedSimpArgs false
set_option linter.unusedVariables false
set_option maxRecDepth 100000
open Go.RowKit Go.Deep

theorem take_next {α : Type} {xs ys : List α} {k : Nat} (hx : k < xs.length) (hy : k < ys.length) (h : xs.take k = ys.take k) (e : xs[k] = ys[k]) : xs.take (k + 1) = ys.take (k + 1) := by
  rw [← List.take_append_getElem hx, ← List.take_append_getElem hy, h, e]
theorem same_not {α : Type} {xs ys : List α} {k : Nat} (hx : k < xs.length) (hy : k < ys.length) (e : xs[k] ≠ ys[k]) : xs ≠ ys := by
  intro h; subst h; exact e rfl
theorem bytes_eq {a b : ByteArray} (h : a.toList = b.toList) : a = b := by
  rw [ByteArray.toList_eq, ByteArray.toList_eq] at h
  obtain ⟨⟨a⟩⟩ := a
  obtain ⟨⟨b⟩⟩ := b
  exact congrArg (fun l => ByteArray.mk (Array.mk l)) h
theorem below_drew {N : Nat} {w wr : World} (h : Below N w wr) : Below N w wr.drew := h.trans (below_drewN_n N wr 1)
theorem lx_ways {x y : Lx} (h : x ≠ y) : ¬ x.k = y.k ∨ (y.k = x.k ∧ ¬ x.n = y.n) ∨ (y.k = x.k ∧ y.n = x.n ∧ ¬ x.v = y.v) ∨ (y.k = x.k ∧ y.n = x.n ∧ y.v = x.v ∧ ¬ x.o = y.o) := by
  obtain ⟨a, b, c, d⟩ := x
  obtain ⟨a2, b2, c2, d2⟩ := y
  simp only [ne_eq, Lx.mk.injEq, not_and] at h
  simp only
  by_cases e1 : a = a2
  · by_cases e2 : b = b2
    · by_cases e3 : c = c2
      · exact .inr (.inr (.inr ⟨e1.symm, e2.symm, e3.symm, h e1 e2 e3⟩))
      · exact .inr (.inr (.inl ⟨e1.symm, e2.symm, e3⟩))
    · exact .inr (.inl ⟨e1.symm, e2⟩)
  · exact .inl e1
theorem ba_not {a b : Bs} (h : ¬ a = b) : ¬ (baL a).toList = (baL b).toList := fun e => h (baL_inj (bytes_eq e))
set_option maxHeartbeats 1000000 in
theorem same_any (xs ys : List Lx) (vx vy : Value) (w : World) (hx : LexAt w vx xs) (hy : LexAt w vy ys) (lx : xs.length ≤ 1000000) (ly : ys.length ≤ 1000000) :
    Calls Tryz.prog 11 #[vx, vy] w fun e w' => e = .returned (.bool (decide (xs = ys))) ∧ Below w.heap.size w w' := by
  have HX := Lib.hid hx
  have HY := Lib.hid hy
  obtain ⟨ax, cx, rfl⟩ := hx.slice
  obtain ⟨ay, cy, rfl⟩ := hy.slice
  clear hx hy
  by_cases hl : xs.length = ys.length
  · have HL := Lib.hid hl
    have hli : (xs.length : Int) = (ys.length : Int) := by omega
    clear hl
    go_enter Tryz.func11, Tryz.ntmps11
    go_wp2
    go_loopw [5] (fun i wr => ∃ k : Nat, k ≤ ys.length ∧ i = .int .i64 k ∧ xs.take k = ys.take k ∧ Below w.heap.size w wr) (fun i _ => ys.length - (intOf i).toNat)
    case atStart => exact ⟨0, Nat.zero_le _, rfl, rfl, Below.refl _ _⟩
    case round =>
      obtain ⟨k, hk, rfl, ht, hB⟩ := hrel
      obtain ⟨wk, rfl⟩ : ∃ x, x = wr := ⟨_, rfl⟩
      have HT := Lib.hid ht
      clear ht
      by_cases hlt : k < ys.length
      · have hltx : k < xs.length := by have := HL.out; omega
        obtain ⟨bx, ox, rfl, hbx, p1, p2, p3, p4⟩ := HX.out.elem hltx
        obtain ⟨bY, oY, rfl, hbY, q1, q2, q3, q4⟩ := HY.out.elem hlt
        have cx1 := (hB.cell (p := ⟨bx, ox + k * 4, none⟩) hbx).trans p1
        have cx2 := (hB.cell (p := ⟨bx, ox + k * 4 + 1, none⟩) hbx).trans p2
        have cx3 := (hB.cell (p := ⟨bx, ox + k * 4 + 2, none⟩) hbx).trans p3
        have cx4 := (hB.cell (p := ⟨bx, ox + k * 4 + 3, none⟩) hbx).trans p4
        have cy1 := (hB.cell (p := ⟨bY, oY + k * 4, none⟩) hbY).trans q1
        have cy2 := (hB.cell (p := ⟨bY, oY + k * 4 + 1, none⟩) hbY).trans q2
        have cy3 := (hB.cell (p := ⟨bY, oY + k * 4 + 2, none⟩) hbY).trans q3
        have cy4 := (hB.cell (p := ⟨bY, oY + k * 4 + 3, none⟩) hbY).trans q4
        clear p1 p2 p3 p4 q1 q2 q3 q4
        obtain ⟨ex, hex⟩ : ∃ z, xs[k] = z := ⟨_, rfl⟩
        obtain ⟨ey, hey⟩ : ∃ z, ys[k] = z := ⟨_, rfl⟩
        rw [hex] at cx1 cx2 cx3 cx4
        rw [hey] at cy1 cy2 cy3 cy4
        have HB := Lib.hid (below_drew hB)
        by_cases e : ex = ey
        · have HN := Lib.hid (take_next hltx hlt HT.out (hex.trans (e.trans hey.symm)))
          clear hex hey
          subst e
          obtain ⟨p, n, v, o⟩ := ex
          simp only at cx1 cx2 cx3 cx4 cy1 cy2 cy3 cy4
          go_wp2_with fail
          go_region
          go_wp2
          go_roundw
          case rel => exact ⟨k + 1, by omega, by go_num, HN.out, HB.out⟩
          case measure => simp [intOf]; omega
        · have HN := Lib.hid (same_not hltx hlt (by rw [hex, hey]; exact e))
          have hways := lx_ways e
          clear hex hey e
          obtain ⟨p, n, v, o⟩ := ex
          obtain ⟨p2, n2, v2, o2⟩ := ey
          simp only at cx1 cx2 cx3 cx4 cy1 cy2 cy3 cy4 hways
          rcases hways with h1 | ⟨rfl, h1⟩ | ⟨rfl, rfl, h1⟩ | ⟨rfl, rfl, rfl, h1⟩
          · go_wp2_with fail
            go_region
            go_wp2
            go_ret
            exact ⟨ret_bool (by simp [HN.out]), HB.out⟩
          · replace h1 := ba_not h1
            go_wp2_with fail
            go_region
            go_wp2
            go_ret
            exact ⟨ret_bool (by simp [HN.out]), HB.out⟩
          · replace h1 := ba_not h1
            go_wp2_with fail
            go_region
            go_wp2
            go_ret
            exact ⟨ret_bool (by simp [HN.out]), HB.out⟩
          · go_wp2_with fail
            go_region
            go_wp2
            go_ret
            exact ⟨ret_bool (by simp [HN.out]), HB.out⟩
      · have HN := Lib.hid (show xs = ys by
          have := HT.out
          rw [List.take_of_length_le (by have := HL.out; omega), List.take_of_length_le (by omega)] at this
          exact this)
        go_wp2
        go_ret
        exact ⟨ret_bool (by simp [HN.out]), hB⟩
  · have hne : xs ≠ ys := fun e => hl (by rw [e])
    have HN := Lib.hid hne
    have hli : ((xs.length : Int) == (ys.length : Int)) = false := by simp; omega
    clear hne
    go_enter Tryz.func11, Tryz.ntmps11
    go_wp2
    go_ret
    exact ⟨ret_bool (by simp [HN.out]), Below.refl _ _⟩
set_option maxHeartbeats 1000000 in
theorem equalW_any (xs ys : List Bs) (vx vy : Value) (w : World) (hx : WordsAt w vx xs) (hy : WordsAt w vy ys) (lx : xs.length ≤ 1000000) (ly : ys.length ≤ 1000000) :
    Calls Tryz.prog 12 #[vx, vy] w fun e w' => e = .returned (.bool (decide (xs = ys))) ∧ Below w.heap.size w w' := by
  have HX := Lib.hid hx
  have HY := Lib.hid hy
  obtain ⟨ax, cx, rfl⟩ := hx.slice
  obtain ⟨ay, cy, rfl⟩ := hy.slice
  clear hx hy
  by_cases hl : xs.length = ys.length
  · have HL := Lib.hid hl
    have hli : (xs.length : Int) = (ys.length : Int) := by omega
    clear hl
    go_enter Tryz.func12, Tryz.ntmps12
    go_wp2
    go_loopw [13] (fun i wr => ∃ k : Nat, k ≤ ys.length ∧ i = .int .i64 k ∧ xs.take k = ys.take k ∧ Below w.heap.size w wr) (fun i _ => ys.length - (intOf i).toNat)
    case atStart => exact ⟨0, Nat.zero_le _, rfl, rfl, Below.refl _ _⟩
    case round =>
      obtain ⟨k, hk, rfl, ht, hB⟩ := hrel
      obtain ⟨wk, rfl⟩ : ∃ x, x = wr := ⟨_, rfl⟩
      have HT := Lib.hid ht
      clear ht
      by_cases hlt : k < ys.length
      · have hltx : k < xs.length := by have := HL.out; omega
        obtain ⟨bx, ox, rfl, hbx, p1⟩ := HX.out.elem hltx
        obtain ⟨bY, oY, rfl, hbY, q1⟩ := HY.out.elem hlt
        have cx1 := (hB.cell (p := ⟨bx, ox + k, none⟩) hbx).trans p1
        have cy1 := (hB.cell (p := ⟨bY, oY + k, none⟩) hbY).trans q1
        clear p1 q1
        obtain ⟨ex, hex⟩ : ∃ z, xs[k] = z := ⟨_, rfl⟩
        obtain ⟨ey, hey⟩ : ∃ z, ys[k] = z := ⟨_, rfl⟩
        rw [hex] at cx1
        rw [hey] at cy1
        have HB := Lib.hid (below_drew hB)
        by_cases e : ex = ey
        · have HN := Lib.hid (take_next hltx hlt HT.out (hex.trans (e.trans hey.symm)))
          clear hex hey
          subst e
          go_wp2_with fail
          go_region
          go_wp2
          go_roundw
          case rel => exact ⟨k + 1, by omega, by go_num, HN.out, HB.out⟩
          case measure => simp [intOf]; omega
        · have HN := Lib.hid (same_not hltx hlt (by rw [hex, hey]; exact e))
          have h1 : ((baL ex).toList == (baL ey).toList) = false := beq_eq_false_iff_ne.2 (ba_not e)
          clear hex hey e
          go_wp2_with fail
          go_region
          go_wp2
          go_ret
          exact ⟨ret_bool (by simp [HN.out]), HB.out⟩
      · have HN := Lib.hid (show xs = ys by
          have := HT.out
          rw [List.take_of_length_le (by have := HL.out; omega), List.take_of_length_le (by omega)] at this
          exact this)
        go_wp2
        go_ret
        exact ⟨ret_bool (by simp [HN.out]), hB⟩
  · have hne : xs ≠ ys := fun e => hl (by rw [e])
    have HN := Lib.hid hne
    have hli : ((xs.length : Int) == (ys.length : Int)) = false := by simp; omega
    clear hne
    go_enter Tryz.func12, Tryz.ntmps12
    go_wp2
    go_ret
    exact ⟨ret_bool (by simp [HN.out]), Below.refl _ _⟩
end Go.Proofs.YtdgihkgomfpmoaaGreatDoor
