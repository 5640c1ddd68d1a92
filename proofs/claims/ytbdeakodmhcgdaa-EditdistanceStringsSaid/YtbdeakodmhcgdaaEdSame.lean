/- The reference's SameEdits. -/
import Derived.Test.YtbdeakodmhcgdaaEdEdits
namespace Go.Proofs.Ytbdeakodmhcgdaa
set_option linter.unusedSimpArgs false
set_option linter.unusedVariables false
set_option maxRecDepth 100000
open Go.RowKit Go.Deep

set_option maxHeartbeats 1000000 in
theorem refSameEdits_any (xs ys : List EdV) (vx vy : Value) (w : World) (hx : EditsAt w vx xs) (hy : EditsAt w vy ys) (lx : xs.length ≤ 1000000) (ly : ys.length ≤ 1000000) :
    Calls Try.prog 22 #[vx, vy] w fun e w' => e = .returned (.bool (decide (xs = ys))) ∧ Below w.heap.size w w' := by
  obtain ⟨ax, cx, rfl, hcx⟩ := hx
  obtain ⟨ay, cy, rfl, hcy⟩ := hy
  have HX := Lib.hid hcx
  have HY := Lib.hid hcy
  clear hcx hcy
  by_cases hl : xs.length = ys.length
  · have HL := Lib.hid hl
    have hli : (xs.length : Int) = (ys.length : Int) := by omega
    clear hl
    go_enter Try.func22, Try.ntmps22
    go_wp2
    go_loopw [5] (fun i wr => ∃ k : Nat, k ≤ ys.length ∧ i = .int .i64 k ∧ xs.take k = ys.take k ∧ Below w.heap.size w wr) (fun i _ => ys.length - (intOf i).toNat)
    case atStart => exact ⟨0, Nat.zero_le _, rfl, rfl, Below.refl _ _⟩
    case round =>
      obtain ⟨k, hk, rfl, ht, hB⟩ := hrel
      have HT := Lib.hid ht
      clear ht
      by_cases hlt : k < ys.length
      · have hltx : k < xs.length := by have := HL.out; omega
        obtain ⟨bx, ox, rfl, hbx, hcx⟩ := HX.out (by omega)
        obtain ⟨bY, oY, rfl, hbY, hcY⟩ := HY.out (by omega)
        obtain ⟨q1, q2, q3⟩ := hcx k hltx
        obtain ⟨r1, r2, r3⟩ := hcY k hlt
        have cx1 := (hB.cell (p := ⟨bx, ox + k * 3, none⟩) hbx).trans q1
        have cx2 := (hB.cell (p := ⟨bx, ox + k * 3 + 1, none⟩) hbx).trans q2
        have cx3 := (hB.cell (p := ⟨bx, ox + k * 3 + 2, none⟩) hbx).trans q3
        have cy1 := (hB.cell (p := ⟨bY, oY + k * 3, none⟩) hbY).trans r1
        have cy2 := (hB.cell (p := ⟨bY, oY + k * 3 + 1, none⟩) hbY).trans r2
        have cy3 := (hB.cell (p := ⟨bY, oY + k * 3 + 2, none⟩) hbY).trans r3
        clear hcx hcY q1 q2 q3 r1 r2 r3
        obtain ⟨ex, hex⟩ : ∃ z, xs[k] = z := ⟨_, rfl⟩
        obtain ⟨ey, hey⟩ : ∃ z, ys[k] = z := ⟨_, rfl⟩
        rw [hex] at cx1 cx2 cx3
        rw [hey] at cy1 cy2 cy3
        by_cases e : ex = ey
        · have HN := Lib.hid (take_next hltx hlt HT.out (hex.trans (e.trans hey.symm)))
          clear hex hey
          subst e
          obtain ⟨p, l, t⟩ := ex
          simp only at cx1 cx2 cx3 cy1 cy2 cy3
          go_wp2_with fail
          go_region
          go_wp2
          go_roundw
          case rel => exact ⟨k + 1, by omega, by go_num, HN.out, hB.drew⟩
          case measure => simp [intOf]; omega
        · have HN := Lib.hid (same_not hltx hlt (by rw [hex, hey]; exact e))
          obtain ⟨p, l, t⟩ := ex
          obtain ⟨p2, l2, t2⟩ := ey
          simp only at cx1 cx2 cx3 cy1 cy2 cy3
          clear hex hey
          have hways : ¬ p = p2 ∨ (p2 = p ∧ ¬ l = l2) ∨ (p2 = p ∧ l2 = l ∧ ¬ t.toList = t2.toList) := by
            by_cases e1 : p2 = p
            · by_cases e2 : l2 = l
              · exact .inr (.inr ⟨e1, e2, fun e3 => e (by rw [e1, e2, bytes_eq e3])⟩)
              · exact .inr (.inl ⟨e1, fun e3 => e2 e3.symm⟩)
            · exact .inl fun e3 => e1 e3.symm
          clear e
          rcases hways with h1 | ⟨rfl, h1⟩ | ⟨rfl, rfl, h1⟩
          all_goals
            go_wp2_with fail
            go_region
            go_wp2
            go_ret
            exact ⟨ret_bool (by simp [HN.out]), hB.drew⟩
      · have HN := Lib.hid (show xs = ys by
          have := HT.out
          rw [List.take_of_length_le (by have := HL.out; omega), List.take_of_length_le (by omega)] at this
          exact this)
        go_wp2
        go_ret
        exact ⟨ret_bool (by simp [HN.out]), hB⟩
  · have hne : xs ≠ ys := fun e => hl (by rw [e])
    have HN := Lib.hid hne
    have hli : ((xs.length : Int) == (ys.length : Int)) = false := by simp; omega
    clear hne
    go_enter Try.func22, Try.ntmps22
    go_wp2
    go_ret
    exact ⟨ret_bool (by simp [HN.out]), Below.refl _ _⟩
end Go.Proofs.Ytbdeakodmhcgdaa
