/- The reference's SameWords and GreatWords. -/
import Derived.Test.YtbdeakodmhcgdaaEdRefSmall
namespace Go.Proofs.Ytbdeakodmhcgdaa
set_option linter.unusedSimpArgs false
set_option linter.unusedVariables false
set_option maxRecDepth 100000
open Go.RowKit Go.Deep

theorem take_next {α : Type} {xs ys : List α} {k : Nat} (hx : k < xs.length) (hy : k < ys.length) (h : xs.take k = ys.take k) (e : xs[k] = ys[k]) : xs.take (k + 1) = ys.take (k + 1) := by
  rw [← List.take_append_getElem hx, ← List.take_append_getElem hy, h, e]
theorem same_not {α : Type} {xs ys : List α} {k : Nat} (hx : k < xs.length) (hy : k < ys.length) (e : xs[k] ≠ ys[k]) : xs ≠ ys := by
  intro h; subst h; exact e rfl
set_option maxHeartbeats 1000000 in
theorem refSame_any (xs ys : List ByteArray) (vx vy : Value) (w : World) (hx : StrsAt w vx xs) (hy : StrsAt w vy ys) (lx : xs.length ≤ 1000000) (ly : ys.length ≤ 1000000) :
    Calls Try.prog 32 #[vx, vy] w fun e w' => e = .returned (.bool (decide (xs = ys))) ∧ Below w.heap.size w w' := by
  obtain ⟨ax, cx, rfl, hcx⟩ := hx
  obtain ⟨ay, cy, rfl, hcy⟩ := hy
  have HX := Lib.hid hcx
  have HY := Lib.hid hcy
  clear hcx hcy
  by_cases hl : xs.length = ys.length
  · have HL := Lib.hid hl
    have hli : (xs.length : Int) = (ys.length : Int) := by omega
    clear hl
    go_enter Try.func32, Try.ntmps32
    go_wp2
    go_loopw [5] (fun i wr => ∃ k : Nat, k ≤ ys.length ∧ i = .int .i64 k ∧ xs.take k = ys.take k ∧ Below w.heap.size w wr) (fun i _ => ys.length - (intOf i).toNat)
    case atStart => exact ⟨0, Nat.zero_le _, rfl, rfl, Below.refl _ _⟩
    case round =>
      obtain ⟨k, hk, rfl, ht, hB⟩ := hrel
      have HT := Lib.hid ht
      clear ht
      by_cases hlt : k < ys.length
      · have hltx : k < xs.length := by have := HL.out; omega
        obtain ⟨bx, ox, rfl, hbx, hcx⟩ := HX.out (by omega)
        obtain ⟨bY, oY, rfl, hbY, hcY⟩ := HY.out (by omega)
        have cx1 := (hB.cell (p := ⟨bx, ox + k, none⟩) hbx).trans (hcx k hltx)
        have cy1 := (hB.cell (p := ⟨bY, oY + k, none⟩) hbY).trans (hcY k hlt)
        clear hcx hcY
        obtain ⟨sx, hsx⟩ : ∃ z, xs[k] = z := ⟨_, rfl⟩
        obtain ⟨sy, hsy⟩ : ∃ z, ys[k] = z := ⟨_, rfl⟩
        rw [hsx] at cx1
        rw [hsy] at cy1
        by_cases e : sx = sy
        · have HN := Lib.hid (take_next hltx hlt HT.out (hsx.trans (e.trans hsy.symm)))
          clear hsx hsy
          subst e
          go_wp2_with fail
          go_region
          go_wp2
          go_roundw
          case rel => exact ⟨k + 1, by omega, by go_num, HN.out, hB.drew⟩
          case measure => simp [intOf]; omega
        · have HN := Lib.hid (same_not hltx hlt (by rw [hsx, hsy]; exact e))
          have hne : (sx.toList == sy.toList) = false := by rw [Bool.eq_false_iff]; intro e0; exact e (bytes_eq (by simpa using e0))
          clear hsx hsy
          go_wp2_with fail
          go_region
          go_wp2
          go_ret
          exact ⟨ret_bool (by simp [HN.out]), hB.drew⟩
      · have HN := Lib.hid (show xs = ys by
          have := HT.out
          rw [List.take_of_length_le (by have := HL.out; omega), List.take_of_length_le (by omega)] at this
          exact this)
        go_wp2
        go_ret
        exact ⟨ret_bool (by simp [HN.out]), hB⟩
  · have hne : xs ≠ ys := fun e => hl (by rw [e])
    have HN := Lib.hid hne
    have hli : ((xs.length : Int) == (ys.length : Int)) = false := by simp; omega
    clear hne
    go_enter Try.func32, Try.ntmps32
    go_wp2
    go_ret
    exact ⟨ret_bool (by simp [HN.out]), Below.refl _ _⟩

/-- is a list of strings greater than is compared -/
def greatW (xs : List ByteArray) (n : Int) : Bool := greatB xs.length n || xs.any fun s => decide (8 < s.size)
set_option maxHeartbeats 1000000 in
theorem refGreatWords_any (xs : List ByteArray) (n : Int) (vx : Value) (w : World) (hx : StrsAt w vx xs) (lx : xs.length ≤ maxLen) :
    Calls Try.prog 23 #[vx, .int .i64 n] w fun e w' => e = .returned (.bool (greatW xs n)) ∧ w = w' := by
  unfold maxLen at lx
  obtain ⟨ax, cx, rfl, hcx⟩ := hx
  have HX := Lib.hid hcx
  clear hcx
  by_cases hg : greatB xs.length n = true
  · have hr : greatW xs n = true := by rw [greatW, hg]; rfl
    rw [hr]
    clear hr
    rw [greatB] at hg
    rcases (show ((n < xs.length ∧ xs.length ≤ 256) ∨ (n < xs.length ∧ 256 < xs.length ∧ 258 < xs.length) ∨ ((xs.length : Int) ≤ n ∧ 258 < xs.length)) by simp at hg; omega) with ⟨h1, h2⟩ | ⟨h1, h2, h3⟩ | ⟨h1, h2⟩
    all_goals
      clear hg
      go_enter Try.func23, Try.ntmps23
      go_wp2
      go_ret
      exact ⟨rfl, rfl⟩
  · have hr : greatW xs n = xs.any fun s => decide (8 < s.size) := by rw [greatW, show greatB xs.length n = false by simpa using hg]; rfl
    rw [hr]
    have HR := Lib.hid hr
    clear hr
    rw [greatB] at hg
    have hways : (n < xs.length ∧ 256 < xs.length ∧ xs.length ≤ 258) ∨ ((xs.length : Int) ≤ n ∧ xs.length ≤ 258) := by simp at hg; omega
    clear hg
    rcases hways with ⟨h1, h2, h3⟩ | ⟨h1, h2⟩
    all_goals
      go_enter Try.func23, Try.ntmps23
      go_wp2
      go_loop [5] (fun i => ∃ k : Nat, k ≤ xs.length ∧ i = .int .i64 k ∧ (xs.take k).any (fun s => decide (8 < s.size)) = false) (fun i => xs.length - (intOf i).toNat)
      case atStart => exact ⟨0, Nat.zero_le _, rfl, rfl⟩
      case round =>
        obtain ⟨k, hk, rfl, ha⟩ := hrel
        have HA := Lib.hid ha
        clear ha
        by_cases hlt : k < xs.length
        · obtain ⟨bx, ox, rfl, hbx, hcx⟩ := HX.out (by omega)
          have cx1 := hcx k hlt
          clear hcx
          obtain ⟨sx, hsx⟩ : ∃ z, xs[k] = z := ⟨_, rfl⟩
          rw [hsx] at cx1
          by_cases h8 : 8 < sx.size
          · have HN := Lib.hid (show (xs.any fun s => decide (8 < s.size)) = true from List.any_eq_true.2 ⟨sx, hsx ▸ List.getElem_mem hlt, by simpa using h8⟩)
            clear hsx
            go_wp2
            go_ret
            exact ⟨ret_bool HN.out.symm, rfl⟩
          · have HN := Lib.hid (show ((xs.take (k + 1)).any fun s => decide (8 < s.size)) = false by
              rw [← List.take_append_getElem hlt, List.any_append, HA.out, hsx]; simp; omega)
            clear hsx
            go_wp2
            go_round
            case rel => exact ⟨k + 1, by omega, by go_num, HN.out⟩
            case measure => simp [intOf]; omega
        · have HN := Lib.hid (show (xs.any fun s => decide (8 < s.size)) = false by have := HA.out; rwa [List.take_of_length_le (by omega)] at this)
          go_wp2
          go_ret
          exact ⟨ret_bool HN.out.symm, rfl⟩
end Go.Proofs.Ytbdeakodmhcgdaa
