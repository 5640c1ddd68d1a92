/- The statements' own 'within': does a list result from another one by leaving out elements. -/
import Derived.Test.YtbdeakodmhcgdaaEdRefWords
import Derived.Test.YtbdeakodmhcgdaaEdCommon
namespace Go.Proofs.Ytbdeakodmhcgdaa
set_option linter.unusedSimpArgs false
set_option linter.unusedVariables false
set_option maxRecDepth 100000
open Go.RowKit Go.Deep

theorem sub_same {α : Type} {xs ys : List α} {k i : Nat} (hx : k < xs.length) (hy : i < ys.length) (e : ys[i] = xs[k]) : (xs.drop k).Sublist (ys.drop i) ↔ (xs.drop (k + 1)).Sublist (ys.drop (i + 1)) := by
  rw [List.drop_eq_getElem_cons hx, List.drop_eq_getElem_cons hy, e, List.cons_sublist_cons]
theorem sub_ne {α : Type} {x y : α} {a b : List α} (h : (x :: a).Sublist (y :: b)) (e : y ≠ x) : (x :: a).Sublist b := by
  cases h with
  | cons _ h => exact h
  | cons_cons _ h => exact absurd rfl e
theorem sub_skip {α : Type} {xs ys : List α} {k i : Nat} (hx : k < xs.length) (hy : i < ys.length) (e : ys[i] ≠ xs[k]) : (xs.drop k).Sublist (ys.drop i) ↔ (xs.drop k).Sublist (ys.drop (i + 1)) := by
  rw [List.drop_eq_getElem_cons hx, List.drop_eq_getElem_cons hy]
  constructor
  · exact fun h => sub_ne h e
  · exact fun h => .cons _ h
set_option maxHeartbeats 1000000 in
theorem within_any (xs ys : List ByteArray) (vx vy : Value) (w : World) (hx : StrsAt w vx xs) (hy : StrsAt w vy ys) (lx : xs.length ≤ 1000000) (ly : ys.length ≤ 1000000) :
    Calls Try.prog 34 #[vx, vy] w fun e w' => ∃ b : Bool, e = .returned (.bool b) ∧ (b = true ↔ xs.Sublist ys) ∧ Below w.heap.size w w' := by
  obtain ⟨ax, cx, rfl, hcx⟩ := hx
  obtain ⟨ay, cy, rfl, hcy⟩ := hy
  have HX := Lib.hid hcx
  have HY := Lib.hid hcy
  clear hcx hcy
  go_enter Try.func34, Try.ntmps34
  go_wp2
  go_loopw [5, 6] (fun kv iv wr => ∃ k i : Nat, k ≤ xs.length ∧ i ≤ ys.length ∧ kv = .int .i64 k ∧ iv = .int .i64 i ∧ (xs.Sublist ys ↔ (xs.drop k).Sublist (ys.drop i)) ∧ Below w.heap.size w wr) (fun _ iv _ => ys.length - (intOf iv).toNat)
  case atStart => exact ⟨0, 0, Nat.zero_le _, Nat.zero_le _, rfl, rfl, Iff.rfl, Below.refl _ _⟩
  case round =>
    obtain ⟨k, i, hk, hi, rfl, rfl, hs, hB⟩ := hrel
    have HS := Lib.hid hs
    clear hs
    by_cases hi2 : i < ys.length
    · by_cases hk2 : k < xs.length
      · obtain ⟨bx, ox, rfl, hbx, hcx⟩ := HX.out (by omega)
        obtain ⟨bY, oY, rfl, hbY, hcY⟩ := HY.out (by omega)
        have cx1 := (hB.cell (p := ⟨bx, ox + k, none⟩) hbx).trans (hcx k hk2)
        have cy1 := (hB.cell (p := ⟨bY, oY + i, none⟩) hbY).trans (hcY i hi2)
        clear hcx hcY
        obtain ⟨sx, hsx⟩ : ∃ z, xs[k] = z := ⟨_, rfl⟩
        obtain ⟨sy, hsy⟩ : ∃ z, ys[i] = z := ⟨_, rfl⟩
        rw [hsx] at cx1
        rw [hsy] at cy1
        by_cases e : sy = sx
        · have HN := Lib.hid (HS.out.trans (sub_same hk2 hi2 (by rw [hsx, hsy]; exact e)))
          clear hsx hsy
          subst e
          go_wp2_with fail
          go_region
          go_wp2
          go_roundw
          case rel => exact ⟨k + 1, i + 1, by omega, by omega, by go_num, by go_num, HN.out, hB.drew⟩
          case measure => simp [intOf]; omega
        · have HN := Lib.hid (HS.out.trans (sub_skip hk2 hi2 (by rw [hsx, hsy]; exact e)))
          have hne : (sy.toList == sx.toList) = false := by rw [Bool.eq_false_iff]; intro e0; exact e (bytes_eq (by simpa using e0))
          clear hsx hsy
          go_wp2_with fail
          go_region
          go_wp2
          go_roundw
          case rel => exact ⟨k, i + 1, by omega, by omega, rfl, by go_num, HN.out, hB.drew⟩
          case measure => simp [intOf]; omega
      · obtain rfl : xs.length = k := by omega
        have HN := Lib.hid (HS.out.2 (by rw [List.drop_length]; exact List.nil_sublist _))
        go_wp2
        go_ret
        exact ⟨true, rfl, ⟨fun _ => HN.out, fun _ => rfl⟩, hB⟩
    · obtain rfl : ys.length = i := by omega
      by_cases hk2 : k < xs.length
      · have HN := Lib.hid (show ¬ xs.Sublist ys from fun h => by
          have := HS.out.1 h
          rw [List.drop_length, List.drop_eq_getElem_cons hk2] at this
          cases this)
        have hkn : ((k : Int) == (xs.length : Int)) = false := by simp; omega
        go_wp2
        go_ret
        exact ⟨false, rfl, ⟨fun h => absurd h (by simp), fun h => absurd h HN.out⟩, hB⟩
      · obtain rfl : xs.length = k := by omega
        have HN := Lib.hid (HS.out.2 (by rw [List.drop_length]; exact List.nil_sublist _))
        go_wp2
        go_ret
        exact ⟨true, rfl, ⟨fun _ => HN.out, fun _ => rfl⟩, hB⟩
end Go.Proofs.Ytbdeakodmhcgdaa
