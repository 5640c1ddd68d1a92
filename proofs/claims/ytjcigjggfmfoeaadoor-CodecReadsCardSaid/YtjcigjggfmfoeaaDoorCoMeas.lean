/- The reference's measure. -/
import Derived.Test.YtjcigjggfmfoeaaDoorCoAlone
namespace Go.Proofs.YtjcigjggfmfoeaaDoor
set_option linter.unusedSimpArgs false
set_option linter.unusedVariables false
set_option maxRecDepth 100000
open Go.RowKit Go.Deep

/-- how many values there are, or that one is deeper than n -/
def measR (x : Val) (n : Nat) : Int × Bool := if dep x ≤ n then (cnt x, false) else (0, true)
theorem take_succ_of {α : Type} {l : List α} {j : Nat} (h : j < l.length) : l.take (j + 1) = l.take j ++ [l[j]] := by
  rw [List.take_succ_eq_append_getElem h]
theorem cnts_take {l : List Val} {j : Nat} (h : j < l.length) : cnts (l.take (j + 1)) = cnts (l.take j) + cnt l[j] := by
  rw [take_succ_of h, cnts_append, cnts, cnts]; omega
theorem tots_take {l : List Val} {j : Nat} (h : j < l.length) : tots (l.take (j + 1)) = tots (l.take j) + tot l[j] := by
  rw [take_succ_of h, tots_append, tots, tots]; omega
theorem deps_take {l : List Val} {j : Nat} (h : j < l.length) : deps (l.take (j + 1)) = max (deps (l.take j)) (dep l[j]) := by
  rw [take_succ_of h, deps_append, deps, deps]; omega
theorem tots_le_take (l : List Val) (j : Nat) : tots (l.take j) ≤ tots l := by
  have := tots_append (l.take j) (l.drop j)
  rw [List.take_append_drop] at this
  omega
theorem deps_le_take (l : List Val) (j : Nat) : deps (l.take j) ≤ deps l := by
  have := deps_append (l.take j) (l.drop j)
  rw [List.take_append_drop] at this
  omega
theorem dep_get {l : List Val} {j : Nat} (h : j < l.length) : dep l[j] ≤ deps l := by
  have h1 := deps_take h
  have h2 := deps_le_take l (j + 1)
  omega
theorem ret_ib {a b : Int} {x y : Bool} (h : a = b) (h' : x = y) : Ending.returned (.tuple #[intV a, .bool x]) = .returned (.tuple #[intV b, .bool y]) := by rw [h, h']
theorem ret_ib' {a : Int} {x : Bool} {r : Int × Bool} (h : r = (a, x)) : Ending.returned (.tuple #[intV a, .bool x]) = .returned (.tuple #[intV r.1, .bool r.2]) := by rw [h]

set_option maxHeartbeats 2000000 in
theorem measure_any (x : Val) : ∀ (v : Value) (P : Nat → Prop) (w : World) (n most : Nat), VAt w P v x → n ≤ 1000 → tot x ≤ most → most ≤ 65536 →
    Calls Tryd.prog 41 #[v, intV n, intV most] w fun e w' => e = .returned (.tuple #[intV (measR x n).1, .bool (measR x n).2]) ∧ Below w.heap.size w w' := by
  refine Val.ind (P := fun x => ∀ (v : Value) (P : Nat → Prop) (w : World) (n most : Nat), VAt w P v x → n ≤ 1000 → tot x ≤ most → most ≤ 65536 →
    Calls Tryd.prog 41 #[v, intV n, intV most] w fun e w' => e = .returned (.tuple #[intV (measR x n).1, .bool (measR x n).2]) ∧ Below w.heap.size w w') ?_ x
  intro k nn t l ih v P w n most hv hn ht hm
  obtain ⟨h1, h2, h3, h4, a, c, rfl, hs⟩ := vat_of hv
  have hdp := dep_pos (.mk k nn t l)
  have htp := tot_pos (.mk k nn t l)
  obtain ⟨r, hr⟩ : ∃ r, measR (.mk k nn t l) n = r := ⟨_, rfl⟩
  rw [hr]
  have HR := Lib.hid hr
  have IH := Lib.hid ih
  have HS := Lib.hid (hs.below (below_box0 w (.cells #[intV k, intV nn, .string t, .slice a l.length c] 24)))
  clear hr ih hs hv
  by_cases hn0 : n = 0
  · have hn1 : (n : Int) < 1 := by omega
    have e : r = (0, true) := by rw [← HR.out, measR, if_neg (by omega)]
    subst e
    clear hn0
    go_enter Tryd.func41, Tryd.ntmps41
    go_wp2
    all_goals
      first
      | (exfalso; omega)
      | (go_ret2
         exact ⟨rfl, below_box0 w _⟩)
  · have hn1 : (1 : Int) ≤ n := by omega
    have hm1 : (1 : Int) ≤ most := by omega
    obtain ⟨n', hn'⟩ : ∃ n' : Nat, n = n' + 1 := ⟨n - 1, by omega⟩
    have hn2 : ((n : Int) - 1) = (n' : Int) := by omega
    rw [tot] at ht
    have HN := Lib.hid hn'
    clear hn' hn0
    go_enter Tryd.func41, Tryd.ntmps41
    go_wp2
    go_loopw [8, 9] (fun s i wr => ∃ j sz : Nat, j ≤ l.length ∧ (k ≠ 3 → j = 0) ∧ i = .int .i64 j ∧ s = .int .i64 sz ∧ Hid (sz = 1 + cnts (l.take j)) ∧ deps (l.take j) ≤ n' ∧ Below (w.heap.size + 1) (w.alloc (.cells #[intV k, intV nn, .string t, .slice a l.length c] 24)) wr) (fun _ i _ => l.length - (intOf i).toNat)
    case atStart => exact ⟨0, 1, Nat.zero_le _, fun _ => rfl, rfl, rfl, Lib.hid (by simp [cnts]), by simp [deps], Below.refl _ _⟩
    case round =>
      obtain ⟨j, sz, hj, hk0, rfl, rfl, HSZ, hd, hB⟩ := hrel
      obtain ⟨wk, rfl⟩ : ∃ x, x = wr := ⟨_, rfl⟩
      obtain ⟨b0, b1, b2, b3⟩ := box4 hB
      have HB := Lib.hid hB
      have hcl := (cnt_le.2 (l.take j))
      have htl := tots_le_take l j
      have hszb : sz ≤ most := by have := HSZ.out; omega
      by_cases hk : k = 3
      · subst hk
        have hkk : ((3 : Int) == 3) = true := rfl
        by_cases hlt : j < l.length
        · obtain ⟨b, off, s, rfl, _, hb, q0, q1, q2, q3, hx⟩ := ((HS.out).below (by rw [World.size_alloc]; exact hB)).elem hlt
          have hmem : l[j] ∈ l := List.getElem_mem hlt
          have hct := cnts_take hlt
          have htt := tots_take hlt
          have htl' := tots_le_take l (j + 1)
          have hdt := deps_take hlt
          have hc1 := cnt_le.1 l[j]
          obtain ⟨m', hm'⟩ : ∃ m' : Nat, (most : Int) - (sz : Int) = (m' : Int) := ⟨most - sz, by omega⟩
          have HREC := Lib.hid (IH.out l[j] hmem _ P wk n' m' hx (by have := HN.out; omega) (by have := HSZ.out; omega) (by omega))
          have HX := Lib.hid hx
          clear hB hx HS
          go_wp2_with fail
          refine HREC.out.mono ?_
          rintro e w2 ⟨rfl, h2⟩
          have HB2 := Lib.hid (HB.out.trans (h2.mono (by have := HB.out.size; simpa using this)))
          clear h2 b0 b1 b2 b3 q0 q1 q2 q3 HREC
          by_cases hdp2 : dep l[j] ≤ n'
          · rw [measR, if_pos hdp2]
            dsimp only
            go_wp2_with fail
            refine ⟨⟨j + 1, sz + cnt l[j], by omega, fun h => absurd rfl h, by go_num, by go_num, Lib.hid (by have := HSZ.out; omega), by omega, HB2.out⟩, ?_⟩
            simp [intOf]; omega
          · rw [measR, if_neg hdp2]
            dsimp only
            go_wp2_with fail
            go_ret2
            refine ⟨ret_ib' ?_, below_seq (below_box0 w _) HB2.out (by omega)⟩
            rw [← HR.out, measR, if_neg]
            rw [dep, if_pos rfl]
            have := dep_get hlt
            have := HN.out
            omega
        · clear HS hB
          go_wp2_with fail
          go_ret2
          refine ⟨ret_ib' ?_, below_seq (below_box0 w _) HB.out (by omega)⟩
          obtain rfl : j = l.length := by omega
          rw [List.take_length] at hd
          have hsz := HSZ.out
          rw [List.take_length] at hsz
          rw [← HR.out, measR, if_pos (by rw [dep, if_pos rfl]; have := HN.out; omega), cnt, if_pos rfl, hsz]
      · obtain rfl := hk0 hk
        have hkb : (k == 3) = false := by simpa using hk
        clear HS hB
        go_wp2_with fail
        all_goals
          go_ret2
          refine ⟨ret_ib' ?_, below_seq (below_box0 w _) HB.out (by omega)⟩
          have hsz := HSZ.out
          rw [List.take_zero, cnts] at hsz
          rw [← HR.out, measR, if_pos (by rw [dep, if_neg hk]; have := HN.out; omega), cnt, if_neg hk, hsz]
end Go.Proofs.YtjcigjggfmfoeaaDoor
