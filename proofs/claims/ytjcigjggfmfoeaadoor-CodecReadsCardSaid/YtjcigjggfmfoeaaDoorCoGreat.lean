/- What the statements examine: count, long, Great. -/
import Derived.Test.YtjcigjggfmfoeaaDoorCoMeas
namespace Go.Proofs.YtjcigjggfmfoeaaDoor
set_option linter.unusedSimpArgs false
set_option linter.unusedVariables false
set_option maxRecDepth 100000
open Go.RowKit Go.Deep

mutual
def maxT : Val → Nat
  | .mk _ _ t l => max t.size (maxTs l)
def maxTs : List Val → Nat
  | [] => 0
  | x :: l => max (maxT x) (maxTs l)
end
theorem maxTs_append (a b : List Val) : maxTs (a ++ b) = max (maxTs a) (maxTs b) := by
  induction a with
  | nil => simp [maxTs]
  | cons x a ih => rw [List.cons_append, maxTs, maxTs, ih]; omega
theorem maxTs_take {l : List Val} {j : Nat} (h : j < l.length) : maxTs (l.take (j + 1)) = max (maxTs (l.take j)) (maxT l[j]) := by
  rw [take_succ_of h, maxTs_append, maxTs, maxTs]; omega
/-- small enough to be examined -/
def SmallV (x : Val) : Prop := maxT x ≤ 40 ∧ (tot x ≤ 60 ∨ (4096 < x.its.length ∧ tot x ≤ 4100))

set_option maxHeartbeats 2000000 in
theorem count_any (x : Val) : ∀ (v : Value) (P : Nat → Prop) (w : World) (n : Nat), VAt w P v x → n ≤ 70 →
    Calls Tryd.prog 31 #[v, intV n, intV 60] w fun e w' => ∃ r : Int, e = .returned (intV r) ∧ 1 ≤ r ∧ r ≤ 61 + n * 100 ∧ (r ≤ 60 → (tot x : Int) ≤ r) ∧ Below w.heap.size w w' := by
  refine Val.ind (P := fun x => ∀ (v : Value) (P : Nat → Prop) (w : World) (n : Nat), VAt w P v x → n ≤ 70 →
    Calls Tryd.prog 31 #[v, intV n, intV 60] w fun e w' => ∃ r : Int, e = .returned (intV r) ∧ 1 ≤ r ∧ r ≤ 61 + n * 100 ∧ (r ≤ 60 → (tot x : Int) ≤ r) ∧ Below w.heap.size w w') ?_ x
  intro k nn t l ih v P w n hv hn
  obtain ⟨h1, h2, h3, h4, a, c, rfl, hs⟩ := vat_of hv
  have IH := Lib.hid ih
  have HS := Lib.hid (hs.below (below_box0 w (.cells #[intV k, intV nn, .string t, .slice a l.length c] 24)))
  clear ih hs hv
  by_cases hn0 : n = 0
  · subst hn0
    go_enter Tryd.func31, Tryd.ntmps31
    go_wp2
    go_ret
    exact ⟨61, rfl, by omega, by omega, fun h => by omega, below_box0 w _⟩
  · have hn1 : (1 : Int) ≤ n := by omega
    obtain ⟨n', hn'⟩ : ∃ n' : Nat, n = n' + 1 := ⟨n - 1, by omega⟩
    have hn2 : ((n : Int) - 1) = (n' : Int) := by omega
    have HN := Lib.hid hn'
    clear hn' hn0
    go_enter Tryd.func31, Tryd.ntmps31
    go_wp2
    go_loopw [7, 8] (fun s i wr => ∃ (j : Nat) (sz : Int), j ≤ l.length ∧ i = .int .i64 j ∧ s = .int .i64 sz ∧ 1 ≤ sz ∧ sz ≤ 161 + n' * 100 ∧ Hid (sz ≤ 60 → ((1 + tots (l.take j) : Nat) : Int) ≤ sz) ∧ Below (w.heap.size + 1) (w.alloc (.cells #[intV k, intV nn, .string t, .slice a l.length c] 24)) wr) (fun _ i _ => l.length - (intOf i).toNat)
    case atStart => exact ⟨0, 1, Nat.zero_le _, rfl, rfl, by omega, by omega, Lib.hid (fun _ => by simp [tots]), Below.refl _ _⟩
    case round =>
      obtain ⟨j, sz, hj, rfl, rfl, hs1, hs2, HSZ, hB⟩ := hrel
      obtain ⟨wk, rfl⟩ : ∃ x, x = wr := ⟨_, rfl⟩
      obtain ⟨b0, b1, b2, b3⟩ := box4 hB
      have HB := Lib.hid hB
      by_cases hlt : j < l.length
      · by_cases hsz : sz ≤ 60
        · obtain ⟨b, off, s, rfl, _, hb, q0, q1, q2, q3, hx⟩ := ((HS.out).below (by rw [World.size_alloc]; exact hB)).elem hlt
          have HREC := Lib.hid (IH.out l[j] (List.getElem_mem hlt) _ P wk n' hx (by have := HN.out; omega))
          have htt := tots_take hlt
          clear hB hx HS
          go_wp2_with fail
          refine HREC.out.mono ?_
          rintro e w2 ⟨r, rfl, hr1, hr2, hr3, h2⟩
          have HB2 := Lib.hid (HB.out.trans (h2.mono (by have := HB.out.size; simpa using this)))
          have HR3 := Lib.hid hr3
          clear h2 b0 b1 b2 b3 q0 q1 q2 q3 HREC hr3
          go_wp2_with fail
          refine ⟨⟨j + 1, sz + r, by omega, by go_num, rfl, by omega, by omega, Lib.hid (fun h => ?_), HB2.out⟩, ?_⟩
          · have := HSZ.out hsz
            have := HR3.out (by omega)
            omega
          · simp [intOf]; omega
        · clear HS hB
          go_wp2_with fail
          go_ret
          exact ⟨sz, rfl, by omega, by have := HN.out; omega, fun h => by omega, below_seq (below_box0 w _) HB.out (by omega)⟩
      · obtain rfl : j = l.length := by omega
        clear HS hB
        go_wp2_with fail
        all_goals
          go_ret
          refine ⟨sz, rfl, by omega, by have := HN.out; omega, fun h => ?_, below_seq (below_box0 w _) HB.out (by omega)⟩
          have := HSZ.out h
          rw [List.take_length] at this
          rw [tot]; exact this

def LongPost (x : Val) (w : World) (e : Ending) (w' : World) : Prop := ∃ b : Bool, e = .returned (.bool b) ∧ (b = false → maxT x ≤ 40) ∧ Below w.heap.size w w'
set_option maxHeartbeats 2000000 in
theorem long_any (x : Val) : ∀ (v : Value) (P : Nat → Prop) (w : World) (n : Nat), VAt w P v x → n ≤ 70 →
    Calls Tryd.prog 32 #[v, intV n] w (LongPost x w) := by
  refine Val.ind (P := fun x => ∀ (v : Value) (P : Nat → Prop) (w : World) (n : Nat), VAt w P v x → n ≤ 70 →
    Calls Tryd.prog 32 #[v, intV n] w (LongPost x w)) ?_ x
  intro k nn t l ih v P w n hv hn
  obtain ⟨h1, h2, h3, h4, a, c, rfl, hs⟩ := vat_of hv
  have IH := Lib.hid ih
  have HS := Lib.hid (hs.below (below_box0 w (.cells #[intV k, intV nn, .string t, .slice a l.length c] 24)))
  clear ih hs hv
  by_cases hlong : 40 < (t.size : Int)
  · go_enter Tryd.func32, Tryd.ntmps32
    go_wp2
    go_ret
    exact ⟨true, rfl, fun h => (by cases h), below_box0 w _⟩
  by_cases hn0 : n = 0
  · subst hn0
    go_enter Tryd.func32, Tryd.ntmps32
    go_wp2
    go_ret
    exact ⟨true, rfl, fun h => (by cases h), below_box0 w _⟩
  · have hn1 : ((n : Int) == 0) = false := by simp; omega
    obtain ⟨n', hn'⟩ : ∃ n' : Nat, n = n' + 1 := ⟨n - 1, by omega⟩
    have hn2 : ((n : Int) - 1) = (n' : Int) := by omega
    have hl0 : decide (40 < (t.size : Int)) = false := by simpa using hlong
    have HN := Lib.hid hn'
    have HL := Lib.hid hlong
    clear hn' hn0 hlong
    go_enter Tryd.func32, Tryd.ntmps32
    go_wp2
    go_loopw [5] (fun i wr => ∃ (j : Nat), j ≤ l.length ∧ i = .int .i64 j ∧ maxTs (l.take j) ≤ 40 ∧ Below (w.heap.size + 1) (w.alloc (.cells #[intV k, intV nn, .string t, .slice a l.length c] 24)) wr) (fun i _ => l.length - (intOf i).toNat)
    case atStart => exact ⟨0, Nat.zero_le _, rfl, by simp [maxTs], Below.refl _ _⟩
    case round =>
      obtain ⟨j, hj, rfl, hmx, hB⟩ := hrel
      obtain ⟨wk, rfl⟩ : ∃ x, x = wr := ⟨_, rfl⟩
      obtain ⟨b0, b1, b2, b3⟩ := box4 hB
      have HB := Lib.hid hB
      have HM := Lib.hid hmx
      clear hmx
      by_cases hlt : j < l.length
      · obtain ⟨b, off, s, rfl, _, hb, q0, q1, q2, q3, hx⟩ := ((HS.out).below (by rw [World.size_alloc]; exact hB)).elem hlt
        have HREC := Lib.hid (IH.out l[j] (List.getElem_mem hlt) _ P wk n' hx (by have := HN.out; omega))
        have HT := Lib.hid (maxTs_take hlt)
        clear hB hx HS
        go_wp2_with fail
        refine HREC.out.mono ?_
        rintro e w2 ⟨r, rfl, hr3, h2⟩
        have HB2 := Lib.hid (HB.out.trans (h2.mono (by have := HB.out.size; simpa using this)))
        have HR3 := Lib.hid hr3
        clear h2 b0 b1 b2 b3 q0 q1 q2 q3 HREC hr3
        cases r
        · go_wp2_with fail
          refine ⟨⟨j + 1, by omega, by go_num, by rw [HT.out]; have := HM.out; have := HR3.out (by simp); omega, HB2.out⟩, ?_⟩
          simp [intOf]; omega
        · go_wp2_with fail
          go_ret
          exact ⟨true, rfl, fun h => (by cases h), below_seq (below_box0 w _) HB2.out (by omega)⟩
      · obtain rfl : j = l.length := by omega
        clear HS hB
        go_wp2_with fail
        all_goals
          go_ret
          refine ⟨false, rfl, fun _ => ?_, below_seq (below_box0 w _) HB.out (by omega)⟩
          have := HM.out
          rw [List.take_length] at this
          have := HL.out
          rw [maxT]; omega

def GreatPost (x : Val) (w : World) (e : Ending) (w' : World) : Prop := ∃ b : Bool, e = .returned (.bool b) ∧ (b = false → SmallV x) ∧ Below w.heap.size w w'
set_option maxHeartbeats 2000000 in
theorem great_any (x : Val) (v : Value) (P : Nat → Prop) (w : World) (hv : VAt w P v x) :
    Calls Tryd.prog 10 #[v] w (GreatPost x w) := by
  obtain ⟨k, nn, t, l⟩ := x
  obtain ⟨h1, h2, h3, h4, a, c, rfl, hs⟩ := vat_of hv
  have HV := Lib.hid (hv.below (below_box0 w (.cells #[intV k, intV nn, .string t, .slice a l.length c] 24)))
  have HS := Lib.hid (hs.below (below_box0 w (.cells #[intV k, intV nn, .string t, .slice a l.length c] 24)))
  have HLG := Lib.hid (fun w' hb => long_any (.mk k nn t l) _ P w' 70 (hv.below hb) (by omega))
  clear hs hv
  by_cases hfew : l.length ≤ 4096 ∨ 4100 ≤ l.length
  · have HF := Lib.hid hfew
    have HC := Lib.hid (count_any (.mk k nn t l) _ P _ 70 HV.out (by omega))
    go_enter Tryd.func10, Tryd.ntmps10
    rcases hfew with hf | hf
    all_goals
      go_wp2_with fail
      refine HC.out.mono ?_
      rintro e w1 ⟨r, rfl, hr1, hr2, hr3, hb1⟩
      rw [World.size_alloc] at hb1
      obtain ⟨b0, b1, b2, b3⟩ := box4 hb1
      have HB1 := Lib.hid hb1
      have HR3 := Lib.hid hr3
      clear hb1 hr3
      by_cases h60 : r ≤ 60
      · have hd6 : decide (60 < r) = false := by simp; omega
        go_wp2_with fail
        refine (HLG.out w1 (below_seq (below_box0 w _) HB1.out (by omega))).mono ?_
        rintro e w2 ⟨g, rfl, hg, hb2⟩
        go_wp2_with fail
        go_ret
        exact ⟨g, rfl, fun h => ⟨hg h, .inl (by have := HR3.out h60; omega)⟩, below_then (below_seq (below_box0 w _) HB1.out (by omega)) hb2⟩
      · go_wp2_with fail
        go_ret
        exact ⟨true, rfl, fun h => (by cases h), below_seq (below_box0 w _) HB1.out (by omega)⟩
  · have hf1 : 4096 < l.length := by omega
    have hf2 : l.length < 4100 := by omega
    clear hfew
    go_enter Tryd.func10, Tryd.ntmps10
    go_wp2
    go_loopw [3] (fun i wr => ∃ (j : Nat), j ≤ l.length ∧ i = .int .i64 j ∧ tots (l.take j) = j ∧ Below (w.heap.size + 1) (w.alloc (.cells #[intV k, intV nn, .string t, .slice a l.length c] 24)) wr) (fun i _ => l.length - (intOf i).toNat)
    case atStart => exact ⟨0, Nat.zero_le _, rfl, by simp [tots], Below.refl _ _⟩
    case round =>
      obtain ⟨j, hj, rfl, hmx, hB⟩ := hrel
      obtain ⟨wk, rfl⟩ : ∃ x, x = wr := ⟨_, rfl⟩
      obtain ⟨b0, b1, b2, b3⟩ := box4 hB
      have HB := Lib.hid hB
      have HM := Lib.hid hmx
      clear hmx
      by_cases hlt : j < l.length
      · obtain ⟨b, off, s, rfl, _, hb, q0, q1, q2, q3, hx⟩ := ((HS.out).below (by rw [World.size_alloc]; exact hB)).elem hlt
        have HT := Lib.hid (tots_take hlt)
        obtain ⟨y, hy⟩ : ∃ y, l[j] = y := ⟨_, rfl⟩
        rw [hy] at hx q0 q1 q2
        have HY := Lib.hid hy
        obtain ⟨yk, yn, yt, yl⟩ := y
        obtain ⟨_, _, _, _, ya, yc, hya, _⟩ := vat_of hx
        obtain rfl : s = .slice ya yl.length yc := by
          have := congrArg (fun v => match v with | .agg cs => cs[3]? | _ => none) hya
          simpa using this
        have hp : yl.length ≤ 9223372036854775807 := by assumption
        clear hB hx HS hya hy
        by_cases hyl : 0 < yl.length
        · go_wp2_with fail
          go_ret
          exact ⟨true, rfl, fun h => (by cases h), below_seq (below_box0 w _) HB.out (by omega)⟩
        · go_wp2_with fail
          refine ⟨⟨j + 1, by omega, by go_num, ?_, HB.out⟩, ?_⟩
          · rw [HT.out, HM.out, HY.out, tot]
            obtain rfl : yl = [] := List.eq_nil_of_length_eq_zero (by omega)
            rw [tots]
          · simp [intOf]; omega
      · obtain rfl : j = l.length := by omega
        clear HS hB
        go_wp2_with fail
        refine (HLG.out wk (below_seq (below_box0 w _) HB.out (by omega))).mono ?_
        rintro e w2 ⟨g, rfl, hg, hb2⟩
        go_wp2_with fail
        go_ret
        refine ⟨g, rfl, fun h => ⟨hg h, .inr ⟨hf1, ?_⟩⟩, below_then (below_seq (below_box0 w _) HB.out (by omega)) hb2⟩
        have := HM.out
        rw [List.take_length] at this
        rw [tot]; omega
end Go.Proofs.YtjcigjggfmfoeaaDoor
