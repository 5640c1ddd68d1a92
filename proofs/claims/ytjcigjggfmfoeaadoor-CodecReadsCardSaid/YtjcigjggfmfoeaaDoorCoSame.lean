/- Same: the reference's, and the program's. -/
import Derived.Test.YtjcigjggfmfoeaaDoorCoMeas
import Derived.Test.YtjcigjggfmfoeaaDoorCoMake
import Derived.StillTailTactics
import Derived.Deep.RegionHeld3
namespace Go.Proofs.YtjcigjggfmfoeaaDoor
set_option linter.unusedSimpArgs false
set_option linter.unusedVariables false
set_option maxRecDepth 100000
open Go.RowKit Go.Deep

mutual
def sameB : Val → Val → Bool
  | .mk k n t l, .mk k' n' t' l' => k == k' && (n == n' && (t.toList == t'.toList && samesB l l'))
def samesB : List Val → List Val → Bool
  | [], [] => true
  | x :: l, y :: l' => sameB x y && samesB l l'
  | [], _ :: _ => false
  | _ :: _, [] => false
end
theorem samesB_len : ∀ {l l' : List Val}, samesB l l' = true → l.length = l'.length
  | [], [], _ => rfl
  | x :: l, y :: l', h => by rw [samesB, Bool.and_eq_true] at h; simp [samesB_len h.2]
  | [], _ :: _, h => by rw [samesB] at h; cases h
  | _ :: _, [], h => by rw [samesB] at h; cases h
theorem samesB_app : ∀ {a a' b b' : List Val}, a.length = a'.length → samesB (a ++ b) (a' ++ b') = (samesB a a' && samesB b b')
  | [], [], _, _, _ => by simp [samesB]
  | x :: a, y :: a', _, _, h => by
    rw [List.cons_append, List.cons_append, samesB, samesB, samesB_app (by simpa using h), Bool.and_assoc]
  | [], _ :: _, _, _, h => by cases h
  | _ :: _, [], _, _, h => by cases h
theorem samesB_take {l l' : List Val} {j : Nat} (h : j < l.length) (h' : j < l'.length) (h0 : samesB (l.take j) (l'.take j) = true) :
    (sameB l[j] l'[j] = true → samesB (l.take (j + 1)) (l'.take (j + 1)) = true) ∧ (sameB l[j] l'[j] = false → samesB l l' = false) := by
  have e : samesB (l.take (j + 1)) (l'.take (j + 1)) = sameB l[j] l'[j] := by
    rw [take_succ_of h, take_succ_of h', samesB_app (by rw [List.length_take, List.length_take]; omega), h0, Bool.true_and, samesB, samesB, Bool.and_true]
  refine ⟨fun hh => by rw [e, hh], fun hh => ?_⟩
  have e2 : samesB (l.take (j + 1) ++ l.drop (j + 1)) (l'.take (j + 1) ++ l'.drop (j + 1)) = false := by
    rw [samesB_app (by rw [List.length_take, List.length_take]; omega), e, hh, Bool.false_and]
  rwa [List.take_append_drop, List.take_append_drop] at e2
theorem box8 {w wr : World} {c0 c1 c2 c3 d0 d1 d2 d3 : Value} {t t' : TypeId} (hB : Below (w.heap.size + 2) ((w.alloc (.cells #[c0, c1, c2, c3] t)).alloc (.cells #[d0, d1, d2, d3] t')) wr) :
    wr.cell? ⟨w.heap.size, 0, none⟩ = some c0 ∧ wr.cell? ⟨w.heap.size, 1, none⟩ = some c1 ∧ wr.cell? ⟨w.heap.size, 2, none⟩ = some c2 ∧ wr.cell? ⟨w.heap.size, 3, none⟩ = some c3 ∧
    wr.cell? ⟨w.heap.size + 1, 0, none⟩ = some d0 ∧ wr.cell? ⟨w.heap.size + 1, 1, none⟩ = some d1 ∧ wr.cell? ⟨w.heap.size + 1, 2, none⟩ = some d2 ∧ wr.cell? ⟨w.heap.size + 1, 3, none⟩ = some d3 := by
  have h0 : ∀ o, wr.cell? ⟨w.heap.size, o, none⟩ = (w.alloc (.cells #[c0, c1, c2, c3] t)).cell? ⟨w.heap.size, o, none⟩ := fun o => by
    rw [hB.cell (by simp)]
    exact World.cell?_of_block (a := ⟨w.heap.size, o, none⟩) (Below.heap_alloc _ _ _ (by simp))
  have h1 : ∀ o, wr.cell? ⟨w.heap.size + 1, o, none⟩ = ((w.alloc (.cells #[c0, c1, c2, c3] t)).alloc (.cells #[d0, d1, d2, d3] t')).cell? ⟨(w.alloc (.cells #[c0, c1, c2, c3] t)).heap.size, o, none⟩ := fun o => by
    rw [hB.cell (by simp)]; simp
  refine ⟨?_, ?_, ?_, ?_, ?_, ?_, ?_, ?_⟩
  · rw [h0]; simp
  · rw [h0]; simp
  · rw [h0]; simp
  · rw [h0]; simp
  · rw [h1]; simp only [World.cell?, heap_alloc_new]; rfl
  · rw [h1]; simp only [World.cell?, heap_alloc_new]; rfl
  · rw [h1]; simp only [World.cell?, heap_alloc_new]; rfl
  · rw [h1]; simp only [World.cell?, heap_alloc_new]; rfl

set_option maxHeartbeats 2000000 in
theorem refSame_any (x : Val) : ∀ (y : Val) (v v' : Value) (P P' : Nat → Prop) (w : World), VAt w P v x → VAt w P' v' y →
    Calls Tryd.prog 19 #[v, v'] w fun e w' => e = .returned (.bool (sameB x y)) ∧ Below w.heap.size w w' := by
  refine Val.ind (P := fun x => ∀ (y : Val) (v v' : Value) (P P' : Nat → Prop) (w : World), VAt w P v x → VAt w P' v' y →
    Calls Tryd.prog 19 #[v, v'] w fun e w' => e = .returned (.bool (sameB x y)) ∧ Below w.heap.size w w') ?_ x
  intro k nn t l ih y v v' P P' w hv hv'
  obtain ⟨k', nn', t', l'⟩ := y
  obtain ⟨h1, h2, h3, h4, a, c, rfl, hs⟩ := vat_of hv
  obtain ⟨g1, g2, g3, g4, a', c', rfl, hs'⟩ := vat_of hv'
  obtain ⟨r, hr⟩ : ∃ r, sameB (.mk k nn t l) (.mk k' nn' t' l') = r := ⟨_, rfl⟩
  rw [hr]
  have IH := Lib.hid ih
  have HS := Lib.hid hs
  have HS' := Lib.hid hs'
  clear ih hs hs' hv hv'
  by_cases hd : ¬ (k = k' ∧ nn = nn' ∧ t.toList = t'.toList ∧ l.length = l'.length)
  · have hr0 : r = false := by
      rw [← hr, sameB]
      rw [Bool.eq_false_iff]
      intro hh
      simp only [Bool.and_eq_true, beq_iff_eq] at hh
      exact hd ⟨hh.1, hh.2.1, hh.2.2.1, samesB_len hh.2.2.2⟩
    subst hr0
    have HD := Lib.hid hd
    clear hr hd
    by_cases e1 : k = k'
    · by_cases e2 : nn = nn'
      · by_cases e3 : t.toList = t'.toList
        · have e4 : ((l.length : Int) != (l'.length : Int)) = true := by
            have := HD.out
            simp only [bne_iff_ne, ne_eq]
            intro h
            exact this ⟨e1, e2, e3, by omega⟩
          go_enter Tryd.func19, Tryd.ntmps19
          go_wp2_with fail
          go_ret
          exact ⟨rfl, below_box2 w _ _⟩
        · go_enter Tryd.func19, Tryd.ntmps19
          go_wp2_with fail
          go_ret
          exact ⟨rfl, below_box2 w _ _⟩
      · go_enter Tryd.func19, Tryd.ntmps19
        go_wp2_with fail
        go_ret
        exact ⟨rfl, below_box2 w _ _⟩
    · go_enter Tryd.func19, Tryd.ntmps19
      go_wp2_with fail
      go_ret
      exact ⟨rfl, below_box2 w _ _⟩
  · have hd' := Decidable.not_not.1 hd
    obtain ⟨rfl, rfl, e3, e4⟩ := hd'
    obtain rfl : t = t' := ba_of (by rw [← ByteArray.toList_eq, ← ByteArray.toList_eq]; exact e3)
    clear hd e3
    rw [sameB, beq_self_eq_true, beq_self_eq_true, beq_self_eq_true, Bool.true_and, Bool.true_and, Bool.true_and] at hr
    have HR := Lib.hid hr
    have HLEN := Lib.hid e4
    clear hr
    obtain ⟨m, hm⟩ : ∃ m, l'.length = m := ⟨_, rfl⟩
    have hlen : ((l.length : Int) != (m : Int)) = false := by simp; omega
    rw [hm] at HS' g4
    rw [hm]
    have HM := Lib.hid (hm.symm.trans e4.symm)
    clear e4 hm
    go_enter Tryd.func19, Tryd.ntmps19
    go_wp2_with fail
    go_loopw [5] (fun i wr => ∃ (j : Nat), j ≤ l.length ∧ i = .int .i64 j ∧ samesB (l.take j) (l'.take j) = true ∧ Below (w.heap.size + 2) ((w.alloc (.cells #[intV k, intV nn, .string t, .slice a l.length c] 24)).alloc (.cells #[intV k, intV nn, .string t, .slice a' m c'] 24)) wr) (fun i _ => l.length - (intOf i).toNat)
    case atStart => exact ⟨0, Nat.zero_le _, rfl, by simp [samesB], Below.refl _ _⟩
    case round =>
      obtain ⟨j, hj, rfl, hmx, hB⟩ := hrel
      obtain ⟨wk, rfl⟩ : ∃ x, x = wr := ⟨_, rfl⟩
      obtain ⟨b0, b1, b2, b3, d0, d1, d2, d3⟩ := box8 hB
      have HB := Lib.hid hB
      have HM1 := Lib.hid hmx
      clear hmx
      by_cases hlt : j < l.length
      · have hlt' : j < l'.length := by have := HLEN.out; omega
        obtain ⟨b, off, s, rfl, _, hb, q0, q1, q2, q3, hx⟩ := ((HS.out).below (below_seq (below_box2 w _ _) hB (by omega))).elem hlt
        obtain ⟨b', off', s', rfl, _, hb', q0', q1', q2', q3', hx'⟩ := ((HS'.out).below (below_seq (below_box2 w _ _) hB (by omega))).elem hlt'
        have hjm : j < m := by have := HM.out; have := HLEN.out; omega
        obtain ⟨r1, hr1⟩ : ∃ r1, sameB l[j] l'[j] = r1 := ⟨_, rfl⟩
        have hrec : ∀ w', Below wk.heap.size wk w' → Calls Tryd.prog 19 #[.agg #[intV l[j].kd, intV l[j].nm, .string l[j].tx, s], .agg #[intV l'[j].kd, intV l'[j].nm, .string l'[j].tx, s']] w' fun e w'' => e = .returned (.bool r1) ∧ Below w'.heap.size w' w'' := fun w' hb => by
          rw [← hr1]; exact IH.out l[j] (List.getElem_mem hlt) l'[j] _ _ P P' w' (hx.below hb) (hx'.below hb)
        have HREC := Lib.hid hrec
        have HR1 := Lib.hid hr1
        clear hrec hr1 hx hx' HS HS' hB
        go_wp2_with fail
        go_still_tail 10, (by kernel_rfl)
        change wpList _ _ _ _ _ wk.drew
        go_wp2_with fail
        refine (HREC.out wk.drew (below_drewN wk 1)).mono ?_
        rintro e w2 ⟨rfl, h2⟩
        have HB2 := Lib.hid ((HB.out.trans (below_drewN_n _ wk 1)).trans (h2.mono (by have := HB.out.size; simpa using this)))
        have HT := Lib.hid (samesB_take hlt hlt' HM1.out)
        clear h2 b0 b1 b2 b3 d0 d1 d2 d3 q0 q1 q2 q3 q0' q1' q2' q3' HREC
        cases r1
        · go_wp2_with fail
          go_ret
          refine ⟨ret_bool ?_, below_seq (below_box2 w _ _) HB2.out (by omega)⟩
          rw [← HR.out]
          exact (HT.out.2 HR1.out).symm
        · go_wp2_with fail
          refine ⟨⟨j + 1, by omega, by go_num, HT.out.1 HR1.out, HB2.out⟩, ?_⟩
          simp [intOf]; omega
      · obtain rfl : j = l.length := by omega
        clear HS HS' hB
        go_wp2_with fail
        go_ret
        refine ⟨ret_bool ?_, below_seq (below_box2 w _ _) HB.out (by omega)⟩
        have := HM1.out
        rw [List.take_length, HLEN.out, List.take_length] at this
        rw [← HR.out, this]

set_option maxHeartbeats 2000000 in
/-- slices.EqualFunc at Same, where Same is known of the elements -/
theorem equalF_any (l l' : List Val) (hrec : ∀ x ∈ l, ∀ (y : Val) (v v' : Value) (P P' : Nat → Prop) (w : World), VAt w P v x → VAt w P' v' y →
    Calls Tryd.prog 18 #[v, v'] w fun e w' => e = .returned (.bool (sameB x y)) ∧ Below w.heap.size w w')
    (a a' : Option Addr) (c c' : Nat) (P P' : Nat → Prop) (w : World) (hs : VsAt w P (.slice a l.length c) l) (hs' : VsAt w P' (.slice a' l'.length c') l') (h4 : l.length ≤ 9223372036854775807) (g4 : l'.length ≤ 9223372036854775807) :
    Calls Tryd.prog 43 #[.slice a l.length c, .slice a' l'.length c', .func (.func 18) #[] #[]] w fun e w' => e = .returned (.bool (samesB l l')) ∧ Below w.heap.size w w' := by
  have IH := Lib.hid hrec
  have HS := Lib.hid hs
  have HS' := Lib.hid hs'
  obtain ⟨r, hr⟩ : ∃ r, samesB l l' = r := ⟨_, rfl⟩
  rw [hr]
  clear hrec hs hs'
  by_cases hl : l.length = l'.length
  · have HR := Lib.hid hr
    have HLEN := Lib.hid hl
    obtain ⟨m, hm⟩ : ∃ m, l'.length = m := ⟨_, rfl⟩
    have hlen : ((l.length : Int) != (m : Int)) = false := by simp; omega
    rw [hm] at HS' g4 ⊢
    have HM := Lib.hid (hm.symm.trans hl.symm)
    clear hl hm hr
    go_enter Tryd.func43, Tryd.ntmps43
    go_wp2_with fail
    go_loopw [17] (fun i wr => ∃ (j : Nat), j ≤ l.length ∧ i = .int .i64 j ∧ samesB (l.take j) (l'.take j) = true ∧ Below w.heap.size w wr) (fun i _ => l.length - (intOf i).toNat)
    case atStart => exact ⟨0, Nat.zero_le _, rfl, by simp [samesB], Below.refl _ _⟩
    case round =>
      obtain ⟨j, hj, rfl, hmx, hB⟩ := hrel
      obtain ⟨wk, rfl⟩ : ∃ x, x = wr := ⟨_, rfl⟩
      have HB := Lib.hid hB
      have HM1 := Lib.hid hmx
      clear hmx
      by_cases hlt : j < l.length
      · have hlt' : j < l'.length := by have := HLEN.out; omega
        obtain ⟨b, off, sa, sc, rfl, _, hb, q0, q1, q2, q3, hx⟩ := ((HS.out).below hB).elem' hlt
        obtain ⟨b', off', sa', sc', rfl, _, hb', q0', q1', q2', q3', hx'⟩ := ((HS'.out).below hB).elem' hlt'
        have hjm : j < m := by have := HM.out; have := HLEN.out; omega
        obtain ⟨r1, hr1⟩ : ∃ r1, sameB l[j] l'[j] = r1 := ⟨_, rfl⟩
        have hrec : ∀ w', Below wk.heap.size wk w' → Calls Tryd.prog 18 #[.agg #[intV l[j].kd, intV l[j].nm, .string l[j].tx, .slice sa l[j].its.length sc], .agg #[intV l'[j].kd, intV l'[j].nm, .string l'[j].tx, .slice sa' l'[j].its.length sc']] w' fun e w'' => e = .returned (.bool r1) ∧ Below w'.heap.size w' w'' := fun w' hb => by
          rw [← hr1]; exact IH.out l[j] (List.getElem_mem hlt) l'[j] _ _ P P' w' (hx.below hb) (hx'.below hb)
        have HREC := Lib.hid hrec
        have HR1 := Lib.hid hr1
        clear hrec hr1 hx hx' HS HS' hB
        go_wp2_with fail
        refine (HREC.out _ (below_box2 wk _ _)).mono ?_
        rintro e w2 ⟨rfl, h2⟩
        have HB2 := Lib.hid (below_seq HB.out (below_then (below_box2 wk _ _) h2) HB.out.size)
        have HT := Lib.hid (samesB_take hlt hlt' HM1.out)
        clear h2 q0 q1 q2 q3 q0' q1' q2' q3' HREC
        cases r1
        · go_wp2_with fail
          go_ret
          refine ⟨ret_bool ?_, HB2.out⟩
          rw [← HR.out]
          exact (HT.out.2 HR1.out).symm
        · go_wp2_with fail
          refine ⟨⟨j + 1, by omega, by go_num, HT.out.1 HR1.out, HB2.out⟩, ?_⟩
          simp [intOf]; omega
      · obtain rfl : j = l.length := by omega
        clear HS HS' hB
        go_wp2_with fail
        go_ret
        refine ⟨ret_bool ?_, HB.out⟩
        have := HM1.out
        rw [List.take_length, HLEN.out, List.take_length] at this
        rw [← HR.out, this]
  · have hr0 : r = false := by
      rw [← hr, Bool.eq_false_iff]
      exact fun h => hl (samesB_len h)
    subst hr0
    have hlen : ((l.length : Int) != (l'.length : Int)) = true := by simp; omega
    clear hl hr
    go_enter Tryd.func43, Tryd.ntmps43
    go_wp2_with fail
    go_ret
    exact ⟨rfl, Below.refl _ _⟩

set_option maxHeartbeats 2000000 in
theorem same_any (x : Val) : ∀ (y : Val) (v v' : Value) (P P' : Nat → Prop) (w : World), VAt w P v x → VAt w P' v' y →
    Calls Tryd.prog 18 #[v, v'] w fun e w' => e = .returned (.bool (sameB x y)) ∧ Below w.heap.size w w' := by
  refine Val.ind (P := fun x => ∀ (y : Val) (v v' : Value) (P P' : Nat → Prop) (w : World), VAt w P v x → VAt w P' v' y →
    Calls Tryd.prog 18 #[v, v'] w fun e w' => e = .returned (.bool (sameB x y)) ∧ Below w.heap.size w w') ?_ x
  intro k nn t l ih y v v' P P' w hv hv'
  obtain ⟨k', nn', t', l'⟩ := y
  obtain ⟨h1, h2, h3, h4, a, c, rfl, hs⟩ := vat_of hv
  obtain ⟨g1, g2, g3, g4, a', c', rfl, hs'⟩ := vat_of hv'
  obtain ⟨r, hr⟩ : ∃ r, sameB (.mk k nn t l) (.mk k' nn' t' l') = r := ⟨_, rfl⟩
  rw [hr]
  have HC := Lib.hid (fun w' hb => equalF_any l l' ih a a' c c' P P' w' (hs.below hb) (hs'.below hb) h4 g4)
  rw [sameB] at hr
  have HR := Lib.hid hr
  clear ih hs hs' hv hv' hr
  by_cases e1 : k = k'
  · by_cases e2 : nn = nn'
    · by_cases e3 : t.toList = t'.toList
      · have HR2 := Lib.hid (show samesB l l' = r by rw [← HR.out, e1, e2, e3, beq_self_eq_true, beq_self_eq_true, beq_self_eq_true, Bool.true_and, Bool.true_and, Bool.true_and])
        clear HR
        go_enter Tryd.func18, Tryd.ntmps18
        go_wp2_with fail
        refine (HC.out _ (below_box2 w _ _)).mono ?_
        rintro e w2 ⟨rfl, h2⟩
        go_wp2_with fail
        go_ret
        exact ⟨ret_bool HR2.out, below_then (below_box2 w _ _) h2⟩
      · have HR2 := Lib.hid (show r = false by rw [← HR.out]; simp [e3])
        clear HR
        go_enter Tryd.func18, Tryd.ntmps18
        go_wp2_with fail
        go_ret
        exact ⟨ret_bool HR2.out.symm, below_box2 w _ _⟩
    · have HR2 := Lib.hid (show r = false by rw [← HR.out]; simp [e2])
      clear HR
      go_enter Tryd.func18, Tryd.ntmps18
      go_wp2_with fail
      go_ret
      exact ⟨ret_bool HR2.out.symm, below_box2 w _ _⟩
  · have HR2 := Lib.hid (show r = false by rw [← HR.out]; simp [e1])
    clear HR
    go_enter Tryd.func18, Tryd.ntmps18
    go_wp2_with fail
    go_ret
    exact ⟨ret_bool HR2.out.symm, below_box2 w _ _⟩
end Go.Proofs.YtjcigjggfmfoeaaDoor
