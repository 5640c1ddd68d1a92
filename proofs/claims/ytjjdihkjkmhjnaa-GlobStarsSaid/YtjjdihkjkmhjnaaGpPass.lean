/- passStars, passByte, matches of the program. -/
import Derived.Test.YtjjdihkjkmhjnaaGpPlaces
import Derived.Deep.Cut
namespace Go.Proofs.Ytjjdihkjkmhjnaa
set_option linter.unusedSimpArgs false
set_option linter.unusedVariables false
set_option maxRecDepth 100000
open Go.RowKit Go.Deep

/-- after k rounds -/
def closeK (l : List El) (S : Nat → Bool) (k j : Nat) : Bool := if j ≤ k then closeS l S j else S j
theorem closeK_zero (l : List El) (S : Nat → Bool) (j : Nat) : closeK l S 0 j = S j := by
  unfold closeK
  by_cases h : j ≤ 0
  · obtain rfl : j = 0 := by omega
    rw [if_pos h]; rfl
  · rw [if_neg h]
theorem closeK_self (l : List El) (S : Nat → Bool) (k : Nat) : closeK l S k k = closeS l S k := if_pos (Nat.le_refl _)
theorem closeK_succ (l : List El) (S : Nat → Bool) (k j : Nat) : closeK l S (k + 1) j = (closeK l S k j || (j == k + 1 && (starAt l k && closeS l S k))) := by
  unfold closeK
  by_cases h : j = k + 1
  · subst h
    rw [if_pos (Nat.le_refl _), if_neg (by omega), closeS]; simp
  · have hb : (j == k + 1) = false := by simpa using h
    rw [hb, Bool.false_and, Bool.or_false]
    by_cases h2 : j ≤ k
    · rw [if_pos h2, if_pos (by omega)]
    · rw [if_neg h2, if_neg (by omega)]
def ClosePost (l : List El) (S : Nat → Bool) (w : World) (e : Ending) (w' : World) : Prop := ∃ a b : Nat, e = .returned (.agg #[uV a, uV b]) ∧ a < two64 ∧ b < two64 ∧ (∀ j, j ≤ l.length → hasB a b j = closeS l S j) ∧ Below w.heap.size w w'
theorem EAt.star {W : World} {a : Option Addr} {n cap : Nat} {l : List El} (h : EAt W (.slice a n cap) l) {j : Nat} (hj : j < l.length) : ∃ b off, a = some ⟨b, off, none⟩ ∧ b < W.heap.size ∧ W.cell? ⟨b, off + j * 258 + 257, none⟩ = some (.bool (starAt l j)) := by
  obtain ⟨b, off, rfl, hb, hr⟩ := h.get hj
  exact ⟨b, off, rfl, hb, by rw [starAt_get hj]; exact hr 257 _ (elL_star _)⟩
set_option maxHeartbeats 2000000 in
theorem passStars_any (l : List El) (v : Value) (a b : Nat) (w : World) (hv : EAt w v l) (hl : l.length ≤ 64) (ha : a < two64) (hb : b < two64) :
    Calls Try.prog 58 #[v, .agg #[uV a, uV b]] w (ClosePost l (hasB a b) w) := by
  have hz := (zero_of_info info_pl).1
  have HV := Lib.hid hv
  have HAB := Lib.hid (And.intro ha hb)
  obtain ⟨va, vc, rfl⟩ := hv.slice
  clear hv ha hb
  go_enter Try.func58, Try.ntmps58
  go_wp2_with fail
  go_loopw [8] (fun v8 wr => ∃ (k a' b' : Nat), k ≤ l.length ∧ v8 = .int .i64 k ∧ Hid (a' < two64 ∧ b' < two64 ∧ ∀ j, hasB a' b' j = closeK l (hasB a b) k j) ∧ PB wr w.heap.size a' b' ∧ PB wr (w.heap.size + 1) 0 0 ∧ Below w.heap.size w wr) (fun v8 _ => l.length - (intOf v8).toNat)
  case atStart =>
    refine ⟨0, a, b, Nat.zero_le _, rfl, Lib.hid ⟨HAB.out.1, HAB.out.2, fun j => (closeK_zero l _ j).symm⟩, ?_, ?_, ?_⟩
    · exact heap_alloc2_old w _ _
    · exact heap_alloc2_new w _ _
    · exact (below_box0 w _).alloc (by simp) _
  case round =>
    obtain ⟨k, a', b', hk, rfl, HI, hp, hr, hB⟩ := hrel
    obtain ⟨wk, rfl⟩ : ∃ x, x = wr := ⟨_, rfl⟩
    have HP := Lib.hid hp
    have HR := Lib.hid hr
    have HB := Lib.hid hB
    clear hp hr hB
    by_cases hlt : k < l.length
    · obtain ⟨bb, off, rfl, hbb, hst⟩ := (HV.out.below HB.out).star hlt
      obtain ⟨r, hhr⟩ : ∃ r, hasB a' b' k = r := ⟨_, rfl⟩
      obtain ⟨st, hs⟩ : ∃ st, starAt l k = st := ⟨_, rfl⟩
      rw [hs] at hst
      have hcl : closeS l (hasB a b) k = r := by rw [← closeK_self, ← HI.out.2.2 k, hhr]
      have HCL := Lib.hid (And.intro hcl hs)
      have HH := Lib.hid (has_at a' b' k HI.out.1 HI.out.2.1 (by omega) r hhr wk)
      have c0 := HP.out.c0
      have c1 := HP.out.c1
      clear hhr hcl hs
      go_wp2_with fail
      refine HH.out.mono ?_
      rintro e w1 ⟨rfl, h1⟩
      have HP1 := Lib.hid (HP.out.below h1)
      have HR1 := Lib.hid (HR.out.below h1)
      have HB1 := Lib.hid (HB.out.trans (h1.mono HB.out.size))
      have hst1 := (h1.cell (p := ⟨bb, off + k * 258 + 257, none⟩) hbb).trans hst
      have d0 := HP1.out.c0
      have d1 := HP1.out.c1
      clear h1 hst c0 c1
      have hk64 : k + 1 ≤ 64 := by omega
      have hki : (k : Int) + 1 ≤ 64 := by omega
      cases r with
      | false =>
        go_wp2_with fail
        refine ⟨⟨k + 1, a', b', by omega, by go_num, Lib.hid ⟨HI.out.1, HI.out.2.1, fun j => ?_⟩, HP1.out, HR1.out, HB1.out⟩, by simp [intOf]; omega⟩
        rw [closeK_succ, HCL.out.1, HI.out.2.2 j]; simp
      | true =>
        cases st with
        | false =>
          go_wp2_with fail
          refine ⟨⟨k + 1, a', b', by omega, by go_num, Lib.hid ⟨HI.out.1, HI.out.2.1, fun j => ?_⟩, HP1.out, HR1.out, HB1.out⟩, by simp [intOf]; omega⟩
          rw [closeK_succ, HCL.out.2, HI.out.2.2 j]; simp
        | true =>
          have HWI := Lib.hid (with_at a' b' (k + 1) HI.out.1 HI.out.2.1 (by omega) w1)
          go_wp2_with fail
          refine HWI.out.mono ?_
          rintro e w2 ⟨a2, b2, rfl, g1, g2, g3, g4⟩
          have HG := Lib.hid (And.intro g1 (And.intro g2 g3))
          have HP2 := Lib.hid (HP1.out.below g4)
          have HR2 := Lib.hid (HR1.out.below g4)
          have HB2 := Lib.hid (HB1.out.trans (g4.mono HB1.out.size))
          clear g1 g2 g3 g4
          go_wp2_with (refine wpList_store_into rfl 88 (.tmp 3) (.tmp 24) rfl w.heap.size #[uV a2, uV b2] rfl rfl 88 #[uV a', uV b'] HP2.out (size_pl _ _) rfl (one_pl _ _) ?_; intro W3 m1 m2 m3; have HP3 := Lib.hid (show PB W3 w.heap.size a2 b2 from m1); have HR3 := Lib.hid (show PB W3 (w.heap.size + 1) 0 0 from (m2 _ (by omega)).trans HR2.out); have HB3 := Lib.hid (below_seq HB2.out (m3 w.heap.size (Nat.le_refl _)) (Nat.le_refl _)); clear m1 m2 m3)
          refine ⟨⟨k + 1, a2, b2, by omega, by go_num, Lib.hid ⟨HG.out.1, HG.out.2.1, fun j => ?_⟩, HP3.out, HR3.out, HB3.out⟩, by simp [intOf]; omega⟩
          rw [closeK_succ, HCL.out.1, HCL.out.2, HG.out.2.2 j, HI.out.2.2 j]; simp
    · obtain rfl : k = l.length := by omega
      have c0 := HP.out.c0
      have c1 := HP.out.c1
      go_wp2_with (refine wpList_store_into rfl 88 (.tmp 4) (.tmp 26) rfl (w.heap.size + 1) #[uV a', uV b'] rfl rfl 88 #[uV 0, uV 0] HR.out (size_pl _ _) rfl (one_pl _ _) ?_; intro W3 m1 m2 m3; have HR3 := Lib.hid (show PB W3 (w.heap.size + 1) a' b' from m1); have HB3 := Lib.hid (below_seq HB.out (m3 w.heap.size (by omega)) (Nat.le_refl _)); clear m1 m2 m3)
      refine bodyPost_ret (v := .agg #[uV a', uV b']) ?_ rfl ⟨a', b', rfl, HI.out.1, HI.out.2.1, fun j hj => ?_, HB3.out⟩
      · exact results_cell_row rfl _ _ _ _ _ _ _ rfl HR3.out Try.underlying88 rfl (size_pl _ _)
      · rw [HI.out.2.2 j, closeK, if_pos hj]
/-- .. with the byte c, after k rounds -/
def nextK (l : List El) (S : Nat → Bool) (c : UInt8) (k j : Nat) : Bool := (decide (j < k) && (starAt l j && (S j && fitAt l j c))) || (decide (0 < j ∧ j ≤ k) && (!starAt l (j - 1) && (S (j - 1) && fitAt l (j - 1) c)))
theorem nextK_zero (l : List El) (S : Nat → Bool) (c : UInt8) (j : Nat) : nextK l S c 0 j = false := by
  unfold nextK
  rw [decide_eq_false (by omega), decide_eq_false (by omega)]; rfl
theorem nextK_end (l : List El) (S : Nat → Bool) (c : UInt8) (j : Nat) (hj : j ≤ l.length) : nextK l S c l.length j = nextS l S c j := by
  unfold nextK
  cases j with
  | zero =>
    rw [nextS]
    rw [decide_eq_false (p := 0 < 0 ∧ 0 ≤ l.length) (by omega), Bool.false_and, Bool.or_false]
    by_cases h : 0 < l.length
    · rw [decide_eq_true h, Bool.true_and]
    · rw [starAt_out (by omega)]; simp
  | succ j =>
    rw [nextS, decide_eq_true (p := 0 < j + 1 ∧ j + 1 ≤ l.length) ⟨by omega, hj⟩, Bool.true_and, Nat.add_sub_cancel]
    by_cases h : j + 1 < l.length
    · rw [decide_eq_true h, Bool.true_and]
    · rw [starAt_out (i := j + 1) (by omega)]; simp
theorem nextK_succ (l : List El) (S : Nat → Bool) (c : UInt8) (k j : Nat) : nextK l S c (k + 1) j = (nextK l S c k j || (j == beh l k && (S k && fitAt l k c))) := by
  unfold nextK beh
  by_cases hs : starAt l k = true
  · rw [if_pos hs]
    by_cases h : j = k
    · subst h
      rw [decide_eq_true (p := j < j + 1) (by omega), decide_eq_false (p := j < j) (by omega), hs, decide_eq_decide.2 (show 0 < j ∧ j ≤ j + 1 ↔ 0 < j ∧ j ≤ j by omega)]
      simp only [beq_self_eq_true, Bool.true_and, Bool.false_and, Bool.false_or]
      rw [Bool.or_comm]
    · have hb : (j == k) = false := by simpa using h
      rw [hb, Bool.false_and, Bool.or_false, decide_eq_decide.2 (show j < k + 1 ↔ j < k by omega)]
      by_cases h2 : j = k + 1
      · subst h2
        rw [Nat.add_sub_cancel, hs]; simp
      · rw [decide_eq_decide.2 (show 0 < j ∧ j ≤ k + 1 ↔ 0 < j ∧ j ≤ k by omega)]
  · rw [if_neg hs]
    have hs' : starAt l k = false := by simpa using hs
    by_cases h : j = k + 1
    · subst h
      rw [decide_eq_false (p := k + 1 < k + 1) (by omega), decide_eq_false (p := k + 1 < k) (by omega), decide_eq_true (p := 0 < k + 1 ∧ k + 1 ≤ k + 1) (by omega), decide_eq_false (p := 0 < k + 1 ∧ k + 1 ≤ k) (by omega), Nat.add_sub_cancel, hs']
      simp
    · have hb : (j == k + 1) = false := by simpa using h
      rw [hb, Bool.false_and, Bool.or_false, decide_eq_decide.2 (show 0 < j ∧ j ≤ k + 1 ↔ 0 < j ∧ j ≤ k by omega)]
      by_cases h2 : j = k
      · subst h2
        rw [hs']; simp
      · rw [decide_eq_decide.2 (show j < k + 1 ↔ j < k by omega)]
def NextPost (l : List El) (S : Nat → Bool) (c : UInt8) (w : World) (e : Ending) (w' : World) : Prop := ∃ a b : Nat, e = .returned (.agg #[uV a, uV b]) ∧ a < two64 ∧ b < two64 ∧ (∀ j, j ≤ l.length → hasB a b j = nextS l S c j) ∧ Below w.heap.size w w'
theorem EAt.byte {W : World} {a : Option Addr} {n cap : Nat} {l : List El} (h : EAt W (.slice a n cap) l) {j : Nat} (hj : j < l.length) (c : UInt8) : ∃ b off, a = some ⟨b, off, none⟩ ∧ b < W.heap.size ∧ W.cell? ⟨b, off + j * 258 + 257, none⟩ = some (.bool (starAt l j)) ∧ W.cell? ⟨b, off + j * 258 + 1 + c.toNat, none⟩ = some (.bool (fitAt l j c)) := by
  obtain ⟨b, off, rfl, hb, hr⟩ := h.get hj
  exact ⟨b, off, rfl, hb, by rw [starAt_get hj]; exact hr 257 _ (elL_star _), by rw [fitAt_get hj, Nat.add_assoc _ 1]; exact hr _ _ (elL_byte _ c)⟩
theorem hasB_zero (j : Nat) : hasB 0 0 j = false := by unfold hasB; split <;> simp
set_option maxHeartbeats 2000000 in
theorem passByte_any (l : List El) (v : Value) (a b : Nat) (c : UInt8) (w : World) (hv : EAt w v l) (hl : l.length ≤ 64) (ha : a < two64) (hb : b < two64) :
    Calls Try.prog 60 #[v, .agg #[uV a, uV b], .int .u8 c.toNat] w (NextPost l (hasB a b) c w) := by
  have hz := (zero_of_info info_pl).1
  have HV := Lib.hid hv
  have HAB := Lib.hid (And.intro ha hb)
  obtain ⟨va, vc, rfl⟩ := hv.slice
  have hc0 : (0 : Int) ≤ c.toNat := by omega
  have hc1 : (c.toNat : Int) < 256 := by have := UInt8.toNat_lt c; omega
  clear hv ha hb
  go_enter Try.func60, Try.ntmps60
  go_wp2_with fail
  go_loopw [11] (fun v11 wr => ∃ (k a' b' : Nat), k ≤ l.length ∧ v11 = .int .i64 k ∧ Hid (a' < two64 ∧ b' < two64 ∧ ∀ j, hasB a' b' j = nextK l (hasB a b) c k j) ∧ PB wr w.heap.size a b ∧ PB wr (w.heap.size + 1) 0 0 ∧ PB wr (w.heap.size + 1 + 1) a' b' ∧ Below w.heap.size w wr) (fun v11 _ => l.length - (intOf v11).toNat)
  case atStart =>
    refine ⟨0, 0, 0, Nat.zero_le _, rfl, Lib.hid ⟨by decide, by decide, fun j => by rw [nextK_zero, hasB_zero]⟩, ?_, ?_, ?_, ?_⟩
    · exact (Below.heap_alloc _ _ _ (by rw [World.size_alloc, World.size_alloc]; omega)).trans (heap_alloc2_old w _ _)
    · exact (Below.heap_alloc _ _ _ (by rw [World.size_alloc, World.size_alloc]; omega)).trans (heap_alloc2_new w _ _)
    · have := heap_alloc_new ((w.alloc (.cells #[uV a, uV b] 88)).alloc (.cells #[uV 0, uV 0] 88)) (.cells #[uV 0, uV 0] 88)
      rw [World.size_alloc, World.size_alloc] at this
      exact this
    · exact ((below_box0 w _).alloc (by simp) _).alloc (by rw [World.size_alloc, World.size_alloc]; omega) _
  case round =>
    obtain ⟨k, a', b', hk, rfl, HI, hp, hr, hn, hB⟩ := hrel
    obtain ⟨wk, rfl⟩ : ∃ x, x = wr := ⟨_, rfl⟩
    have HP := Lib.hid hp
    have HR := Lib.hid hr
    have HN := Lib.hid hn
    have HB := Lib.hid hB
    clear hp hr hn hB
    by_cases hlt : k < l.length
    · obtain ⟨bb, off, rfl, hbb, hst, hft⟩ := (HV.out.below HB.out).byte hlt c
      obtain ⟨r, hhr⟩ : ∃ r, hasB a b k = r := ⟨_, rfl⟩
      obtain ⟨st, hs⟩ : ∃ st, starAt l k = st := ⟨_, rfl⟩
      obtain ⟨ft, hf⟩ : ∃ ft, fitAt l k c = ft := ⟨_, rfl⟩
      rw [hs] at hst
      rw [hf] at hft
      have HCL := Lib.hid (And.intro hhr (And.intro hs hf))
      have HH := Lib.hid (has_at a b k HAB.out.1 HAB.out.2 (by omega) r hhr wk)
      have c0 := HP.out.c0
      have c1 := HP.out.c1
      clear hhr hs hf
      have HSC := Lib.hid (nextK_succ l (hasB a b) c k)
      go_wp2_with fail
      refine HH.out.mono ?_
      rintro e w1 ⟨rfl, h1⟩
      have HP1 := Lib.hid (HP.out.below h1)
      have HR1 := Lib.hid (HR.out.below h1)
      have HN1 := Lib.hid (HN.out.below h1)
      have HB1 := Lib.hid (HB.out.trans (h1.mono HB.out.size))
      have hst1 := (h1.cell (p := ⟨bb, off + k * 258 + 257, none⟩) hbb).trans hst
      have hft1 := (h1.cell (p := ⟨bb, off + k * 258 + 1 + c.toNat, none⟩) hbb).trans hft
      have d0 := HN1.out.c0
      have d1 := HN1.out.c1
      clear h1 hst hft c0 c1
      have hk64 : k + 1 ≤ 64 := by omega
      have hki : (k : Int) + 1 ≤ 64 := by omega
      cases r with
      | false =>
        go_wp2_with fail
        refine ⟨⟨k + 1, a', b', by omega, by go_num, Lib.hid ⟨HI.out.1, HI.out.2.1, fun j => ?_⟩, HP1.out, HR1.out, HN1.out, HB1.out⟩, by simp [intOf]; omega⟩
        rw [HSC.out, HCL.out.1, HI.out.2.2 j]; simp
      | true =>
        cases ft with
        | false =>
          go_wp2_with fail
          refine ⟨⟨k + 1, a', b', by omega, by go_num, Lib.hid ⟨HI.out.1, HI.out.2.1, fun j => ?_⟩, HP1.out, HR1.out, HN1.out, HB1.out⟩, by simp [intOf]; omega⟩
          rw [HSC.out, HCL.out.2.2, HI.out.2.2 j]; simp
        | true =>
          go_upto_region 6 with fail
          have HS0 := Lib.hid (show w1.drew.cell? ⟨w.heap.size + 1 + 1, 0, none⟩ = some (uV a') ∧ w1.drew.cell? ⟨w.heap.size + 1 + 1, 1, none⟩ = some (uV b') from ⟨d0, d1⟩)
          have HBH := Lib.hid (behind_at bb (off + k * 258) k st w1.drew hst1 (by omega))
          obtain ⟨m, hm⟩ : ∃ m, (if st then k else k + 1) = m := ⟨_, rfl⟩
          rw [hm] at HBH
          have hm64 : m < 128 := by rw [← hm]; split <;> omega
          have hmb : m = beh l k := by rw [← hm, beh, HCL.out.2.1]
          have HM := Lib.hid hmb
          have HWI := Lib.hid (with_at a' b' m HI.out.1 HI.out.2.1 hm64 w1.drew)
          have hk0 : (0 : Int) ≤ k := by omega
          have hk1 : (k : Int) < l.length := by omega
          clear hm hmb hst1 hft1
          refine wp_region_noPanic ?_
          refine wp_region_any (by kernel_rfl) (wpAny_of_k (S := fun w' => w'.cell? ⟨w.heap.size + 1 + 1, 0, none⟩ = some (uV a') ∧ w'.cell? ⟨w.heap.size + 1 + 1, 1, none⟩ = some (uV b')) (S' := fun _ => True) (k := 6) _ _ _ _ ?_)
          change wpAnyK _ _ _ _ _ _ _ 8 _ _ w1.drew
          refine wpAnyK_takeL (i := 0) (v := .agg #[uV a', uV b']) (some 26) rfl rfl rfl (by kernel_rfl) (by kernel_rfl) (by kernel_rfl) (by kernel_rfl) (by kernel_rfl) (by decide) (fun _ _ _ h => h) (Or.inl ⟨by rfl, fun w' hw' => ?_⟩) (HS0.out) (trivial) ?_
          · obtain ⟨hw1, hw2⟩ := hw'; go_simp
          (try simp only [Act.put, List.setIfInBounds_toArray, List.set_cons_zero, List.set_cons_succ])
          refine wpAnyK_takeD (i := 1) (v := .slice (some ⟨bb, off, none⟩) l.length vc) (some 27) rfl rfl (by kernel_rfl) (by kernel_rfl) (by kernel_rfl) (by decide) (fun _ _ _ h => h) (Or.inl ⟨by rfl, fun w' hw' => ?_⟩) (fun _ => HS0.out) (trivial) ?_
          · go_simp
          (try simp only [Act.put, List.setIfInBounds_toArray, List.set_cons_zero, List.set_cons_succ])
          refine wpAnyK_takeD (i := 2) (v := .int .i64 k) (some 28) rfl rfl (by kernel_rfl) (by kernel_rfl) (by kernel_rfl) (by decide) (fun _ _ _ h => h) (Or.inl ⟨by rfl, fun w' hw' => ?_⟩) (fun _ => HS0.out) (trivial) ?_
          · go_simp
          (try simp only [Act.put, List.setIfInBounds_toArray, List.set_cons_zero, List.set_cons_succ])
          refine wpAnyK_takeD (i := 3) (v := .pointer (some ⟨bb, off + k * 258, none⟩)) (some 29) rfl rfl (by kernel_rfl) (by kernel_rfl) (by kernel_rfl) (by decide) (fun _ _ _ h => h) (Or.inl ⟨by rfl, fun w' hw' => ?_⟩) (fun _ => HS0.out) (trivial) ?_
          · go_simp
          (try simp only [Act.put, List.setIfInBounds_toArray, List.set_cons_zero, List.set_cons_succ])
          refine wpAnyK_takeD (i := 4) (v := .int .i64 k) (some 30) rfl rfl (by kernel_rfl) (by kernel_rfl) (by kernel_rfl) (by decide) (fun _ _ _ h => h) (Or.inl ⟨by rfl, fun w' hw' => ?_⟩) (fun _ => HS0.out) (trivial) ?_
          · go_simp
          (try simp only [Act.put, List.setIfInBounds_toArray, List.set_cons_zero, List.set_cons_succ])
          refine wpAnyK_all (rs := [5]) (by kernel_rfl) (by simp) ?_
          intro i' hi'
          obtain rfl := List.mem_singleton.1 hi'
          clear hi'
          refine wpOp_step rfl fun K hK => ?_
          go_simp
          refine HBH.out.mono ?_
          rintro e w9 ⟨rfl, rfl⟩
          refine hK _ _ ⟨fun _ => HS0.out, trivial, ?_⟩
          clear hK K
          (try simp only [Act.put, List.setIfInBounds_toArray, List.set_cons_zero, List.set_cons_succ])
          refine wpAnyK_all (rs := [6]) (by kernel_rfl) (by simp) ?_
          intro i' hi'
          obtain rfl := List.mem_singleton.1 hi'
          clear hi'
          refine wpOp_step rfl fun K hK => ?_
          go_simp
          refine HWI.out.mono ?_
          rintro e w2 ⟨a2, b2, rfl, g1, g2, g3, g4⟩
          have HG := Lib.hid (And.intro g1 (And.intro g2 g3))
          have HP2 := Lib.hid (PB.below (W := w1.drew) HP1.out g4)
          have HR2 := Lib.hid (PB.below (W := w1.drew) HR1.out g4)
          have HN2 := Lib.hid (PB.below (W := w1.drew) HN1.out g4)
          have HB2 := Lib.hid ((HB1.out.drew).trans (g4.mono HB1.out.size))
          clear g1 g2 g3 g4
          refine hK _ _ ⟨fun h => (nomatch (h.symm.trans (show _ = true by kernel_rfl))), trivial, ?_⟩
          clear hK K
          (try simp only [Act.put, List.setIfInBounds_toArray, List.set_cons_zero, List.set_cons_succ])
          refine wpAnyK_all (rs := [7]) (by kernel_rfl) (by simp) ?_
          intro i' hi'
          obtain rfl := List.mem_singleton.1 hi'
          clear hi'
          refine wpOp_step rfl fun K hK => ?_
          refine wp_store_into 88 (.tmp 7) (.tmp 32) rfl (w.heap.size + 1 + 1) #[uV a2, uV b2] rfl rfl 88 #[uV a', uV b'] HN2.out (size_pl _ _) rfl (one_pl _ _) ?_
          intro W3 m1 m2 m3
          have HP3 := Lib.hid (show PB W3 w.heap.size a b from (m2 _ (by omega)).trans HP2.out)
          have HR3 := Lib.hid (show PB W3 (w.heap.size + 1) 0 0 from (m2 _ (by omega)).trans HR2.out)
          have HN3 := Lib.hid (show PB W3 (w.heap.size + 1 + 1) a2 b2 from m1)
          have HB3 := Lib.hid (below_seq HB2.out (m3 w.heap.size (by omega)) (Nat.le_refl _))
          clear m1 m2 m3
          refine hK _ _ ⟨fun h => (nomatch (h.symm.trans (show _ = true by kernel_rfl))), trivial, ?_⟩
          clear hK K
          refine wpAnyK_done (by kernel_rfl) ?_ _
          refine NoPanic.normal ?_
          go_wp2
          refine ⟨⟨k + 1, a2, b2, by omega, by go_num, Lib.hid ⟨HG.out.1, HG.out.2.1, fun j => ?_⟩, HP3.out, HR3.out, HN3.out, HB3.out⟩, by simp [intOf]; omega⟩
          rw [HSC.out, HCL.out.1, HCL.out.2.2, HG.out.2.2 j, HI.out.2.2 j, HM.out]; simp
    · obtain rfl : k = l.length := by omega
      have c0 := HN.out.c0
      have c1 := HN.out.c1
      go_wp2_with (refine wpList_store_into rfl 88 (.tmp 6) (.tmp 34) rfl (w.heap.size + 1) #[uV a', uV b'] rfl rfl 88 #[uV 0, uV 0] HR.out (size_pl _ _) rfl (one_pl _ _) ?_; intro W3 m1 m2 m3; have HR3 := Lib.hid (show PB W3 (w.heap.size + 1) a' b' from m1); have HB3 := Lib.hid (below_seq HB.out (m3 w.heap.size (by omega)) (Nat.le_refl _)); clear m1 m2 m3)
      refine bodyPost_ret (v := .agg #[uV a', uV b']) ?_ rfl ⟨a', b', rfl, HI.out.1, HI.out.2.1, fun j hj => ?_, HB3.out⟩
      · exact results_cell_row rfl _ _ _ _ _ _ _ rfl HR3.out Try.underlying88 rfl (size_pl _ _)
      · rw [HI.out.2.2 j, nextK_end l _ c j hj]
end Go.Proofs.Ytjjdihkjkmhjnaa
