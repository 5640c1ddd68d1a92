/- firstCommon, Common of the program; all its contracts together. -/
import Derived.Test.YtjjdihkjkmhjnaaGpChars
namespace Go.Proofs.Ytjjdihkjkmhjnaa
set_option linter.unusedSimpArgs false
set_option linter.unusedVariables false
set_option maxRecDepth 100000
open Go.RowKit Go.Deep Go.Maps

theorem start_eq : ∀ a b, setF (fun _ _ => none) 0 0 ⟨#[]⟩ a b = startF a b := noteF_none rfl
theorem ouF_size {l m : List El} {r i j : Nat} {s : ByteArray} (hi : i ≤ l.length) (hj : j ≤ m.length) (h : ouF l m (rndF l m r) (l.length + 1) i j = some s) : s.size = r := by
  have := rnd_min l m r i j hi hj
  rw [h] at this
  rw [← size_list]
  exact this.1.1
def FirstC (l m : List El) (M : Nat) (w : World) (e : Ending) (w' : World) : Prop := ∃ (v : ByteArray) (is : Bool), e = .returned (.tuple #[.string v, .bool is]) ∧ Below w.heap.size w w' ∧
  ((is = true ∧ ∃ r, r ≤ M ∧ foundF l m r = some v ∧ ∀ r' < r, foundF l m r' = none) ∨ (is = false ∧ v = ⟨#[]⟩ ∧ ∀ r ≤ M, foundF l m r = none))
set_option maxHeartbeats 8000000 in
theorem firstCommon_any (l m : List El) (vl vm : Value) (M : Nat) (w : World) (hl : EAt w vl l) (hm : EAt w vm m) (hln : l.length ≤ 64) (hmn : m.length ≤ 64) (hM : M ≤ 8) :
    Calls Try.prog 53 #[vl, vm, .int .i64 M] w (FirstC l m M w) := by
  have HVL := Lib.hid hl
  have HVM := Lib.hid hm
  obtain ⟨va, vc, rfl⟩ := hl.slice
  obtain ⟨va', vc', rfl⟩ := hm.slice
  have HMD := Lib.hid (MapAt.made w)
  have HBA := Lib.hid (below_box0 w (.map #[] 0))
  clear hl hm
  have hmm := @run_makeMap Try.prog
  go_enter Try.func53, Try.ntmps53
  go_wp2_with (refine wpList_set rfl (.tmp 11) (.tmp 12) (.const (.string ⟨#[]⟩)) (Or.inr rfl) HMD.out (by unfold maxLen; omega) rfl (i := 0) (j := 0) rfl (by omega) (by omega) rfl (by decide) ?_; intro w1 h1 g1; have HM1 := Lib.hid (h1.congr start_eq); have HB1 := Lib.hid (HBA.out.grown g1 (by simp) (fun k hk => by cases hk; exact Nat.le_refl _)); clear h1 g1)
  go_loopw [8, 16] (fun v8 v16 wr => ∃ (r mb q : Nat), r ≤ M + 1 ∧ v16 = .int .i64 r ∧ v8 = .map (some mb) ∧ q ≤ 4096 ∧ w.heap.size ≤ mb ∧ MapAt wr mb q (rndF l m r) ∧ Below w.heap.size w wr ∧ Hid (∀ r' < r, foundF l m r' = none)) (fun _ v16 _ => M + 1 - (intOf v16).toNat)
  case atStart => exact ⟨0, w.heap.size, 1, Nat.zero_le _, rfl, rfl, by omega, Nat.le_refl _, HM1.out, HB1.out, Lib.hid (fun r h => by omega)⟩
  case round =>
    obtain ⟨r, mb, q, hr, rfl, rfl, hq, hmb, hMA, hB, HN⟩ := hrel
    obtain ⟨wr0, rfl⟩ : ∃ x, x = wr := ⟨_, rfl⟩
    have HMA := Lib.hid hMA
    have HB := Lib.hid hB
    clear hMA hB
    by_cases hlt : r < M + 1
    · have hri : (r : Int) < M + 1 := by omega
      have HBO := Lib.hid (both_any l m (.slice va l.length vc) (.slice va' m.length vc') mb q (rndF l m r) wr0 (HVL.out.below HB.out) (HVM.out.below HB.out) hln hmn HMA.out (by omega))
      go_wp2_with fail
      refine HBO.out.mono ?_
      rintro e w2 ⟨rfl, h2, g2⟩
      have HM2 := Lib.hid h2
      have HB2 := Lib.hid (HB.out.grown g2 HB.out.size (fun k hk => by cases hk; exact hmb))
      clear h2 g2
      cases hF : foundF l m r with
      | some s =>
        have HF := Lib.hid (show ouF l m (rndF l m r) (l.length + 1) l.length m.length = some s from hF)
        have HFF := Lib.hid hF
        clear hF
        go_wp2_with (refine wpList_look_some rfl (.tmp 23) (.tmp 28) rfl HM2.out rfl (i := l.length) (j := m.length) rfl hln hmn HF.out ?_; intro _)
        refine bodyPost_ret (v := .tuple #[.string s, .bool true]) (by simp [results, Try.results53, go_sem]) rfl ⟨s, true, rfl, HB2.out, .inl ⟨rfl, r, by omega, HFF.out, HN.out⟩⟩
      | none =>
        have HF := Lib.hid (show ouF l m (rndF l m r) (l.length + 1) l.length m.length = none from hF)
        have HFF := Lib.hid hF
        have HCH := Lib.hid (chars_any l m (.slice va l.length vc) (.slice va' m.length vc') mb _ _ w2 (HVL.out.below HB2.out) (HVM.out.below HB2.out) hln hmn HM2.out (fun i j s hi hj h => by
          have := ouF_size (by omega) (by omega) h; omega))
        clear hF
        go_wp2_with (refine wpList_look_none rfl (.tmp 23) (.tmp 28) rfl HM2.out rfl (i := l.length) (j := m.length) rfl hln hmn HF.out ?_; intro k)
        refine HCH.out.mono ?_
        rintro e w3 ⟨nb, rfl, hnb, h3, hb3⟩
        have HM3 := Lib.hid h3
        have HB3 := Lib.hid (HB2.out.trans (hb3.mono HB2.out.size))
        have hnb' : w.heap.size ≤ nb := Nat.le_trans HB2.out.size hnb
        clear h3 hb3
        go_wp2_with fail
        refine ⟨⟨r + 1, nb, 4096, by omega, by go_num, rfl, Nat.le_refl _, hnb', HM3.out, HB3.out, Lib.hid (fun r' h => ?_)⟩, by simp [intOf]; omega⟩
        rcases Nat.lt_or_ge r' r with g | g
        · exact HN.out r' g
        · obtain rfl : r' = r := by omega
          exact HFF.out
    · obtain rfl : r = M + 1 := by omega
      go_wp2_with fail
      refine bodyPost_ret (v := .tuple #[.string ⟨#[]⟩, .bool false]) (by simp [results, Try.results53, go_sem]) rfl ⟨⟨#[]⟩, false, rfl, HB.out, .inr ⟨rfl, rfl, fun r' h => HN.out r' (by omega)⟩⟩
theorem common_of {p q : List UInt8} {M : Nat} (hp : chk p = 0) (hq : chk q = 0) (hM : M ≤ 8) {v : ByteArray} {is : Bool}
    (h : (is = true ∧ ∃ r, r ≤ M ∧ foundF (par p).2 (par q).2 r = some v ∧ ∀ r' < r, foundF (par p).2 (par q).2 r' = none) ∨ (is = false ∧ v = ⟨#[]⟩ ∧ ∀ r ≤ M, foundF (par p).2 (par q).2 r = none)) :
    CommonIs p q M v.data.toList is 0 := by
  unfold CommonIs
  rw [if_neg (by rw [hp, hq]; simp), if_neg (by omega)]
  refine ⟨rfl, ?_⟩
  rcases h with ⟨rfl, r, hr, hf, hn⟩ | ⟨rfl, rfl, hn⟩
  · left
    obtain ⟨g1, g2, g3, g4, g5⟩ := found_some hf
    refine ⟨rfl, by omega, g2, g3, g4, fun u hu h1 h2 => ?_⟩
    unfold befL
    rw [Bool.or_eq_false_iff, decide_eq_false_iff_not, Bool.and_eq_false_iff]
    have hge : r ≤ u.length := by
      rcases Nat.lt_or_ge u.length r with g | g
      · exact (found_none (hn u.length g) u rfl hu h1 h2).elim
      · exact g
    refine ⟨by omega, ?_⟩
    by_cases e : u.length = r
    · exact .inr (g5 u e hu h1 h2)
    · left; rw [decide_eq_false_iff_not]; omega
  · right
    refine ⟨rfl, rfl, fun u hu h1 h2 => ?_⟩
    rcases Nat.lt_or_ge M u.length with g | g
    · omega
    · exact (found_none (hn u.length g) u rfl hu h1 h2).elim
set_option maxHeartbeats 4000000 in
theorem common_at (p q : ByteArray) (most : Int) (h0 : -9223372036854775808 ≤ most) (h1 : most ≤ 9223372036854775807) (w : World) :
    Calls Try.prog 33 #[.string p, .string q, intV most] w (CommonPost p q most w) := by
  by_cases hp : chk p.data.toList = 0
  · have HEP := Lib.hid (elements_good p _ hp rfl w)
    by_cases hq : chk q.data.toList = 0
    · have HEQ := Lib.hid (fun W => elements_good q _ hq rfl W)
      have HLP := Lib.hid (And.intro (pat_len hp) (pat_len hq))
      have HC := Lib.hid (fun (M : Nat) (hM : M ≤ 8) (v : ByteArray) (is : Bool) => common_of (M := M) (v := v) (is := is) hp hq hM)
      have HBR := Lib.hid (show (most < 0 ∨ 8 < most) → CommonIs p.data.toList q.data.toList most [] false 2 from fun h => by
        unfold CommonIs
        rw [if_neg (by rw [hp, hq]; simp), if_pos h]
        exact ⟨rfl, rfl, rfl⟩)
      generalize (par p.data.toList).2 = l at *
      generalize (par q.data.toList).2 = m at *
      clear hp hq
      by_cases hm0 : most < 0
      · have q1 : decide (most < 0) = true := decide_eq_true hm0
        go_enter Try.func33, Try.ntmps33
        go_wp2_with fail
        refine HEP.out.mono ?_
        rintro e w1 ⟨v1, rfl, he1, g1⟩
        have HB1 := Lib.hid g1
        clear he1 g1
        go_wp2_with fail
        refine (HEQ.out w1).mono ?_
        rintro e w2 ⟨v2, rfl, he2, g2⟩
        have HB2 := Lib.hid (HB1.out.trans (g2.mono HB1.out.size))
        clear he2 g2
        go_wp2_with fail
        refine bodyPost_ret (v := .tuple #[.string ⟨#[]⟩, .bool false, intV 2]) (by simp [results, Try.results33, go_sem]) rfl ⟨⟨#[]⟩, false, 2, rfl, HBR.out (.inl hm0), HB2.out⟩
      by_cases hm8 : 8 < most
      · have q1 : decide (most < 0) = false := decide_eq_false hm0
        have q2 : decide (8 < most) = true := decide_eq_true hm8
        go_enter Try.func33, Try.ntmps33
        go_wp2_with fail
        refine HEP.out.mono ?_
        rintro e w1 ⟨v1, rfl, he1, g1⟩
        have HB1 := Lib.hid g1
        clear he1 g1
        go_wp2_with fail
        refine (HEQ.out w1).mono ?_
        rintro e w2 ⟨v2, rfl, he2, g2⟩
        have HB2 := Lib.hid (HB1.out.trans (g2.mono HB1.out.size))
        clear he2 g2
        go_wp2_with fail
        refine bodyPost_ret (v := .tuple #[.string ⟨#[]⟩, .bool false, intV 2]) (by simp [results, Try.results33, go_sem]) rfl ⟨⟨#[]⟩, false, 2, rfl, HBR.out (.inr hm8), HB2.out⟩
      obtain ⟨M, hM⟩ : ∃ M : Nat, most = M := ⟨most.toNat, by omega⟩
      subst hM
      have hM8 : M ≤ 8 := by omega
      have q1 : decide ((M : Int) < 0) = false := decide_eq_false hm0
      have q2 : decide ((8 : Int) < M) = false := decide_eq_false hm8
      have q3 : decide (8 < M) = false := decide_eq_false (by omega)
      clear h0 h1 hm0 hm8 HBR
      go_enter Try.func33, Try.ntmps33
      go_wp2_with fail
      refine HEP.out.mono ?_
      rintro e w1 ⟨v1, rfl, he1, g1⟩
      have HE1 := Lib.hid he1
      have HB1 := Lib.hid g1
      clear he1 g1
      go_wp2_with fail
      refine (HEQ.out w1).mono ?_
      rintro e w2 ⟨v2, rfl, he2, g2⟩
      have HE2 := Lib.hid (And.intro (HE1.out.below g2) he2)
      have HB2 := Lib.hid (HB1.out.trans (g2.mono HB1.out.size))
      clear he2 g2
      go_wp2_with fail
      refine (firstCommon_any l m v1 v2 M w2 HE2.out.1 HE2.out.2 HLP.out.1 HLP.out.2 hM8).mono ?_
      rintro e w3 ⟨v, is, rfl, g3, hres⟩
      have HB3 := Lib.hid (HB2.out.trans (g3.mono HB2.out.size))
      have HRES := Lib.hid (HC.out M hM8 v is hres)
      clear g3 hres
      go_wp2_with fail
      refine bodyPost_ret (v := .tuple #[.string v, .bool is, intV 0]) (by simp [results, Try.results33, go_sem]) rfl ⟨v, is, 0, rfl, HRES.out, HB3.out⟩
    · have HEQ := Lib.hid (fun W => elements_bad q hq W)
      have HBR := Lib.hid (show CommonIs p.data.toList q.data.toList most [] false 1 by
        unfold CommonIs
        rw [if_pos (.inr hq)]
        exact ⟨rfl, rfl, rfl⟩)
      clear hp hq
      go_enter Try.func33, Try.ntmps33
      go_wp2_with fail
      refine HEP.out.mono ?_
      rintro e w1 ⟨v1, rfl, he1, g1⟩
      have HB1 := Lib.hid g1
      clear he1 g1
      go_wp2_with fail
      refine (HEQ.out w1).mono ?_
      rintro e w2 ⟨v2, rfl, g2⟩
      have HB2 := Lib.hid (HB1.out.trans (g2.mono HB1.out.size))
      clear g2
      go_wp2_with fail
      refine bodyPost_ret (v := .tuple #[.string ⟨#[]⟩, .bool false, intV 1]) (by simp [results, Try.results33, go_sem]) rfl ⟨⟨#[]⟩, false, 1, rfl, HBR.out, HB2.out⟩
  · have HEP := Lib.hid (elements_bad p hp w)
    have HEQ := Lib.hid (fun W => elements_any q W)
    have HBR := Lib.hid (show CommonIs p.data.toList q.data.toList most [] false 1 by
      unfold CommonIs
      rw [if_pos (.inl hp)]
      exact ⟨rfl, rfl, rfl⟩)
    obtain ⟨bq, hbq⟩ : ∃ b, decide (chk q.data.toList = 0) = b := ⟨_, rfl⟩
    have HBQ := Lib.hid hbq
    clear hp hbq
    go_enter Try.func33, Try.ntmps33
    go_wp2_with fail
    refine HEP.out.mono ?_
    rintro e w1 ⟨v1, rfl, g1⟩
    have HB1 := Lib.hid g1
    clear g1
    go_wp2_with fail
    refine (HEQ.out w1).mono ?_
    rintro e w2 ⟨v2, rfl, _, g2⟩
    have HB2 := Lib.hid (HB1.out.trans (g2.mono HB1.out.size))
    clear g2
    rw [HBQ.out]
    go_wp2_with fail
    refine bodyPost_ret (v := .tuple #[.string ⟨#[]⟩, .bool false, intV 1]) (by simp [results, Try.results33, go_sem]) rfl ⟨⟨#[]⟩, false, 1, rfl, HBR.out, HB2.out⟩
theorem globOk1 : GlobOk1 := ⟨check_at, match_at, literal_at, bounds_at, common_at⟩
end Go.Proofs.Ytjjdihkjkmhjnaa
