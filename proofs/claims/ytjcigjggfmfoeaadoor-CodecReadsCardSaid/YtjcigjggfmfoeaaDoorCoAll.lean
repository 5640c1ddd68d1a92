/- The reference's all, Check and Size. -/
import Derived.Test.YtjcigjggfmfoeaaDoorCoMeas
namespace Go.Proofs.YtjcigjggfmfoeaaDoor
set_option linter.unusedSimpArgs false
set_option linter.unusedVariables false
set_option maxRecDepth 100000
open Go.RowKit Go.Deep

theorem allsV_take {l : List Val} {j : Nat} (h : j < l.length) (h0 : allsV (l.take j) = 0) : allsV (l.take (j + 1)) = allV l[j] := by
  rw [take_succ_of h]
  generalize l.take j = a at h0
  generalize l[j] = x
  induction a with
  | nil => rw [List.nil_append, allsV, allsV]; split <;> simp_all
  | cons y a ih =>
    rw [allsV] at h0
    rw [List.cons_append, allsV]
    by_cases hy : allV y = 0
    · rw [if_pos hy] at h0 ⊢; exact ih h0
    · rw [if_neg hy] at h0; exact absurd h0 hy
theorem allsV_pre {a b : List Val} (h3 : allsV a ≠ 0) : allsV (a ++ b) = allsV a := by
  induction a with
  | nil => rw [allsV] at h3; exact absurd rfl h3
  | cons y a ih =>
    rw [allsV] at h3
    rw [List.cons_append, allsV, allsV]
    by_cases hy : allV y = 0
    · rw [if_pos hy] at h3
      rw [if_pos hy, if_pos hy]; exact ih h3
    · rw [if_neg hy, if_neg hy]
theorem allsV_first {l : List Val} {j : Nat} (h : j < l.length) (h0 : allsV (l.take j) = 0) (h1 : allV l[j] ≠ 0) : allsV l = allV l[j] := by
  have h2 := allsV_take h h0
  have h3 := allsV_pre (a := l.take (j + 1)) (b := l.drop (j + 1)) (by omega)
  rw [List.take_append_drop] at h3
  omega

set_option maxHeartbeats 2000000 in
theorem all_any (x : Val) : ∀ (v : Value) (P : Nat → Prop) (w : World), VAt w P v x →
    Calls Tryd.prog 42 #[v] w fun e w' => e = .returned (intV (allV x)) ∧ Below w.heap.size w w' := by
  refine Val.ind (P := fun x => ∀ (v : Value) (P : Nat → Prop) (w : World), VAt w P v x →
    Calls Tryd.prog 42 #[v] w fun e w' => e = .returned (intV (allV x)) ∧ Below w.heap.size w w') ?_ x
  intro k nn t l ih v P w hv
  obtain ⟨h1, h2, h3, h4, a, c, rfl, hs⟩ := vat_of hv
  obtain ⟨r, hr⟩ : ∃ r, allV (.mk k nn t l) = r := ⟨_, rfl⟩
  rw [hr]
  obtain ⟨s1, hs1⟩ : ∃ s1, single k nn t l.length = s1 := ⟨_, rfl⟩
  rw [allV, hs1] at hr
  have HR := Lib.hid (show (s1 = 0 → allsV l = r) ∧ (s1 ≠ 0 → s1 = r) from ⟨fun h => by rw [if_pos h] at hr; exact hr, fun h => by rw [if_neg h] at hr; exact hr⟩)
  have IH := Lib.hid ih
  have HC := Lib.hid (fun w => single_at k nn t a l.length c h4 h3 s1 hs1 w)
  have HS := Lib.hid (hs.below (below_box0 w (.cells #[intV k, intV nn, .string t, .slice a l.length c] 24)))
  clear hr ih hs hv hs1
  by_cases hs0 : s1 = 0
  · subst hs0
    have HR2 := Lib.hid (HR.out.1 rfl)
    clear HR
    go_enter Tryd.func42, Tryd.ntmps42
    go_wp2_with fail
    refine (HC.out _).mono ?_
    rintro e w1 ⟨rfl, hb1⟩
    rw [World.size_alloc] at hb1
    have HB1 := Lib.hid hb1
    clear hb1
    go_wp2_with fail
    go_loopw [4] (fun i wr => ∃ j : Nat, j ≤ l.length ∧ i = .int .i64 j ∧ allsV (l.take j) = 0 ∧ Below (w.heap.size + 1) (w.alloc (.cells #[intV k, intV nn, .string t, .slice a l.length c] 24)) wr) (fun i _ => l.length - (intOf i).toNat)
    case atStart => exact ⟨0, Nat.zero_le _, rfl, by simp [allsV], HB1.out⟩
    case round =>
      obtain ⟨j, hj, rfl, h0, hB⟩ := hrel
      obtain ⟨wk, rfl⟩ : ∃ x, x = wr := ⟨_, rfl⟩
      obtain ⟨b0, b1, b2, b3⟩ := box4 hB
      have HB := Lib.hid hB
      have H0 := Lib.hid h0
      clear h0
      by_cases hlt : j < l.length
      · obtain ⟨b, off, s, rfl, _, hb, q0, q1, q2, q3, hx⟩ := ((HS.out).below (by rw [World.size_alloc]; exact hB)).elem hlt
        obtain ⟨r1, hr1⟩ : ∃ r1, allV l[j] = r1 := ⟨_, rfl⟩
        have hrec := IH.out l[j] (List.getElem_mem hlt) _ P wk hx
        rw [hr1] at hrec
        have HREC := Lib.hid hrec
        have HR1 := Lib.hid hr1
        clear hB hx HS hrec hr1
        go_wp2_with fail
        refine HREC.out.mono ?_
        rintro e w2 ⟨rfl, h2⟩
        have HB2 := Lib.hid (HB.out.trans (h2.mono (by have := HB.out.size; simpa using this)))
        clear h2 b0 b1 b2 b3 q0 q1 q2 q3 HREC
        by_cases hz : r1 = 0
        · subst hz
          go_wp2_with fail
          refine ⟨⟨j + 1, by omega, by go_num, by rw [allsV_take hlt H0.out]; exact HR1.out, HB2.out⟩, ?_⟩
          simp [intOf]; omega
        · go_wp2_with fail
          go_ret
          refine ⟨ret_int ?_, below_seq (below_box0 w _) HB2.out (by omega)⟩
          rw [← HR2.out, allsV_first hlt H0.out (by rw [HR1.out]; exact hz), HR1.out]
      · clear HS hB
        go_wp2_with fail
        go_ret
        refine ⟨ret_int ?_, below_seq (below_box0 w _) HB.out (by omega)⟩
        obtain rfl : j = l.length := by omega
        rw [← HR2.out, ← H0.out, List.take_length]
  · go_enter Tryd.func42, Tryd.ntmps42
    go_wp2_with fail
    refine (HC.out _).mono ?_
    rintro e w1 ⟨rfl, hb1⟩
    rw [World.size_alloc] at hb1
    have HB1 := Lib.hid hb1
    clear hb1
    go_wp2_with fail
    go_ret
    exact ⟨ret_int (HR.out.2 hs0), below_seq (below_box0 w _) HB1.out (by omega)⟩

theorem all_at (x : Val) (r : Int) (hr : allV x = r) (v : Value) (P : Nat → Prop) (w : World) (hv : VAt w P v x) :
    Calls Tryd.prog 42 #[v] w fun e w' => e = .returned (intV r) ∧ Below w.heap.size w w' := by subst hr; exact all_any x v P w hv
theorem measure_at (x : Val) (n most : Nat) (a : Int) (g : Bool) (hr : measR x n = (a, g)) (v : Value) (P : Nat → Prop) (w : World) (hv : VAt w P v x) (hn : n ≤ 1000) (ht : tot x ≤ most) (hm : most ≤ 65536) :
    Calls Tryd.prog 41 #[v, intV n, intV most] w fun e w' => e = .returned (.tuple #[intV a, .bool g]) ∧ Below w.heap.size w w' := by
  have := measure_any x v P w n most hv hn ht hm
  rwa [hr] at this
set_option maxHeartbeats 1000000 in
theorem refCheck_any (x : Val) (v : Value) (P : Nat → Prop) (w : World) (hv : VAt w P v x) (ht : tot x ≤ 65536) :
    Calls Tryd.prog 17 #[v] w fun e w' => e = .returned (intV (chk x)) ∧ Below w.heap.size w w' := by
  obtain ⟨k, nn, t, l⟩ := x
  obtain ⟨h1, h2, h3, h4, a, c, rfl, hs⟩ := vat_of hv
  obtain ⟨⟨m, g⟩, hmg⟩ : ∃ mg, measR (.mk k nn t l) 64 = mg := ⟨_, rfl⟩
  obtain ⟨r, hr⟩ : ∃ r, allV (.mk k nn t l) = r := ⟨_, rfl⟩
  have HM := Lib.hid (measure_at (.mk k nn t l) 64 65536 m g hmg _ P _ (hv.below (below_box0 w (.cells #[intV k, intV nn, .string t, .slice a l.length c] 24))) (by omega) ht (by omega))
  have HA := Lib.hid (fun w' hb => all_at (.mk k nn t l) r hr _ P w' (hv.below hb))
  have HG := Lib.hid (show (if g = true then 4 else r) = chk (.mk k nn t l) by
    rw [chk, ← hr]
    unfold measR at hmg
    by_cases hd : dep (.mk k nn t l) ≤ 64
    · rw [if_pos hd] at hmg ⊢
      rw [← (Prod.mk.inj hmg).2]; rfl
    · rw [if_neg hd] at hmg ⊢
      rw [← (Prod.mk.inj hmg).2]; rfl)
  clear hmg hr hv hs ht
  go_enter Tryd.func17, Tryd.ntmps17
  go_wp2_with fail
  refine HM.out.mono ?_
  rintro e w1 ⟨rfl, hb1⟩
  rw [World.size_alloc] at hb1
  obtain ⟨b0, b1, b2, b3⟩ := box4 hb1
  have HB1 := Lib.hid hb1
  clear hb1 HM
  cases g
  · go_wp2_with fail
    refine (HA.out w1 (below_seq (below_box0 w _) HB1.out (by omega))).mono ?_
    rintro e w2 ⟨rfl, hb2⟩
    go_wp2_with fail
    go_ret
    exact ⟨ret_int HG.out, below_then (below_seq (below_box0 w _) HB1.out (by omega)) hb2⟩
  · go_wp2_with fail
    go_ret
    exact ⟨ret_int HG.out, below_seq (below_box0 w _) HB1.out (by omega)⟩
end Go.Proofs.YtjcigjggfmfoeaaDoor
