/- Runs. -/
import Derived.Test.YteceahbnafaeoaaSpRuns
import Derived.Test.YteceahbnafaeoaaSpCoverW
namespace Go.Proofs.Yteceahbnafaeoaa
set_option linter.unusedSimpArgs false
set_option linter.unusedVariables false
set_option maxRecDepth 100000
open Go.RowKit Go.Shelf Go.Deep
attribute [local go_sem] Oper.semAt_some wide_fn

def norm2 (x : List Int) : List Int := [x.getD 0 0, x.getD 1 0]
theorem norm_rn : ∀ (t : List Int) (i a : Nat) (p : Int), (rn i a p t).map norm2 = rn i a p t
  | [], _, _, _ => rfl
  | y :: t, i, a, p => by
    have h1 := norm_rn t (i + 1) a y
    have h2 := norm_rn t (i + 1) i y
    unfold rn
    split
    · exact h1
    · rw [List.map_cons, h2]; rfl
theorem norm_runs (l : List Int) : (runsR l).map norm2 = runsR l := by
  cases l with
  | nil => rfl
  | cons x t => exact norm_rn t 1 0 x
theorem not_row {X : World} {B n : Nat} {e : TypeId} {v : Value} {xs : List Value} {row : Option Nat} (h : X.ownsRow B e 1 v n xs) (hrow : ∀ r, row = some r → ∃ o : Obj, X.heap[r]? = some o ∧ o.isCells = false) : v.ownBlock = none ∨ v.ownBlock ≠ row := by
  rcases h.2 with ⟨rfl, _⟩ | ⟨g, cap, cur, rfl, _, hgb, _⟩
  · exact .inl rfl
  · refine .inr fun e' => ?_
    obtain ⟨o, ho, hc⟩ := hrow g (by simpa [Value.ownBlock] using e'.symm)
    rw [hgb] at ho; cases ho; cases hc
theorem Piles.keptRow {X Y : World} {B : Nat} {v : Value} {sl : List Value} {L : List (List Int)} {row : Option Nat} (h : Piles X B v sl L) (hg : X.grownBy Y row) (hrow : ∀ r, row = some r → ∃ o : Obj, X.heap[r]? = some o ∧ o.isCells = false) : Piles Y B v sl L :=
  ⟨h.own.kept hg (not_row h.own hrow), fun i s l h1 h2 => (h.row i s l h1 h2).kept hg (not_row (h.row i s l h1 h2) hrow), h.ne⟩
theorem Piles.box {W : World} {B R : Nat} {v u x : Value} {sl : List Value} {L : List (List Int)} (h : Piles W B v sl L) (hb : Boxed W R 28 u) : Piles (W.setCell ⟨R, 0, none⟩ x) B v sl L :=
  ⟨own_keepP h.own fun g hg => Below.heap_setCell W ⟨R, 0, none⟩ x g (fun e => hb.not_row (by decide) h.own (by rw [hg]; exact congrArg some e.symm)),
    fun i s l h1 h2 => own_keepP (h.row i s l h1 h2) fun g hg => Below.heap_setCell W ⟨R, 0, none⟩ x g (fun e => hb.not_row (by decide) (h.row i s l h1 h2) (by rw [hg]; exact congrArg some e.symm)), h.ne⟩
theorem pilesBox_own (R n0 : Nat) : Own (fun (pre : List (List Int)) W => ∃ v sl, Boxed W R 28 v ∧ Piles W n0 v sl (pre.map norm2)) := by
  rintro s X Y row ⟨v, sl, hv, hP⟩ hg hrow
  refine ⟨v, sl, hv.kept hg (fun e' => ?_), hP.keptRow hg hrow⟩
  obtain ⟨o, ho, hc⟩ := hrow R e'.symm
  rw [show X.heap[R]? = _ from hv] at ho; cases ho; cases hc
theorem box_append {W w1 : World} {n1 R : Nat} {v : Value} {k : Nat} {xs : List Value} {o1 o2 : Obj} (hv : Boxed W R 28 v) (hrow : W.ownsRow n1 22 1 v k xs) (hg : ((W.alloc o1).alloc o2).grownBy w1 v.ownBlock) : Boxed w1 R 28 v ∧ KeepsOthers W w1 := by
  refine ⟨((hv.alloc o1).alloc o2).kept hg (hv.not_row (by decide) hrow), ((KeepsOthers.alloc W o1).trans (KeepsOthers.alloc _ o2)).trans (KeepsOthers.of_grownBy hg fun j o ej hj => ?_)⟩
  rcases ((hrow.alloc o1).alloc o2).2 with ⟨rfl, _⟩ | ⟨g, cap, cur, rfl, _, hgb, _⟩
  · simp [Value.ownBlock] at ej
  · obtain rfl : g = j := by simpa [Value.ownBlock] using ej
    rw [hgb] at hj; cases hj; rfl
theorem box_other {W w1 : World} {n1 R R1 : Nat} {v u : Value} {k : Nat} {xs : List Value} {o1 o2 x : Obj} (hrow : W.ownsRow n1 22 1 v k xs) (hR : R1 < n1) (hne : R1 ≠ R) (hg : ((W.alloc o1).alloc o2).grownBy w1 v.ownBlock) (h : W.heap[R1]? = some x) : (w1.setCell ⟨R, 0, none⟩ u).heap[R1]? = some x := by
  have hlt : R1 < W.heap.size := (Array.getElem?_eq_some_iff.1 h).1
  rw [Below.heap_setCell w1 ⟨R, 0, none⟩ u R1 hne, hg.block R1 (by rw [nblk_alloc, nblk_alloc]; omega) (fun e => by have := (hrow.lt R1 e.symm).1; omega), blk_alloc_lt _ _ _ (by rw [nblk_alloc]; omega), blk_alloc_lt _ _ _ hlt]
  exact h
set_option maxHeartbeats 4000000 in
theorem runsP_any (l : List Int) (v : Value) (w : World) (hv : IntsAt w v l) (hr : R64 l) : Calls Try.prog 19 #[v] w (ListsPost (runsE l) w) := by
  have HV := Lib.hid hv
  obtain ⟨a, cap, rfl⟩ := hv.slice
  by_cases h1 : 1024 < l.length
  · have TL := Lib.hid (tooLong_any l (.slice a l.length cap) true (decide_eq_true h1) w hv)
    have e : runsE l = ([], 4) := by unfold runsE; rw [if_pos h1]
    rw [e]
    clear hv e
    go_enter Try.func19, Try.ntmps19
    go_wp2_with fail
    refine TL.out.mono ?_
    rintro e w1 ⟨rfl, rfl⟩
    go_wp2
    go_ret2
    exact ⟨_, rfl, ⟨none, 0, rfl, fun h => absurd h (by simp)⟩, Below.refl _ _⟩
  · have hl : l.length ≤ 1024 := by omega
    have TL := Lib.hid (tooLong_any l (.slice a l.length cap) false (decide_eq_false h1) w hv)
    have HE := Lib.hid (show runsE l = (runsR l, 0) by unfold runsE; rw [if_neg h1])
    have HST := Lib.hid (fun R w0 hB hbx => runs_stops l hl hr a cap R w w0 hv hB hbx)
    have HRL := Lib.hid (runs_lenP l)
    obtain ⟨r0, hri, hy0, hy1, hy2⟩ := info_parts info_rows
    clear hv h1 hr
    refine (callsIn_wide (n := 9)).1 ?_
    refine callsIn_of_wp_marks Try.func19 rfl trivial ?_ rfl
    simp only [Try.ntmps19, List.size_toArray, List.length_cons, List.length_nil, Nat.reduceAdd, Nat.reduceSub, Array.replicate_succ, Array.replicate_zero, List.push_toArray, List.append_toArray, List.nil_append, List.cons_append]
    gi_wp2_with fail
    refine (callsIn_wide.2 TL.out).mono ?_
    rintro e w1 ⟨rfl, rfl⟩
    obtain ⟨wA, rfl⟩ : ∃ x, x = w1 := ⟨_, rfl⟩
    gi_wp2_with fail
    have hBx := below_allocP wA (.cells #[.slice none 0 0] 28)
    refine (callsIn_wide.2 (runsV_any a l.length cap _)).mono ?_
    rintro e w2 ⟨rfl, hw2⟩
    have hB2 : Below wA.heap.size wA w2 := by rw [hw2]; exact below_then hBx (below_allocP _ _)
    have HB2 := Lib.hid hB2
    have bO : Boxed w2 wA.heap.size 28 (.slice none 0 0) := by rw [hw2]; exact (Boxed.new wA 28 (.slice none 0 0)).alloc _
    have HBO := Lib.hid bO
    obtain ⟨R1, hR1⟩ : ∃ R1, (wA.alloc (.cells #[.slice none 0 0] 28)).heap.size = R1 := ⟨_, rfl⟩
    have hR1' : R1 = wA.heap.size + 1 := by rw [← hR1, nblk_alloc]
    have hs2 : w2.heap.size = wA.heap.size + 2 := by rw [hw2, nblk_alloc, nblk_alloc]
    have hbx : w2.heap[R1]? = some (.cells #[.slice a l.length cap] 22) := by rw [hw2, ← hR1]; exact blk_alloc_new _ _
    have HSQ := Lib.hid (HST.out R1 w2 hB2 hbx)
    rw [hR1]
    have HS2 := Lib.hid (And.intro hR1' hs2)
    obtain ⟨n0, hn0⟩ : ∃ n0, wA.heap.size = n0 := ⟨_, rfl⟩
    rw [hn0] at HB2 HBO HS2 HSQ ⊢
    have HN0 := Lib.hid hn0
    clear hBx hw2 hB2 bO hR1 hR1' hs2 hbx hn0 HST
    gi_wp2
    refine wpIn_rangeFunc_ownG rfl (by omega) (gf := 70) (lb := #[.pointer (some ⟨R1, 0, none⟩)]) rfl trivial (fun args w => Try.call70 args w)
      HSQ.out (fun h k => h.trans k) (KpR.putObj (by have := HS2.out.2; omega) (by have := HS2.out; omega)) (Below.refl _ _) (fun _ => rfl)
      (fun pre W => (∃ v sl, Boxed W n0 28 v ∧ Piles W (n0 + 2) v sl (pre.map norm2)) ∧ Below n0 wA W ∧ n0 + 2 ≤ W.heap.size)
      (fun _ _ _ => False)
      (OwnFrom.and (Own.from (pilesBox_own n0 (n0 + 2)) _) (OwnFrom.and (ownFrom_below (by rw [HN0.out]; exact Nat.le_refl _) (by have := HS2.out.2; omega)) (fun _ _ _ _ hs hg _ => Nat.le_trans hs hg.size)))
      (fun _ _ _ _ _ hs _ _ => hs)
      ⟨⟨_, _, HBO.out, Piles.nil _ _⟩, HB2.out, Nat.le_of_eq HS2.out.2.symm⟩
      (fun x => { tmps := #[.slice a l.length cap, undef, .slice none 0 0, .int .i64 0, .pointer (some ⟨n0, 0, none⟩), intV (x.getD 0 0), intV (x.getD 1 0), .slice a l.length cap, .bool false, .slice a l.length cap, .func (.func 70) #[] #[.pointer (some ⟨R1, 0, none⟩)], intV (x.getD 0 0), intV (x.getD 1 0), undef, undef, undef, undef, undef, undef, undef], defers := [] }) ?assign ?body ?done ?stop
    case assign =>
      intro lp x W K hK
      gi_wp2
      exact hK
    case body =>
      rintro lp pre x W ⟨⟨v, sl, hv, hP⟩, hB, hbn⟩ hlt
      have hc := hv.cell
      have HP := Lib.hid hP
      have HVB := Lib.hid hv
      have HB := Lib.hid hB
      have hml : (pre.map norm2).length ≤ 1024 := by rw [List.length_map]; have := HRL.out; omega
      obtain ⟨x0, hx0⟩ : ∃ x0, x.getD 0 0 = x0 := ⟨_, rfl⟩
      obtain ⟨x1, hx1⟩ : ∃ x1, x.getD 1 0 = x1 := ⟨_, rfl⟩
      have HNX := Lib.hid (show norm2 x = [x0, x1] by unfold norm2; rw [hx0, hx1])
      rw [hx0, hx1]
      obtain ⟨L, hL⟩ : ∃ L, pre.map norm2 = L := ⟨_, rfl⟩
      have HL2 := Lib.hid (show (pre ++ [x]).map norm2 = L ++ [[x0, x1]] by rw [List.map_append, hL, List.map_singleton, HNX.out])
      rw [hL] at HP hml
      clear hP hB hx0 hx1 hlt hv hL
      gi_wp2_with (gi_at_builtin; refine wpListIn_append_own _ rfl _ _ 28 rfl (n0 + 2) 22 r0 (.slice none 0 0) 1 24 Try.underlying28 hri hy0 hy1 hy2 rfl (by decide) _ _ _ rfl ((HP.out.own.alloc _).alloc _) ⟨W.heap.size + 1, 0, none⟩ 1 1 [.slice (some ⟨W.heap.size, 0, none⟩) 2 2] rfl rfl (news_at _ _ _ _ (by simp)) (by simp [Value.oneCell']) (by unfold maxLen; omega) (by omega) (by simp; omega) ?_; intro v' w1 hown' hgrow _; obtain ⟨g', cap', rfl⟩ := ownsRow_succ hown'; obtain ⟨hv1, hk1⟩ := box_append HVB.out HP.out.own hgrow; have HP5 := Lib.hid (Piles.add (l := [x0, x1]) (b := W.heap.size) HP.out ((below_allocP W _).alloc (by simp) _) ((World.ownsRow_lit (base := n0 + 2) (e := 3) (size := 1) W #[intV x0, intV x1] 2 hbn (by unfold maxLen; omega) rfl).alloc _) rfl (Nat.le_refl _) hgrow hown'); have HBW := Lib.hid ((((Below.refl n0 W).alloc (by omega) _).alloc (by simp; omega) _).grown hgrow (by simp; omega) (fun q hq => by have := (HP.out.own.lt q hq).1; omega)); have HOT := Lib.hid (fun u x h => box_other (R := n0) (R1 := R1) (u := u) (x := x) HP.out.own (by have := HS2.out.1; omega) (by have := HS2.out.1; omega) hgrow h); have HK1 := Lib.hid hk1; have hc1 := hv1.cell; have hf1 := hv1.frozen; have HV1 := Lib.hid hv1; have HSZ := Lib.hid hgrow.size; clear hown' hgrow hk1 hv1 hc)
      have HBW2 := Lib.hid (HBW.out.setCell (p := ⟨n0, 0, none⟩) (Nat.le_refl _) (.slice (some ⟨g', 0, none⟩) (L.length + 1) cap'))
      refine ⟨(HK1.out.trans (KeepsOthers.setCell _ _ _)).from _, ⟨HBW2.out, fun h => HOT.out _ _ h⟩, ⟨_, _, HV1.out.set _, by rw [HL2.out]; exact HP5.out.box HV1.out⟩, HB.out.trans HBW2.out, ?_⟩
      have := HBW2.out.size
      omega
    case done =>
      rintro D ys W hD rfl ⟨⟨v, sl, hv, hP⟩, hB, hbn⟩ hK
      have hc := hv.cell
      rw [norm_runs] at hP
      obtain ⟨va, vc, rfl⟩ := hP.slice
      gi_wp2
      refine ⟨by simp, .inl ⟨_, _, rfl, run_takeDeferred hK, ?_⟩⟩
      rw [HE.out]
      refine ⟨_, results_tmp2 rfl _ _ _, _, rfl, (Piles.lists (hP.keptRow (grownBy_putObj' W D _) (fun r e => by cases e; exact ⟨_, hK, rfl⟩))), ?_⟩
      rw [HN0.out]
      exact hB.trans (belowK_b (w := w2) (by have := HS2.out.2; omega) W D _ _ hD hK rfl rfl)
    case stop =>
      rintro D c pre W _ _ h _
      exact h.elim
end Go.Proofs.Yteceahbnafaeoaa
