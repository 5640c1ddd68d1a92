/- The reference's follows and Runs. -/
import Derived.Test.YteceahbnafaeoaaSpCoverW
import Derived.Test.YteceahbnafaeoaaSpIsSub
import Derived.Test.YteceahbnafaeoaaSqRunsM
import Derived.RangeFuncBox
namespace Go.Proofs.Yteceahbnafaeoaa
set_option linter.unusedSimpArgs false
set_option linter.unusedVariables false
set_option maxRecDepth 100000
open Go.RowKit Go.Deep

theorem follows_any (x y : Int) (hx : -9223372036854775808 ≤ x ∧ x ≤ 9223372036854775807) (hy : -9223372036854775808 ≤ y ∧ y ≤ 9223372036854775807) (b : Bool) (hb : fol x y = b) (w : World) :
    Calls Try.prog 53 #[intV x, intV y] w fun e w' => e = .returned (.bool b) ∧ w' = w := by
  unfold fol at hb
  by_cases h0 : x < y
  · have hw : IntKind.i64.wrap (y - 1) = y - 1 := IntWalk.i64_in _ (by omega)
    have e : (y - 1 == x) = b := by
      rw [← hb, Bool.eq_iff_iff, beq_iff_eq, decide_eq_true_eq]; omega
    clear hb
    go_enter Try.func53, Try.ntmps53
    go_wp2
    go_ret
    exact ⟨by first | rfl | rw [e] | simp [e], rfl⟩
  · have t0 : decide (x < y) = false := decide_eq_false h0
    have hb2 : b = false := by rw [← hb, decide_eq_false]; omega
    subst hb2
    clear hb
    go_enter Try.func53, Try.ntmps53
    go_wp2
    go_ret
    exact ⟨rfl, rfl⟩
/-- an element of a list anew -/
theorem Piles.put {W : World} {B g cap k : Nat} {v s : Value} {sl : List Value} {L : List (List Int)} {l : List Int} (h : Piles W B v sl L) (hk : sl[k]? = some s) (hL : L[k]? = some l) (hs : s = .slice (some ⟨g, 0, none⟩) l.length cap) (j : Nat) (x : Int) :
    Piles (W.setCell ⟨g, j, none⟩ (intV x)) B v sl (L.set k (l.set j x)) := by
  have hr := h.row k s l hk hL
  subst hs
  have hkL : k < L.length := (List.getElem?_eq_some_iff.1 hL).1
  refine ⟨?_, fun i u m h1 h2 => ?_, h.ne⟩
  · rw [List.length_set]
    refine own_keepP h.own fun b hb => Below.heap_setCell W ⟨g, j, none⟩ _ b (fun e => ?_)
    rcases rows_apartP hr h.own int_ne_ints with h3 | h3
    · cases h3
    · exact h3 (by rw [hb]; exact congrArg some e.symm)
  · by_cases e : i = k
    · subst e
      rw [List.getElem?_set_self hkL] at h2
      obtain rfl := Option.some.inj h2
      rw [hk] at h1
      obtain rfl := Option.some.inj h1
      have := (hr.stored j (intV x)).1
      rw [List.length_set, List.map_set]
      exact this
    · rw [List.getElem?_set_ne (fun h => e h.symm)] at h2
      have hri := h.row i u m h1 h2
      exact own_keepP hri fun b hb => Below.heap_setCell W ⟨g, j, none⟩ _ b (fun e2 => e (h.ne i k u _ b h1 hk hb (congrArg some e2.symm)))
set_option maxHeartbeats 4000000 in
theorem refRuns_any (l : List Int) (hl12 : l.length ≤ 12 ∨ 1024 < l.length) (hlm : l.length ≤ 1000000) (hr : R64 l) (v : Value) (w : World) (hv : IntsAt w v l) : Calls Try.prog 20 #[v] w (ListsPost (runsE l) w) := by
  have HLI := Lib.hid hv
  obtain ⟨a, cap, rfl⟩ := hv.slice
  by_cases h1 : 1024 < l.length
  · have t1 : decide ((1024 : Int) < (l.length : Int)) = true := decide_eq_true (by omega)
    have e : runsE l = ([], 4) := by unfold runsE; rw [if_pos h1]
    rw [e]
    clear hv e
    go_enter Try.func20, Try.ntmps20
    go_wp2
    go_ret2
    exact ⟨_, rfl, ⟨none, 0, rfl, fun h => absurd h (by simp)⟩, Below.refl _ _⟩
  · have t1 : decide ((1024 : Int) < (l.length : Int)) = false := decide_eq_false (by omega)
    have hl : l.length ≤ 12 := by omega
    have HE := Lib.hid (show runsE l = (runsR l, 0) by unfold runsE; rw [if_neg h1])
    have HR64 := Lib.hid hr
    have FW := Lib.hid (fun x y hx hy b hb W => follows_any x y hx hy b hb W)
    have HGO := Lib.hid (fun f e h hf => rn_go l f e h hf)
    have HSTOP := Lib.hid (fun f e h hf => rn_stop l f e h hf)
    have HRF := Lib.hid (rf_at l)
    have HRE := Lib.hid (fun f => rn_end l f)
    have HR0 := Lib.hid (runs_rf l)
    have HREE := Lib.hid (rf_end l)
    obtain ⟨R, hRR⟩ : ∃ R, runsR l = R := ⟨_, rfl⟩
    rw [hRR] at HE HR0
    obtain ⟨r0, hri, hy0, hy1, hy2⟩ := info_parts info_rows
    obtain ⟨wA, rfl⟩ : ∃ x, x = w := ⟨_, rfl⟩
    have HE0 := Lib.hid (World.ownsRow_lit (base := wA.heap.size) (e := 22) (size := 1) wA #[] 0 (Nat.le_refl _) (Nat.zero_le _) rfl)
    have HB0 := Lib.hid (below_allocP wA (.cells #[] 22))
    clear hv h1 hl12 hlm hr hRR
    go_enter Try.func20, Try.ntmps20
    go_wp2
    obtain ⟨B, hBB⟩ : ∃ B, wA.heap.size = B := ⟨_, rfl⟩
    rw [hBB] at HE0 HB0 ⊢
    have HBB := Lib.hid hBB
    clear hBB
    go_loopw [4, 5] (fun cv iv wr => ∃ (n : Nat) (L : List (List Int)) (sl : List Value), n ≤ l.length ∧ iv = .int .i64 n ∧ Piles wr B cv sl L ∧ Below B wA wr ∧ L.length ≤ n ∧
      ((n = 0 ∧ L = []) ∨ (0 < n ∧ ∃ (pre : List (List Int)) (f : Nat), f < n ∧ L = pre ++ [[(f : Int), (n : Int) - f]] ∧ pre ++ rn n f (ix l (n - 1)) (l.drop n) = R))) (fun _ iv _ => l.length - (intOf iv).toNat)
    case atStart => exact ⟨0, [], [], Nat.zero_le _, rfl, Piles.of_empty HE0.out, HB0.out, Nat.le_refl _, .inl ⟨rfl, rfl⟩⟩
    case round =>
      obtain ⟨n, L, sl, hn, rfl, hP, hB, hLn, hst⟩ := hrel
      obtain ⟨wk, rfl⟩ : ∃ x, x = wr := ⟨_, rfl⟩
      have HP := Lib.hid hP
      have HB := Lib.hid hB
      have HST := Lib.hid hst
      obtain ⟨av, cv, rfl⟩ := hP.slice
      by_cases hlt : n < l.length
      · have HBk := Lib.hid (show Below wA.heap.size wA wk by rw [HBB.out]; exact hB)
        have hbn : B ≤ wk.heap.size := by have := hB.size; have := HBB.out; omega
        have HPD := Lib.hid (fun j => HP.out.below (below_drewN wk j))
        have HBD := Lib.hid (fun j => hB.trans (below_drewN_n B wk j))
        have hLb : L.length ≤ 12 := by omega
        have n0 : (0 : Int) ≤ (n : Int) := by omega
        have n1 : (n : Int) < (l.length : Int) := by omega
        clear hP hB hst
        by_cases hn0 : n = 0
        · have hL0 : L = [] := by
            rcases HST.out with ⟨_, h⟩ | ⟨h, _⟩
            · exact h
            · omega
          have HNW := Lib.hid (show ([] : List (List Int)) ++ rn (n + 1) n (ix l (n + 1 - 1)) (l.drop (n + 1)) = R from by
            rw [List.nil_append, Nat.add_sub_cancel, ← HRF.out n hlt, hn0]; exact HR0.out.symm)
          have t2 : decide ((0 : Int) < (n : Int)) = false := decide_eq_false (by omega)
          have t2' : decide (0 < n) = false := decide_eq_false (by omega)
          have HL0 := Lib.hid hL0
          clear hL0 hn0
          go_wp2_with fail
          go_quiet (fail)
          clear t2 t2'
          obtain ⟨wx, hwx⟩ : ∃ x, wk.drewN nq = x := ⟨_, rfl⟩
          have HPX := Lib.hid (HPD.out nq)
          have HBX := Lib.hid (HBD.out nq)
          have hbx : B ≤ wx.heap.size := by rw [← hwx]; exact hbn
          rw [hwx] at HPX HBX ⊢
          clear hwx
          have HOWN := Lib.hid HPX.out.own
          have HNN := Lib.hid (show (1 : Int) = ((n + 1 : Nat) : Int) - (n : Int) by omega)
          go_wp2_with (first | (at_builtin; refine wpList_append_lies _ rfl _ _ 28 rfl B 22 r0 (.slice none 0 0) 1 24 Try.underlying28 hri hy0 hy1 hy2 rfl (by decide) _ _ _ rfl ((HOWN.out.alloc _).alloc _) ⟨wx.heap.size + 1, 0, none⟩ 1 1 [.slice (some ⟨wx.heap.size, 0, none⟩) 2 2] rfl rfl (news_at _ _ _ _ (by simp)) (by simp [Value.oneCell']) (by decide) (by unfold maxLen; omega) (by omega) (by simp; omega) (wx.heap.size + 2) (by simp) ?_; intro g5 cap5 w5 ho5 hg5 hk5 hl5; have HP5 := Lib.hid (Piles.add (l := [(n : Int), 1]) (b := wx.heap.size) HPX.out ((below_allocP wx _).alloc (by simp) _) ((World.ownsRow_lit (base := B) (e := 3) (size := 1) wx #[intV n, intV 1] 2 hbx (by unfold maxLen; omega) rfl).alloc _) rfl (Nat.le_refl _) hg5 ho5); have HB5 := Lib.hid (((HBX.out.alloc hbx _).alloc (by simp; omega) _).grown hg5 (by simp; omega) (fun q hq => (HOWN.out.lt q hq).1)); clear ho5 hg5 hk5 hl5))
          go_roundw
          case rel => exact ⟨n + 1, _, _, by omega, by go_num, HP5.out, HB5.out, by rw [List.length_append, List.length_singleton]; omega, .inr ⟨by omega, L, n, by omega, by rw [← HNN.out], (by rw [HL0.out]; exact HNW.out)⟩⟩
          case measure => simp [intOf]; omega
        · obtain ⟨p, hp⟩ : ∃ p, n = p + 1 := ⟨n - 1, by omega⟩
          have hpl : p < l.length := by omega
          obtain ⟨b, off, rfl, hbb, c0⟩ := HLI.out.elem hlt
          obtain ⟨b1, o1, e1, hb1, cp⟩ := HLI.out.elem hpl
          cases e1
          have c1 := (HBk.out.cell (p := ⟨b, off + n, none⟩) hbb).trans c0
          have c2 := (HBk.out.cell (p := ⟨b, off + p, none⟩) hb1).trans cp
          have hx := HR64.out l[p] (List.getElem_mem hpl)
          have hy := HR64.out l[n] (List.getElem_mem hlt)
          have ex : ix l (n - 1) = l[p] := by rw [hp, Nat.add_sub_cancel, ix_get l p hpl]
          have ey : ix l n = l[n] := ix_get l n hlt
          obtain ⟨r, hrr⟩ : ∃ r, fol (ix l (n - 1)) (ix l n) = r := ⟨_, rfl⟩
          have HRR := Lib.hid hrr
          rw [ex, ey] at hrr
          obtain ⟨x, hxx⟩ : ∃ x, l[p] = x := ⟨_, rfl⟩
          obtain ⟨y, hyy⟩ : ∃ y, l[n] = y := ⟨_, rfl⟩
          rw [hxx] at c2 hx hrr
          rw [hyy] at c1 hy hrr
          have FWC := Lib.hid (FW.out x y hx hy r hrr)
          have hwp : IntKind.i64.wrap ((n : Int) - 1) = (p : Int) := by rw [show (n : Int) - 1 = (p : Int) by omega]; exact IntWalk.i64_in _ (by omega)
          have p0 : (0 : Int) ≤ (p : Int) := by omega
          have p1 : (p : Int) < (l.length : Int) := by omega
          have hnp : 0 < n := by omega
          have HST2 := Lib.hid (show ∃ (pre : List (List Int)) (f : Nat), f < n ∧ L = pre ++ [[(f : Int), (n : Int) - f]] ∧ pre ++ rn n f (ix l (n - 1)) (l.drop n) = R from by
            rcases HST.out with ⟨h, _⟩ | ⟨_, h⟩
            · omega
            · exact h)
          clear c0 cp hbb hb1 hx hy ex ey hxx hyy hrr hp hn0
          cases r with
          | true =>
            obtain ⟨pre, f, hf, hLL, hrn⟩ := HST2.out
            have HNW := Lib.hid (show pre ++ rn (n + 1) f (ix l (n + 1 - 1)) (l.drop (n + 1)) = R from by rw [Nat.add_sub_cancel, ← HGO.out f n hlt HRR.out]; exact hrn)
            obtain ⟨k, hk⟩ : ∃ k, L.length = k + 1 := ⟨pre.length, by rw [hLL]; simp⟩
            have hkk : pre.length = k := by rw [hLL] at hk; simpa using hk
            have HLK := Lib.hid (show L[k]? = some [(f : Int), (n : Int) - f] by rw [hLL, ← hkk]; simp)
            have HLS := Lib.hid (show L.set k [(f : Int), (n : Int) - f + 1] = pre ++ [[(f : Int), ((n + 1 : Nat) : Int) - f]] by rw [hLL, ← hkk]; simp; omega)
            have hwk : IntKind.i64.wrap (((L.length : Nat) : Int) - 1) = (k : Int) := by rw [show ((L.length : Nat) : Int) - 1 = (k : Int) by omega]; exact IntWalk.i64_in _ (by omega)
            have hkl : k < L.length := by omega
            have hwv : IntKind.i64.wrap (((n : Int) - (f : Int)) + 1) = (n : Int) - (f : Int) + 1 := IntWalk.i64_in _ (by omega)
            have k0 : (0 : Int) ≤ (k : Int) := by omega
            have k1 : (k : Int) < (L.length : Int) := by omega
            have HF := Lib.hid hf
            clear hrn hLL hkk hf
            go_wp2_with fail
            go_quiet (first | exact quiet_idP (FWC.out _))
            clear c1 c2 hwp p0 p1
            obtain ⟨wx, hwx⟩ : ∃ x, wk.drewN nq = x := ⟨_, rfl⟩
            have HPX := Lib.hid (HPD.out nq)
            have HBX := Lib.hid (HBD.out nq)
            rw [hwx] at HPX HBX ⊢
            clear hwx
            obtain ⟨g, cp, s, heq, hs, hc, hfz, hrw⟩ := HPX.out.get hkl
            cases heq
            have hlk : L[k] = [(f : Int), (n : Int) - f] := by have := HLK.out; rw [List.getElem?_eq_getElem hkl] at this; exact Option.some.inj this
            rw [hlk] at hrw
            obtain ⟨gs, cs, rfl⟩ := ownsRow_succ (k := 1) hrw
            have hcell := hrw.cellAt 1 (by simp)
            have hfr := hrw.frozenAt 1
            have hcell : wx.cell? ⟨gs, 1, none⟩ = some (.int .i64 ((n : Int) - f)) := hcell
            have HGS := Lib.hid (hrw.lt gs rfl)
            have HPU := Lib.hid (HPX.out.put hs HLK.out rfl 1 ((n : Int) - f + 1))
            have HBU := Lib.hid (HBX.out.setCell (p := ⟨gs, 1, none⟩) HGS.out.1 (intV ((n : Int) - f + 1)))
            clear hs hrw hlk hfz
            go_wp2
            go_roundw
            case rel => exact ⟨n + 1, _, sl, by omega, by go_num, HPU.out, HBU.out, by rw [List.length_set]; omega, .inr ⟨by omega, pre, f, by have := HF.out; omega, HLS.out, HNW.out⟩⟩
            case measure => simp [intOf]; omega
          | false =>
            have HNW := Lib.hid (show L ++ rn (n + 1) n (ix l (n + 1 - 1)) (l.drop (n + 1)) = R from by
              obtain ⟨pre, f, hf, hLL, hrn⟩ := HST2.out
              rw [Nat.add_sub_cancel, ← HRF.out n hlt, hLL, ← hrn, HSTOP.out f n hlt HRR.out]; simp)
            go_wp2_with fail
            go_quiet (first | exact quiet_idP (FWC.out _))
            clear c1 c2 hwp p0 p1
            obtain ⟨wx, hwx⟩ : ∃ x, wk.drewN nq = x := ⟨_, rfl⟩
            have HPX := Lib.hid (HPD.out nq)
            have HBX := Lib.hid (HBD.out nq)
            have hbx : B ≤ wx.heap.size := by rw [← hwx]; exact hbn
            rw [hwx] at HPX HBX ⊢
            clear hwx
            have HOWN := Lib.hid HPX.out.own
            have HNN := Lib.hid (show (1 : Int) = ((n + 1 : Nat) : Int) - (n : Int) by omega)
            go_wp2_with (first | (at_builtin; refine wpList_append_lies _ rfl _ _ 28 rfl B 22 r0 (.slice none 0 0) 1 24 Try.underlying28 hri hy0 hy1 hy2 rfl (by decide) _ _ _ rfl ((HOWN.out.alloc _).alloc _) ⟨wx.heap.size + 1, 0, none⟩ 1 1 [.slice (some ⟨wx.heap.size, 0, none⟩) 2 2] rfl rfl (news_at _ _ _ _ (by simp)) (by simp [Value.oneCell']) (by decide) (by unfold maxLen; omega) (by omega) (by simp; omega) (wx.heap.size + 2) (by simp) ?_; intro g5 cap5 w5 ho5 hg5 hk5 hl5; have HP5 := Lib.hid (Piles.add (l := [(n : Int), 1]) (b := wx.heap.size) HPX.out ((below_allocP wx _).alloc (by simp) _) ((World.ownsRow_lit (base := B) (e := 3) (size := 1) wx #[intV n, intV 1] 2 hbx (by unfold maxLen; omega) rfl).alloc _) rfl (Nat.le_refl _) hg5 ho5); have HB5 := Lib.hid (((HBX.out.alloc hbx _).alloc (by simp; omega) _).grown hg5 (by simp; omega) (fun q hq => (HOWN.out.lt q hq).1)); clear ho5 hg5 hk5 hl5))
            go_roundw
            case rel => exact ⟨n + 1, _, _, by omega, by go_num, HP5.out, HB5.out, by rw [List.length_append, List.length_singleton]; omega, .inr ⟨by omega, L, n, by omega, by rw [← HNN.out], HNW.out⟩⟩
            case measure => simp [intOf]; omega
      · obtain rfl : n = l.length := by omega
        have HFIN := Lib.hid (show L = R from by
          rcases hst with ⟨h0, rfl⟩ | ⟨h0, pre, f, hf, hLL, hrn⟩
          · have := HREE.out
            rw [h0] at this
            rw [HR0.out]; exact this.symm
          · rw [← hrn, HRE.out f, HREE.out, hLL])
        clear hP hB hst
        go_wp2
        go_ret2
        rw [HE.out]
        exact ⟨_, rfl, by rw [← HFIN.out]; exact HP.out.lists, by rw [← HBB.out] at HB; exact HB.out⟩
end Go.Proofs.Yteceahbnafaeoaa
