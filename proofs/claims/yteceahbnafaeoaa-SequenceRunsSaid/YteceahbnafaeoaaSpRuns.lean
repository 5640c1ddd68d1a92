/- The iterator over the runs. -/
import Derived.Sort.QuietIn
import Derived.Test.YteceahbnafaeoaaSpSub
import Derived.Test.YteceahbnafaeoaaSqRunsM
namespace Go.Proofs.Yteceahbnafaeoaa
set_option linter.unusedSimpArgs false
set_option linter.unusedVariables false
set_option maxRecDepth 100000
open Go.RowKit Go.Shelf Go.Deep
attribute [local go_sem] Oper.semAt_some wide_fn

abbrev encR (x : List Int) : Array Value := #[intV (x.getD 0 0), intV (x.getD 1 0)]
theorem runsV_any (a : Option Addr) (n cap : Nat) (w : World) :
    Calls Try.prog 52 #[.slice a n cap] w fun e w' => e = .returned (.func (.func 70) #[] #[.pointer (some ⟨w.heap.size, 0, none⟩)]) ∧ w' = w.alloc (.cells #[.slice a n cap] 22) := by
  go_enter Try.func52, Try.ntmps52
  go_wp2
  go_ret
  exact ⟨rfl, rfl⟩
theorem quietIn_id {P : Program} {f : FuncId} {args : Array Value} {w : World} {n k : Nat} {v : Value}
    (h : Calls P f args (w.drewN n) fun e w' => e = .returned v ∧ w' = w.drewN n) : CallsIn Fence.wide k P f args (w.drewN n) fun e w'' => e = .returned v ∧ ∃ m, w'' = w.drewN m :=
  callsIn_wide.2 (h.mono fun _ _ ⟨he, hm⟩ => ⟨he, n, hm⟩)
/-- what a body keeps: what lies below n0, and the block of the iterator's list -/
structure KpR (n0 R : Nat) (v : Value) (A B : World) : Prop where
  below : Below n0 A B
  box : A.heap[R]? = some (.cells #[v] 22) → B.heap[R]? = some (.cells #[v] 22)
theorem KpR.trans {n0 R : Nat} {v : Value} {A B C : World} (h : KpR n0 R v A B) (k : KpR n0 R v B C) : KpR n0 R v A C := ⟨h.below.trans k.below, fun x => k.box (h.box x)⟩
theorem KpR.putObj {n0 R : Nat} {v : Value} {w : World} (hn : n0 ≤ w.heap.size) (hR : R < w.heap.size) (W : World) (l : Nat) (o o' : Obj) (hl : w.heap.size ≤ l) (h : W.heap[l]? = some o) (h1 : o.isCells = false) (h2 : o.isWalk = false) : KpR n0 R v W (W.putObj l o') :=
  ⟨belowK_b hn W l o o' hl h h1 h2, fun x => (World.putObj_heap_other (by omega)).trans x⟩
theorem cell_of_blkR {W : World} {b : Nat} {v : Value} {t : TypeId} (h : W.heap[b]? = some (.cells #[v] t)) : W.cell? ⟨b, 0, none⟩ = some v := by simp only [World.cell?, h]; rfl
theorem blk_below {W W' : World} {R : Nat} {x : Obj} (hB : Below W.heap.size W W') (h : W.heap[R]? = some x) : W'.heap[R]? = some x := (hB.block R (Array.getElem?_eq_some_iff.1 h).1).trans h
set_option maxHeartbeats 4000000 in
theorem runs1_in (l : List Int) (hl : l.length ≤ 1024) (hr : R64 l) (a : Option Addr) (cap lp R : Nat) (w : World) (hv : IntsAt w (.slice a l.length cap) l) (J Jx : List (List Int) → World → Prop)
    (hJ : ∀ s W m, J s W → J s (W.drewN m))
    (hY : ∀ pre x W, J pre W → pre.length < (runsR l).length → YieldAt Fence.wide 7 Try.prog lp (encR x) W fun e W' =>
      (e = .returned (.bool true) ∧ J (pre ++ [x]) W' ∧ KpR w.heap.size R (.slice a l.length cap) W W') ∨ (e = .returned (.bool false) ∧ Jx (pre ++ [x]) W'))
    (W : World) (hW : Below w.heap.size w W) (hbx : W.heap[R]? = some (.cells #[.slice a l.length cap] 22)) (h0 : J [] W) :
    CallsIn Fence.wide 8 Try.prog 70 #[.func (.yield lp) #[] #[], .pointer (some ⟨R, 0, none⟩)] W fun e W' => (∃ v, e = .returned v) ∧
      ((∃ ys, ys = runsR l ∧ J ys W') ∨ (∃ pre, pre <+: runsR l ∧ Jx pre W')) := by
  have HV := Lib.hid hv
  have ST := Lib.hid (fun x y hx hy b hb W => step_any x y hx hy b hb W)
  have HR := Lib.hid hr
  have HJ := Lib.hid hJ
  clear hv hr hJ
  refine callsIn_of_wp Try.func70 rfl trivial ?_ rfl
  simp only [Try.ntmps70, List.size_toArray, List.length_cons, List.length_nil, Nat.reduceAdd, Nat.reduceSub, Array.replicate_succ, Array.replicate_zero, List.push_toArray, List.append_toArray, List.nil_append, List.cons_append]
  have HBX := Lib.hid hbx
  clear hbx
  gi_wp2
  gi_loopw [4] (fun v wr => ∃ (pre : List (List Int)) (f : Nat), f ≤ l.length ∧ v = .int .i64 f ∧ pre ++ rf l f = runsR l ∧ J pre wr ∧ Below w.heap.size w wr ∧ wr.heap[R]? = some (.cells #[.slice a l.length cap] 22)) (fun v _ => l.length - (intOf v).toNat)
  case atStart => exact ⟨[], 0, Nat.zero_le _, rfl, (runs_rf l).symm, h0, hW, HBX.out⟩
  case round =>
    obtain ⟨pre, f, hf, rfl, hpr, hJk, hBk, hbx⟩ := hrel
    obtain ⟨wk, rfl⟩ : ∃ x, x = wr := ⟨_, rfl⟩
    have HPR := Lib.hid hpr
    have HB := Lib.hid hBk
    have HJK := Lib.hid hJk
    have HBXk := Lib.hid hbx
    have cR := cell_of_blkR hbx
    by_cases hlt : f < l.length
    · have HRF := Lib.hid (rf_at l f hlt)
      obtain ⟨b, off, rfl, hbb, c0⟩ := HV.out.elem hlt
      have f0 : (0 : Int) ≤ (f : Int) := by omega
      have f1 : (f : Int) < (l.length : Int) := by omega
      clear hpr hJk hBk c0 hbx
      gi_wp2
      gi_loopw [3] (fun v wr => ∃ e : Nat, f < e ∧ e ≤ l.length ∧ v = .int .i64 e ∧ rn e f (ix l (e - 1)) (l.drop e) = rf l f ∧ J pre wr ∧ Below wk.heap.size wk wr) (fun v _ => l.length - (intOf v).toNat)
      case atStart => exact ⟨f + 1, by omega, by omega, by go_num, by rw [HRF.out]; rfl, HJK.out, Below.refl _ _⟩
      case round =>
        obtain ⟨e, hfe, hel, rfl, hrn, hJ2, hB2⟩ := hrel
        obtain ⟨w2, rfl⟩ : ∃ x, x = wr := ⟨_, rfl⟩
        have HRN := Lib.hid hrn
        have HJ2 := Lib.hid hJ2
        have HB2 := Lib.hid hB2
        have HBX2 := Lib.hid (blk_below hB2 HBXk.out)
        have cR2 := cell_of_blkR HBX2.out
        by_cases hlt2 : e < l.length
        · obtain ⟨p, hp⟩ : ∃ p, e = p + 1 := ⟨e - 1, by omega⟩
          have hpl : p < l.length := by omega
          obtain ⟨b1, o1, e1, hb1, c1⟩ := HV.out.elem hpl
          cases e1
          obtain ⟨b2, o2, e2, hb2, c2⟩ := HV.out.elem hlt2
          cases e2
          have d1 := (hB2.cell (p := ⟨b, off + p, none⟩) (Nat.lt_of_lt_of_le hb1 HB.out.size)).trans ((HB.out.cell (p := ⟨b, off + p, none⟩) hb1).trans c1)
          have d2 := (hB2.cell (p := ⟨b, off + e, none⟩) (Nat.lt_of_lt_of_le hb2 HB.out.size)).trans ((HB.out.cell (p := ⟨b, off + e, none⟩) hb2).trans c2)
          have hx := HR.out l[p] (List.getElem_mem hpl)
          have hy := HR.out l[e] (List.getElem_mem hlt2)
          have HGO := Lib.hid (fun h => rn_go l f e hlt2 h)
          have HSTOP := Lib.hid (fun h => rn_stop l f e hlt2 h)
          have ex : ix l (e - 1) = l[p] := by rw [hp, Nat.add_sub_cancel, ix_get l p hpl]
          have ey : ix l e = l[e] := ix_get l e hlt2
          obtain ⟨r, hrr⟩ : ∃ r, fol (ix l (e - 1)) (ix l e) = r := ⟨_, rfl⟩
          have HRR := Lib.hid hrr
          rw [ex, ey] at hrr
          obtain ⟨x, hxx⟩ : ∃ x, l[p] = x := ⟨_, rfl⟩
          obtain ⟨y, hyy⟩ : ∃ y, l[e] = y := ⟨_, rfl⟩
          rw [hxx] at d1 hx hrr
          rw [hyy] at d2 hy hrr
          have STC := Lib.hid (ST.out x y hx hy r hrr)
          have hwp : IntKind.i64.wrap ((e : Int) - 1) = (p : Int) := by rw [show (e : Int) - 1 = (p : Int) by omega]; exact IntWalk.i64_in _ (by omega)
          have p0 : (0 : Int) ≤ (p : Int) := by omega
          have p1 : (p : Int) < (l.length : Int) := by omega
          have e0 : (0 : Int) ≤ (e : Int) := by omega
          have e1 : (e : Int) < (l.length : Int) := by omega
          clear hrn hB2 c1 c2 hb1 hb2 hx hy ex ey hxx hyy hrr hp
          cases r with
          | true =>
            gi_wp2_with fail
            gi_quiet (first | exact quietIn_id (STC.out _))
            clear d1 d2 cR2 cR
            gi_wp2
            go_roundw
            case rel => exact ⟨e + 1, by omega, by omega, by go_num, by rw [Nat.add_sub_cancel, ← HGO.out HRR.out]; exact HRN.out, HJ.out _ _ _ HJ2.out, HB2.out.trans (below_drewN_n _ _ _)⟩
            case measure => simp [intOf]; omega
          | false =>
            gi_wp2_with fail
            gi_quiet (first | exact quietIn_id (STC.out _))
            clear d1 d2 cR2 cR
            have HRS := Lib.hid (HRN.out.symm.trans (HSTOP.out HRR.out))
            have HW2 := Lib.hid (show Below w.heap.size w (w2.drewN nq) from (HB.out.trans (HB2.out.mono HB.out.size)).trans (below_drewN_n _ _ _))
            have HBXW := Lib.hid (show (w2.drewN nq).heap[R]? = _ from HBX2.out)
            have HLE := Lib.hid (show pre.length < (runsR l).length by rw [← HPR.out, HRS.out]; simp)
            have hwe : IntKind.i64.wrap ((e : Int) - (f : Int)) = (e : Int) - (f : Int) := IntWalk.i64_in _ (by omega)
            obtain ⟨fn, tmps, assign, body, hy, hYR⟩ := hY pre [(f : Int), (e : Int) - f] (w2.drewN nq) (HJ.out _ _ nq HJ2.out) HLE.out
            have hy : (Instr.yield lp #[.int .i64 f, .int .i64 ((e : Int) - f)]).run Try.prog (w2.drewN nq) = _ := hy
            obtain ⟨wx, hwx⟩ : ∃ x, w2.drewN nq = x := ⟨_, rfl⟩
            rw [hwx] at hy HW2 hYR HBXW ⊢
            clear hwx
            gi_wp2
            refine hYR.mono ?_
            rintro e' W3 (⟨rfl, hJ3, hk3⟩ | ⟨rfl, hJx3⟩)
            · have HK := Lib.hid (And.intro (HW2.out.trans hk3.below) (hk3.box HBXW.out))
              clear hk3 hy
              gi_wp2
              go_roundw
              case rel => exact ⟨pre ++ [[(f : Int), (e : Int) - f]], e, by omega, rfl, by rw [← HPR.out, HRS.out]; simp, hJ3, HK.out.1, HK.out.2⟩
              case measure => simp [intOf]; omega
            · gi_wp2
              refine bodyPost_ret (results_none rfl _ _ _) rfl ?_
              exact ⟨⟨_, rfl⟩, .inr ⟨_, ⟨rf l e, by rw [← HPR.out, HRS.out]; simp⟩, hJx3⟩⟩
        · have hee : e = l.length := by omega
          have HSTOP := Lib.hid (show rn e f (ix l (e - 1)) (l.drop e) = [(f : Int), (e : Int) - f] :: rf l e by rw [hee]; exact rn_end l f)
          have hge : ¬ (e : Int) < (l.length : Int) := by omega
          clear hrn hB2 hee
          gi_wp2_with fail
          gi_quiet (fail)
          clear cR2 cR
          have HRS := Lib.hid (HRN.out.symm.trans HSTOP.out)
          have HW2 := Lib.hid (show Below w.heap.size w (w2.drewN nq) from (HB.out.trans (HB2.out.mono HB.out.size)).trans (below_drewN_n _ _ _))
          have HBXW := Lib.hid (show (w2.drewN nq).heap[R]? = _ from HBX2.out)
          have HLE := Lib.hid (show pre.length < (runsR l).length by rw [← HPR.out, HRS.out]; simp)
          have hwe : IntKind.i64.wrap ((e : Int) - (f : Int)) = (e : Int) - (f : Int) := IntWalk.i64_in _ (by omega)
          obtain ⟨fn, tmps, assign, body, hy, hYR⟩ := hY pre [(f : Int), (e : Int) - f] (w2.drewN nq) (HJ.out _ _ nq HJ2.out) HLE.out
          have hy : (Instr.yield lp #[.int .i64 f, .int .i64 ((e : Int) - f)]).run Try.prog (w2.drewN nq) = _ := hy
          obtain ⟨wx, hwx⟩ : ∃ x, w2.drewN nq = x := ⟨_, rfl⟩
          rw [hwx] at hy HW2 hYR HBXW ⊢
          clear hwx
          gi_wp2
          refine hYR.mono ?_
          rintro e' W3 (⟨rfl, hJ3, hk3⟩ | ⟨rfl, hJx3⟩)
          · have HK := Lib.hid (And.intro (HW2.out.trans hk3.below) (hk3.box HBXW.out))
            clear hk3 hy
            gi_wp2
            go_roundw
            case rel => exact ⟨pre ++ [[(f : Int), (e : Int) - f]], e, by omega, rfl, by rw [← HPR.out, HRS.out]; simp, hJ3, HK.out.1, HK.out.2⟩
            case measure => simp [intOf]; omega
          · gi_wp2
            refine bodyPost_ret (results_none rfl _ _ _) rfl ?_
            exact ⟨⟨_, rfl⟩, .inr ⟨_, ⟨rf l e, by rw [← HPR.out, HRS.out]; simp⟩, hJx3⟩⟩
    · obtain rfl : f = l.length := by omega
      have e : pre = runsR l := by rw [← hpr, rf_end, List.append_nil]
      clear hpr hBk hbx
      gi_wp2
      go_end0
      exact ⟨⟨_, rfl⟩, .inl ⟨_, e, hJk⟩⟩
theorem runs_stops (l : List Int) (hl : l.length ≤ 1024) (hr : R64 l) (a : Option Addr) (cap R : Nat) (w w0 : World) (hv : IntsAt w (.slice a l.length cap) l) (hB : Below w.heap.size w w0) (hbx : w0.heap[R]? = some (.cells #[.slice a l.length cap] 22)) :
    SeqStopsK Fence.wide 8 Try.prog 70 #[.pointer (some ⟨R, 0, none⟩)] encR (KpR w.heap.size R (.slice a l.length cap)) (fun ys => ys = runsR l) (fun pre => pre <+: runsR l) (runsR l).length w0 := fun lp J Jx W hW hJ _ hY h0 =>
  runs1_in l hl hr a cap lp R w hv J Jx (fun s W m h => hJ s W _ none h (grown_drewN _ _ _) (fun r e => by cases e)) hY W (below_then hB (hW.mono (Nat.le_refl _))) (blk_below hW hbx) h0
end Go.Proofs.Yteceahbnafaeoaa
