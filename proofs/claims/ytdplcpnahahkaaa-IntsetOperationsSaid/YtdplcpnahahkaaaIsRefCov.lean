/- The reference's Less and Covers. -/
import Derived.Test.YtdplcpnahahkaaaIsRefOps
import Derived.Test.YtdplcpnahahkaaaIsCmp
namespace Go.Proofs.Ytdplcpnahahkaaa
set_option linter.unusedSimpArgs false
set_option linter.unusedVariables false
set_option maxRecDepth 100000
open Go.RowKit Go.Deep

set_option maxHeartbeats 1000000 in
theorem less_any (xs ys : List Int) (hlen : xs.length = ys.length) (r : Bool) (hr : lexB xs ys = r) (vx vy : Value) (w : World) (hx : IntsAt w vx xs) (hy : IntsAt w vy ys) (lx : xs.length ≤ 1000000) :
    Calls Try.prog 60 #[vx, vy] w fun e w' => e = .returned (.bool r) ∧ ∃ m, w' = w.drewN m := by
  obtain ⟨ax, cx, rfl, hcx⟩ := hx
  obtain ⟨ay, cy, rfl, hcy⟩ := hy
  have HX := Lib.hid hcx
  have HY := Lib.hid hcy
  obtain ⟨n, hn⟩ : ∃ n, xs.length = n := ⟨_, rfl⟩
  have hn2 : ys.length = n := by omega
  have HN := Lib.hid (And.intro hn hn2)
  have HR := Lib.hid hr
  rw [hn, hn2]
  rw [hn] at lx
  clear hcx hcy hlen hn hn2 hr
  go_enter Try.func60, Try.ntmps60
  go_wp2
  go_loopw [5] (fun i wr => ∃ k m : Nat, k ≤ n ∧ i = .int .i64 k ∧ wr = w.drewN m ∧ lexB (xs.drop k) (ys.drop k) = r) (fun i _ => n - (intOf i).toNat)
  case atStart => exact ⟨0, 0, Nat.zero_le _, rfl, rfl, HR.out⟩
  case round =>
    obtain ⟨k, m, hk, rfl, hwr, he⟩ := hrel
    obtain ⟨wk, rfl⟩ : ∃ x, x = wr := ⟨_, rfl⟩
    have HW := Lib.hid hwr
    by_cases hlt : k < n
    · have hkx : k < xs.length := by rw [HN.out.1]; exact hlt
      have hky : k < ys.length := by rw [HN.out.2]; exact hlt
      obtain ⟨b, off, rfl, hbb, hcs⟩ := HX.out (by omega)
      obtain ⟨b', off', rfl, hbb', hcs'⟩ := HY.out (by omega)
      have hcell : wk.cell? ⟨b, off + k, none⟩ = some (.int .i64 xs[k]) := by rw [hwr]; exact hcs k hkx
      have hcell' : wk.cell? ⟨b', off' + k, none⟩ = some (.int .i64 ys[k]) := by rw [hwr]; exact hcs' k hky
      rw [List.drop_eq_getElem_cons hkx, List.drop_eq_getElem_cons hky, lexB] at he
      obtain ⟨x, hx⟩ : ∃ x, xs[k] = x := ⟨_, rfl⟩
      obtain ⟨y, hy⟩ : ∃ y, ys[k] = y := ⟨_, rfl⟩
      rw [hx] at hcell he
      rw [hy] at hcell' he
      have HE := Lib.hid he
      have hki : (k : Int) < (n : Int) := by omega
      clear hcs hcs' hkx hky hx hy he hwr
      by_cases e : x = y
      · have hq : (x != y) = false := by rw [e]; simp
        have HEQ := Lib.hid e
        clear e
        go_wp2_with fail
        go_quiet (fail)
        go_wp2
        go_roundw
        case rel => exact ⟨k + 1, _, by omega, by go_num, by rw [HW.out, World.drewN_drewN], by have := HE.out; rwa [if_pos HEQ.out] at this⟩
        case measure => simp [intOf]; omega
      · have hq : (x != y) = true := by rw [bne_iff_ne]; exact e
        have HEQ := Lib.hid e
        clear e
        go_wp2_with fail
        go_quiet (fail)
        go_wp2_with fail
        go_quiet (fail)
        go_wp2
        go_ret
        exact ⟨ret_bool (by have := HE.out; rwa [if_neg HEQ.out] at this), _, by rw [HW.out, World.drewN_drewN, World.drewN_drewN]⟩
    · obtain rfl : k = n := by omega
      have h1 : xs.drop k = [] := List.drop_of_length_le (by rw [HN.out.1]; exact Nat.le_refl _)
      rw [h1] at he
      have hr : r = false := by rw [← he]; rfl
      subst hr
      clear he h1 hwr
      go_wp2
      go_ret
      exact ⟨rfl, _, HW.out⟩

/-- the union of the sets at the first k indices -/
def accL (L : List (List Int)) (c : List Nat) (k : Nat) : List Int := sel 64 fun i => (c.take k).any fun j => has (L.getD j []) i
theorem accL_zero (L : List (List Int)) (c : List Nat) : accL L c 0 = [] := by
  rw [accL, List.eq_nil_iff_forall_not_mem]
  intro x hx
  obtain ⟨i, _, h, _⟩ := mem_sel.1 hx
  simp at h
theorem accL_succ {L : List (List Int)} {c : List Nat} {k : Nat} (hk : k < c.length) (he : errL (L.getD c[k] []) = 0) : opR orB (accL L c k) (L.getD c[k] []) = (accL L c (k + 1), 0) := by
  rw [opR, if_neg (by rintro (h | h); exact h (err_sel (Nat.le_refl _) _); exact h he)]
  refine congrArg (fun l => (l, (0 : Int))) (sel_congr fun i hi => ?_)
  rw [List.take_succ_eq_append_getElem hk, List.any_append, accL, has_sel, decide_eq_true hi]
  simp [orB]
theorem mem_acc {L : List (List Int)} {c : List Nat} (hL : ∀ j ∈ c, InR (L.getD j [])) {x : Int} : x ∈ accL L c c.length ↔ ∃ j ∈ c, x ∈ L.getD j [] := by
  rw [accL, List.take_length, mem_sel]
  constructor
  · rintro ⟨i, _, h, rfl⟩
    obtain ⟨j, hj, h2⟩ := List.any_eq_true.1 h
    exact ⟨j, hj, by simpa [has] using h2⟩
  · rintro ⟨j, hj, hx⟩
    have hr := hL j hj x hx
    have e : ((x.toNat : Nat) : Int) = x := by omega
    exact ⟨x.toNat, by omega, List.any_eq_true.2 ⟨j, hj, by rw [has, e]; simpa using hx⟩, e.symm⟩

set_option maxHeartbeats 4000000 in
theorem refCovers_any (T : List Int) (L : List (List Int)) (p : Nat → Bool) (eT : errL T = 0) (eL : ∀ l ∈ L, errL l = 0) (lL : L.length ≤ 1000) (lT : T.length ≤ 1000000) (sL : ∀ l ∈ L, l.length ≤ 1000000)
    (r : Bool) (hr : covB T L (selN L.length p) = r) (vT vL vc : Value) (w : World) (hT : IntsAt w vT T) (hL : ListsAt w vL L) (hv : IntsAt w vc (upL (selN L.length p))) :
    Calls Try.prog 59 #[vT, vL, vc] w fun e w' => e = .returned (.bool r) ∧ Below w.heap.size w w' := by
  have HT := Lib.hid hT
  have HL := Lib.hid hL
  have HEL := Lib.hid eL
  have HSL := Lib.hid sL
  have HR := Lib.hid hr
  obtain ⟨c, hc⟩ : ∃ c, selN L.length p = c := ⟨_, rfl⟩
  have hasc : AscFrom L.length 0 c := by rw [← hc]; exact asc_selN p _
  have hsorted : Sorted (upL c) := by rw [← hc]; exact sel_sorted _ _
  have hcl : c.length ≤ 1000 := by rw [← hc]; exact Nat.le_trans (selN_len _ _) lL
  rw [hc] at HR hv
  have HA := Lib.hid hasc
  have HSO := Lib.hid hsorted
  have hcells : ∃ ac cc, vc = .slice ac c.length cc ∧ (0 < c.length → ∃ b off, ac = some ⟨b, off, none⟩ ∧ b < w.heap.size ∧ ∀ j (h : j < c.length), w.cell? ⟨b, off + j, none⟩ = some (intV ((c[j] : Nat) : Int))) := by
    obtain ⟨ac, cc, rfl, hcc⟩ := hv
    have hul : (upL c).length = c.length := by simp [upL]
    refine ⟨ac, cc, by rw [hul], fun h0 => ?_⟩
    obtain ⟨b, off, h1, h2, h3⟩ := hcc (by omega)
    refine ⟨b, off, h1, h2, fun j hj => ?_⟩
    rw [h3 j (by omega)]
    simp [upL]
  obtain ⟨ac, cc, rfl, hcc⟩ := hcells
  obtain ⟨aT, cT, rfl, _⟩ := hT
  obtain ⟨aL, cL, rfl, _⟩ := hL
  have HCV := Lib.hid hcc
  have HET := Lib.hid eT
  clear hc hasc hsorted hcc eL sL eT hr hv
  go_enter Try.func59, Try.ntmps59
  go_wp2
  go_loopw [7, 8] (fun o i wr => ∃ k : Nat, k ≤ c.length ∧ i = .int .i64 k ∧ IntsAt wr o (accL L c k) ∧ Below w.heap.size w wr ∧ ∀ j ∈ c.take k, ∀ x ∈ L.getD j [], x ∈ T) (fun _ i _ => c.length - (intOf i).toNat)
  case atStart => exact ⟨0, Nat.zero_le _, rfl, by rw [accL_zero]; exact IntsAt.empty _ _ _, alloc_below _ _, by simp⟩
  case round =>
    obtain ⟨k, hk, rfl, hacc, hB, hsub⟩ := hrel
    obtain ⟨wk, rfl⟩ : ∃ x, x = wr := ⟨_, rfl⟩
    have HSUB := Lib.hid hsub
    have HB := Lib.hid hB
    have HACC := Lib.hid hacc
    have hal : (accL L c k).length ≤ 1000000 := sel_le _
    clear hsub
    by_cases hlt : k < c.length
    · obtain ⟨b, off, rfl, hb, hcs⟩ := HCV.out (by omega)
      have hcell : wk.cell? ⟨b, off + k, none⟩ = some (.int .i64 ((c[k] : Nat) : Int)) := (hB.cell (p := ⟨b, off + k, none⟩) hb).trans (hcs k hlt)
      have hprev : 0 < (k : Int) → wk.cell? ⟨b, off + (k - 1), none⟩ = some (.int .i64 ((c[k - 1] : Nat) : Int)) := fun h0 => (hB.cell (p := ⟨b, off + (k - 1), none⟩) hb).trans (hcs (k - 1) (by omega))
      have hlt2 : 0 < k → c[k - 1] < c[k] := fun h0 => by
        have := List.pairwise_iff_getElem.1 HSO.out (k - 1) k (by simp [upL]; omega) (by simp [upL]; omega) (by omega)
        simp [upL] at this
        omega
      have hiL := (asc_lt HA.out _ (List.getElem_mem hlt)).2
      have HTT := Lib.hid (List.take_succ_eq_append_getElem hlt)
      have HMM := Lib.hid (List.getElem_mem hlt)
      have hsucc := fun h => accL_succ (L := L) hlt h
      obtain ⟨pr, hpr⟩ : ∃ q, c[k - 1] = q := ⟨_, rfl⟩
      obtain ⟨i, hii⟩ : ∃ i, c[k] = i := ⟨_, rfl⟩
      rw [hii] at hcell hiL HTT HMM hlt2 hsucc
      rw [hpr] at hprev hlt2
      obtain ⟨bL, oL, u, cu, rfl, hbL, hcellL, hxs⟩ := (HL.out.below hB).elem hiL
      have hmem := List.getElem_mem hiL
      have hlen := HSL.out _ hmem
      have herr := HEL.out _ hmem
      have hget : L.getD i [] = L[i] := by rw [List.getD_eq_getElem?_getD, List.getElem?_eq_getElem hiL]; rfl
      obtain ⟨x, hx⟩ : ∃ x, L[i] = x := ⟨_, rfl⟩
      rw [hx] at hcellL hxs hlen hget herr
      rw [hget] at hsucc
      have HSU := Lib.hid (hsucc herr)
      have HG := Lib.hid hget
      have HX := Lib.hid hxs
      have HTK := Lib.hid (HT.out.below hB)
      have hW : withinR x T = (decide (∀ y ∈ x, y ∈ T), 0) := by rw [withinR, if_neg (by rintro (h | h); exact h herr; exact h HET.out)]
      have HWI := Lib.hid hW
      have hn1 : decide ((i : Int) < 0) = false := by rw [decide_eq_false_iff_not]; omega
      have hn2 : decide ((L.length : Int) ≤ (i : Int)) = false := by rw [decide_eq_false_iff_not]; omega
      have hn3 : decide (L.length ≤ i) = false := by rw [decide_eq_false_iff_not]; omega
      have hiLi : (i : Int) < (L.length : Int) := by omega
      have hki : (k : Int) < (c.length : Int) := by omega
      clear hcs hii hx hget hxs hsucc hW hmem herr hB hacc hpr
      by_cases hk0 : (k : Int) ≤ 0
      · have hk1 : decide ((0 : Int) < (k : Int)) = false := by rw [decide_eq_false_iff_not]; omega
        have hk2 : decide (0 < k) = false := by rw [decide_eq_false_iff_not]; omega
        clear hprev hlt2 hk0
        go_wp2_with fail
        go_quiet (fail)
        obtain ⟨wz, hwz⟩ : ∃ x, wk.drewN nq = x := ⟨_, rfl⟩
        have z1 : wz.cell? ⟨b, off + k, none⟩ = some (.int .i64 (i : Int)) := by rw [← hwz]; exact hcell
        have z2 : wz.cell? ⟨bL, oL + i, none⟩ = some (.slice u x.length cu) := by rw [← hwz]; exact hcellL
        have hBz : Below wk.heap.size wk wz := by rw [← hwz]; exact below_drewN _ _
        have XZ := Lib.hid (HX.out.below hBz)
        have TZ := Lib.hid (HTK.out.below hBz)
        have AZ := Lib.hid (HACC.out.below hBz)
        have BZ := Lib.hid (HB.out.trans (hBz.mono HB.out.size))
        rw [hwz]
        clear hwz hBz hcell hcellL HX HTK HACC HB
        by_cases hall : ∀ y ∈ x, y ∈ T
        · have C := Lib.hid (refWithin_any x T (true, 0) (by rw [HWI.out, decide_eq_true hall]) _ _ wz XZ.out TZ.out hlen lT)
          have HALL := Lib.hid hall
          clear hall
          go_wp2_with fail
          refine C.out.mono ?_
          rintro e w1 ⟨rfl, m, hm⟩
          have y1 : w1.cell? ⟨b, off + k, none⟩ = some (.int .i64 (i : Int)) := by rw [hm]; exact z1
          have y2 : w1.cell? ⟨bL, oL + i, none⟩ = some (.slice u x.length cu) := by rw [hm]; exact z2
          have hB1 : Below wz.heap.size wz w1 := by rw [hm]; exact below_drewN _ _
          have X1 := Lib.hid (XZ.out.below hB1)
          have A1 := Lib.hid (AZ.out.below hB1)
          have B1 := Lib.hid (BZ.out.trans (hB1.mono BZ.out.size))
          clear hm hB1 XZ AZ BZ TZ z1 z2 C
          go_wp2_with fail
          refine (refUnion_any _ _ _ HSU.out _ _ w1 A1.out X1.out hal hlen).mono ?_
          rintro e w2 ⟨vu, rfl, hu, g⟩
          have HU := Lib.hid hu
          have B2 := Lib.hid (B1.out.trans (g.mono B1.out.size))
          obtain ⟨au, cu2, rfl, _⟩ := hu
          clear g X1 A1 B1 y1 y2
          go_wp2
          go_roundw
          case rel =>
            refine ⟨k + 1, by omega, by go_num, HU.out, B2.out, ?_⟩
            rw [HTT.out]
            intro q hq
            rcases List.mem_append.1 hq with h | h
            · exact HSUB.out q h
            · simp at h; rw [h, HG.out]; exact HALL.out
          case measure => simp [intOf]; omega
        · have C := Lib.hid (refWithin_any x T (false, 0) (by rw [HWI.out, decide_eq_false hall]) _ _ wz XZ.out TZ.out hlen lT)
          have HALL := Lib.hid hall
          clear hall
          go_wp2_with fail
          refine C.out.mono ?_
          rintro e w1 ⟨rfl, m, hm⟩
          have B1 := Lib.hid (BZ.out.trans (show Below w.heap.size wz w1 by rw [hm]; exact below_drewN_n _ _ _))
          clear hm XZ AZ BZ TZ z1 z2 C
          go_wp2
          go_ret
          refine ⟨ret_bool ?_, B1.out⟩
          rw [← HR.out, covB, eq_comm, decide_eq_false_iff_not]
          rintro ⟨h, _⟩
          refine HALL.out ?_
          rw [← HG.out]
          exact h i HMM.out
      · have hp2 := hprev (by omega)
        have hlt3 := hlt2 (by omega)
        have hk1 : (k : Int) - 1 = ((k - 1 : Nat) : Int) := by omega
        have hkp : (0 : Int) < k := by omega
        have hkp2 : decide (0 < k) = true := by rw [decide_eq_true_eq]; omega
        have hkl : ((k - 1 : Nat) : Int) < (c.length : Int) := by omega
        have hw1 : IntKind.i64.wrap ((k - 1 : Nat) : Int) = ((k - 1 : Nat) : Int) := IntWalk.i64_in _ (by omega)
        have hcmp : decide ((i : Int) ≤ (pr : Int)) = false := by rw [decide_eq_false_iff_not]; omega
        have hcmp2 : decide (i ≤ pr) = false := by rw [decide_eq_false_iff_not]; omega
        clear hprev hlt2 hk0 hlt3
        go_wp2_with fail
        go_quiet (fail)
        obtain ⟨wz, hwz⟩ : ∃ x, wk.drewN nq = x := ⟨_, rfl⟩
        have z1 : wz.cell? ⟨b, off + k, none⟩ = some (.int .i64 (i : Int)) := by rw [← hwz]; exact hcell
        have z2 : wz.cell? ⟨bL, oL + i, none⟩ = some (.slice u x.length cu) := by rw [← hwz]; exact hcellL
        have hBz : Below wk.heap.size wk wz := by rw [← hwz]; exact below_drewN _ _
        have XZ := Lib.hid (HX.out.below hBz)
        have TZ := Lib.hid (HTK.out.below hBz)
        have AZ := Lib.hid (HACC.out.below hBz)
        have BZ := Lib.hid (HB.out.trans (hBz.mono HB.out.size))
        rw [hwz]
        clear hwz hBz hcell hcellL HX HTK HACC HB
        by_cases hall : ∀ y ∈ x, y ∈ T
        · have C := Lib.hid (refWithin_any x T (true, 0) (by rw [HWI.out, decide_eq_true hall]) _ _ wz XZ.out TZ.out hlen lT)
          have HALL := Lib.hid hall
          clear hall
          go_wp2_with fail
          refine C.out.mono ?_
          rintro e w1 ⟨rfl, m, hm⟩
          have y1 : w1.cell? ⟨b, off + k, none⟩ = some (.int .i64 (i : Int)) := by rw [hm]; exact z1
          have y2 : w1.cell? ⟨bL, oL + i, none⟩ = some (.slice u x.length cu) := by rw [hm]; exact z2
          have hB1 : Below wz.heap.size wz w1 := by rw [hm]; exact below_drewN _ _
          have X1 := Lib.hid (XZ.out.below hB1)
          have A1 := Lib.hid (AZ.out.below hB1)
          have B1 := Lib.hid (BZ.out.trans (hB1.mono BZ.out.size))
          clear hm hB1 XZ AZ BZ TZ z1 z2 C
          go_wp2_with fail
          refine (refUnion_any _ _ _ HSU.out _ _ w1 A1.out X1.out hal hlen).mono ?_
          rintro e w2 ⟨vu, rfl, hu, g⟩
          have HU := Lib.hid hu
          have B2 := Lib.hid (B1.out.trans (g.mono B1.out.size))
          obtain ⟨au, cu2, rfl, _⟩ := hu
          clear g X1 A1 B1 y1 y2
          go_wp2
          go_roundw
          case rel =>
            refine ⟨k + 1, by omega, by go_num, HU.out, B2.out, ?_⟩
            rw [HTT.out]
            intro q hq
            rcases List.mem_append.1 hq with h | h
            · exact HSUB.out q h
            · simp at h; rw [h, HG.out]; exact HALL.out
          case measure => simp [intOf]; omega
        · have C := Lib.hid (refWithin_any x T (false, 0) (by rw [HWI.out, decide_eq_false hall]) _ _ wz XZ.out TZ.out hlen lT)
          have HALL := Lib.hid hall
          clear hall
          go_wp2_with fail
          refine C.out.mono ?_
          rintro e w1 ⟨rfl, m, hm⟩
          have B1 := Lib.hid (BZ.out.trans (show Below w.heap.size wz w1 by rw [hm]; exact below_drewN_n _ _ _))
          clear hm XZ AZ BZ TZ z1 z2 C
          go_wp2
          go_ret
          refine ⟨ret_bool ?_, B1.out⟩
          rw [← HR.out, covB, eq_comm, decide_eq_false_iff_not]
          rintro ⟨h, _⟩
          refine HALL.out ?_
          rw [← HG.out]
          exact h i HMM.out
    · obtain rfl : k = c.length := by omega
      rw [List.take_length] at HSUB
      have hW : withinR T (accL L c c.length) = (decide (∀ y ∈ T, y ∈ accL L c c.length), 0) := by rw [withinR, if_neg (by rintro (h | h); exact h HET.out; exact h (err_sel (Nat.le_refl _) _))]
      have hres : decide (∀ y ∈ T, y ∈ accL L c c.length) = r := by
        rw [← HR.out, covB]
        apply decide_eq_decide.2
        have hLi : ∀ j ∈ c, InR (L.getD j []) := fun j hj => by
          have := (asc_lt HA.out j hj).2
          rw [List.getD_eq_getElem?_getD, List.getElem?_eq_getElem this]
          exact ((err_iff _).1 (HEL.out _ (List.getElem_mem this))).2
        exact ⟨fun h => ⟨HSUB.out, fun y hy => (mem_acc hLi).1 (h y hy)⟩, fun ⟨_, h⟩ y hy => (mem_acc hLi).2 (h y hy)⟩
      rw [hres] at hW
      have C := Lib.hid (refWithin_any T (accL L c c.length) (r, 0) hW _ _ wk (HT.out.below hB) hacc lT hal)
      obtain ⟨ao, co, rfl, _⟩ := hacc
      clear hW hres
      go_wp2_with fail
      refine C.out.mono ?_
      rintro e w1 ⟨rfl, m, hm⟩
      have B1 := Lib.hid (HB.out.trans (show Below w.heap.size wk w1 by rw [hm]; exact below_drewN_n _ _ _))
      clear hm C hB
      go_wp2
      go_ret
      exact ⟨rfl, B1.out⟩
end Go.Proofs.Ytdplcpnahahkaaa
