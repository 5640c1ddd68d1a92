/- The reference's table of distances. -/
import Derived.Test.YtbdeakodmhcgdaaEdRefs
namespace Go.Proofs.Ytbdeakodmhcgdaa
set_option linter.unusedSimpArgs false
set_option linter.unusedVariables false
set_option maxRecDepth 100000
open Go.RowKit Go.Deep

/-! ### a table in memory that the call owns -/
abbrev hdrV (m b : Nat) : Value := .slice (some ⟨b, 0, none⟩) m m
/-- k rows of m integers each, behind a list of rows -/
structure TabIn (w wi : World) (v : Value) (k m : Nat) (bs : Nat → Nat) (D : Nat → Nat → Int) : Prop where
  below : Below w.heap.size w wi
  top : wi.ownsRow w.heap.size 72 1 v k ((List.range k).map fun i => hdrV m (bs i))
  done : ∀ i, i < k → w.heap.size ≤ bs i ∧ wi.rowIs (bs i) 3 m (fun c => intV (D i c))
theorem TabIn.start (w : World) (m : Nat) (bs : Nat → Nat) (D : Nat → Nat → Int) : TabIn w w (.slice none 0 0) 0 m bs D :=
  ⟨Below.refl _ _, World.ownsRow_nil _ _ _ _, fun i h => absurd h (Nat.not_lt_zero _)⟩
theorem own_set {w : World} {base : Nat} {e t : TypeId} {v : Value} {n r m : Nat} {xs : List Value} {f : Nat → Value} (h : w.ownsRow base e 1 v n xs) (hr : w.rowIs r t m f) (hne : e ≠ t) (j : Nat) (x : Value) :
    (w.setCell ⟨r, j, none⟩ x).ownsRow base e 1 v n xs := by
  refine ⟨h.1, ?_⟩
  rcases h.2 with hn | ⟨g, cap, cur, rfl, hb, hg, rest⟩
  · exact .inl hn
  · refine .inr ⟨g, cap, cur, rfl, hb, ?_, rest⟩
    rw [blk_setCell_other _ _ _ _ (fun e0 => ?_)]
    · exact hg
    · obtain ⟨c, hc, _⟩ := hr
      have e1 : g = r := e0
      rw [e1, hc] at hg
      simp only [Option.some.injEq, Obj.cells.injEq] at hg
      exact hne hg.2.1.symm
theorem TabIn.set {w wi : World} {v : Value} {k m r : Nat} {bs : Nat → Nat} {D : Nat → Nat → Int} {f : Nat → Value} (h : TabIn w wi v k m bs D) (hr : wi.rowIs r 3 m f) (hge : w.heap.size ≤ r) (hne : ∀ i, i < k → bs i ≠ r) (j : Nat) (x : Value) :
    TabIn w (wi.setCell ⟨r, j, none⟩ x) v k m bs D :=
  ⟨h.below.setCell hge _, own_set h.top hr (by decide) j x, fun i hi => ⟨(h.done i hi).1, (h.done i hi).2.setOther (hne i hi) _⟩⟩
theorem TabIn.alloc {w wi : World} {v : Value} {k m : Nat} {bs : Nat → Nat} {D : Nat → Nat → Int} (h : TabIn w wi v k m bs D) (o : Obj) : TabIn w (wi.alloc o) v k m bs D :=
  ⟨h.below.alloc h.below.size _, h.top.alloc _, fun i hi => ⟨(h.done i hi).1, (h.done i hi).2.alloc _⟩⟩
theorem TabIn.drew {w wi : World} {v : Value} {k m : Nat} {bs : Nat → Nat} {D : Nat → Nat → Int} (h : TabIn w wi v k m bs D) : TabIn w wi.drew v k m bs D :=
  ⟨h.below.drew, h.top.drew, fun i hi => ⟨(h.done i hi).1, (h.done i hi).2.drew⟩⟩
theorem row_kept {w w2 : World} {base : Nat} {e t : TypeId} {v : Value} {n r m : Nat} {xs : List Value} {f : Nat → Value} {o : Obj} (h : w.ownsRow base e 1 v n xs) (hr : w.rowIs r t m f) (hne : e ≠ t) (hg : (w.alloc o).grownBy w2 v.ownBlock) : w2.rowIs r t m f := by
  have h1 := hr.alloc o
  refine h1.of_block (hg.block r h1.lt (fun e0 => ?_))
  rcases h.2 with ⟨rfl, _⟩ | ⟨g, cap, cur, rfl, _, hgg, _⟩
  · cases e0
  · obtain ⟨c, hc, _⟩ := hr
    simp only [Value.ownBlock, Option.some.injEq] at e0
    subst e0
    rw [hc] at hgg
    simp only [Option.some.injEq, Obj.cells.injEq] at hgg
    exact hne hgg.2.1.symm
/-- one row more -/
theorem TabIn.push {w wr w2 : World} {v v' : Value} {k m r : Nat} {bs : Nat → Nat} {D : Nat → Nat → Int} {o : Obj} (h : TabIn w wr v k m bs D) (hr : wr.rowIs r 3 m (fun c => intV (D k c))) (hge : w.heap.size ≤ r)
    (hg : (wr.alloc o).grownBy w2 v.ownBlock) (ho : w2.ownsRow w.heap.size 72 1 v' (k + 1) ((List.range k).map (fun i => hdrV m (bs i)) ++ [hdrV m r])) :
    TabIn w w2 v' (k + 1) m (fun i => if i < k then bs i else r) D := by
  refine ⟨own_below h.below h.below.size h.top hg, ?_, fun i hi => ?_⟩
  · have e : (List.range (k + 1)).map (fun i => hdrV m (if i < k then bs i else r)) = (List.range k).map (fun i => hdrV m (bs i)) ++ [hdrV m r] := by
      rw [List.range_succ, List.map_append]
      congr 1
      · exact List.map_congr_left (fun i hi => by rw [if_pos (List.mem_range.1 hi)])
      · simp
    rw [e]; exact ho
  · by_cases hk : i < k
    · simp only [if_pos hk]
      exact ⟨(h.done i hk).1, row_kept h.top (h.done i hk).2 (by decide) hg⟩
    · have e : i = k := by omega
      subst e
      simp only [if_neg hk]
      exact ⟨hge, row_kept h.top hr (by decide) hg⟩
theorem row_step {wi : World} {r m k j : Nat} {D : Nat → Nat → Int} {z : Int} (h : wi.rowIs r 3 m (fun c => if c < j then intV (D k c) else intV 0)) (hz : z = D k j) :
    (wi.setCell ⟨r, j, none⟩ (intV z)).rowIs r 3 m (fun c => if c < j + 1 then intV (D k c) else intV 0) := by
  refine (h.set j (intV z)).congr (fun c _ => ?_)
  by_cases e : c = j
  · subst e; simp [hz]
  · rw [if_neg e]
    by_cases hlt : c < j
    · rw [if_pos hlt, if_pos (by omega)]
    · rw [if_neg hlt, if_neg (by omega)]
theorem row_step2 {wi : World} {r m k j : Nat} {D : Nat → Nat → Int} {z y : Int} (h : wi.rowIs r 3 m (fun c => if c = j then intV y else if c < j then intV (D k c) else intV 0)) (hz : z = D k j) :
    (wi.setCell ⟨r, j, none⟩ (intV z)).rowIs r 3 m (fun c => if c < j + 1 then intV (D k c) else intV 0) := by
  refine (h.set j (intV z)).congr (fun c _ => ?_)
  by_cases e : c = j
  · subst e; simp [hz]
  · rw [if_neg e, if_neg e]
    by_cases hlt : c < j
    · rw [if_pos hlt, if_pos (by omega)]
    · rw [if_neg hlt, if_neg (by omega)]
/-- the row at place i -/
theorem TabIn.hdr {w wi : World} {v : Value} {k m : Nat} {bs : Nat → Nat} {D : Nat → Nat → Int} (h : TabIn w wi v k m bs D) (i : Nat) (hi : i < k) :
    ∃ g cap, v = .slice (some ⟨g, 0, none⟩) k cap ∧ wi.cell? ⟨g, i, none⟩ = some (hdrV m (bs i)) := by
  have hc := fun g hg => h.top.cells (g := g) hg
  rcases h.top.2 with ⟨_, h0⟩ | ⟨g, cap, cur, rfl, _⟩
  · omega
  · refine ⟨g, cap, rfl, ?_⟩
    have := hc g rfl i (hdrV m (bs i)) (by rw [List.getElem?_map, List.getElem?_range hi]; rfl)
    rwa [addr_add] at this

theorem bytes_eq {a b : ByteArray} (h : a.toList = b.toList) : a = b := by
  rw [ByteArray.toList_eq, ByteArray.toList_eq] at h
  obtain ⟨⟨a⟩⟩ := a
  obtain ⟨⟨b⟩⟩ := b
  exact congrArg (fun l => ByteArray.mk (Array.mk l)) h
/-! ### the distances -/
def DI (xs ys : List ByteArray) (i j : Nat) : Int := (lev (xs.take i) (ys.take j) : Nat)
theorem DI_zero (xs ys : List ByteArray) (j : Nat) (h : j ≤ ys.length) : DI xs ys 0 j = j := by rw [DI, List.take_zero, lev_nil, List.length_take, Nat.min_eq_left h]
theorem DI_left (xs ys : List ByteArray) (i : Nat) (h : i ≤ xs.length) : DI xs ys i 0 = i := by rw [DI, List.take_zero, lev_nil', List.length_take, Nat.min_eq_left h]
theorem DI_step (xs ys : List ByteArray) (i j : Nat) (hi : i < xs.length) (hj : j < ys.length) :
    DI xs ys (i + 1) (j + 1) = min (min (DI xs ys i (j + 1)) (DI xs ys (i + 1) j) + 1) (DI xs ys i j + if xs[i] = ys[j] then 0 else 1) := by
  have h := lev_snoc xs[i] ys[j] (xs.take i) (ys.take j)
  rw [List.take_append_getElem hi, List.take_append_getElem hj] at h
  rw [DI, DI, DI, DI, h]
  split <;> omega
theorem DI_bd (xs ys : List ByteArray) (i j : Nat) (hi : i ≤ xs.length) (hj : j ≤ ys.length) : 0 ≤ DI xs ys i j ∧ DI xs ys i j ≤ i + j := by
  have := lev_most (xs.take i) (ys.take j)
  rw [List.length_take, List.length_take] at this
  rw [DI]; omega

/-- a table and where it lies -/
def TabPost (xs ys : List ByteArray) (w : World) (e : Ending) (w' : World) : Prop := ∃ v bs, e = .returned v ∧ TabIn w w' v (xs.length + 1) (ys.length + 1) bs (DI xs ys)

set_option maxHeartbeats 4000000 in
theorem refTable_any (xs ys : List ByteArray) (vx vy : Value) (w : World) (hx : StrsAt w vx xs) (hy : StrsAt w vy ys) (lx : xs.length ≤ 1000000) (ly : ys.length ≤ 1000000) :
    Calls Try.prog 55 #[vx, vy] w (TabPost xs ys w) := by
  obtain ⟨i0, hi, hz0, hz1, hz2⟩ := info_parts info_ints
  obtain ⟨ax, cx, rfl, hcx⟩ := hx
  obtain ⟨ay, cy, rfl, hcy⟩ := hy
  have HX := Lib.hid hcx
  have HY := Lib.hid hcy
  clear hcx hcy
  obtain ⟨m, hm⟩ : ∃ m : Nat, ys.length + 1 = m := ⟨_, rfl⟩
  have hmi : (ys.length : Int) + 1 = (m : Int) := by omega
  have HM := Lib.hid hm
  have hm1 : m ≤ 1000001 := by omega
  unfold TabPost
  rw [hm]
  clear hm
  have hmk := run_make_row' (P := Try.prog) 72 3 (.int .i64 0) 8 Try.underlying72 info_int rfl .i64 .i64 m (by omega) (by omega)
  go_enter Try.func55, Try.ntmps55
  go_wp2
  go_loopw [5, 6] (fun v i wr => ∃ k : Nat, k ≤ xs.length + 1 ∧ i = .int .i64 k ∧ ∃ bs, TabIn w wr v k m bs (DI xs ys))
    (fun _ i _ => xs.length + 1 - (intOf i).toNat)
  case atStart => exact ⟨0, Nat.zero_le _, rfl, fun _ => 0, TabIn.start _ _ _ _⟩
  case round =>
    obtain ⟨k, hk, rfl, bs, hT⟩ := hrel
    have HT := Lib.hid hT
    clear hT
    by_cases hlt : k ≤ xs.length
    · obtain ⟨v, rfl⟩ : ∃ x, x = u5 := ⟨_, rfl⟩
      obtain ⟨w1, rfl⟩ : ∃ x, x = wr := ⟨_, rfl⟩
      obtain ⟨r, hr⟩ : ∃ r, w1.heap.size = r := ⟨_, rfl⟩
      have hge : w.heap.size ≤ r := by rw [← hr]; exact HT.out.below.size
      have hfresh : ∀ i, i < k → bs i ≠ r := fun i hi => by have := (HT.out.done i hi).2.lt; omega
      have HF := Lib.hid hfresh
      have HT1 := Lib.hid (HT.out.alloc (.cells (madeCells #[.int .i64 0] m) 3))
      have hrow := World.rowIs_made w1 (.int .i64 0) m 3
      rw [hr] at hrow
      have HR := Lib.hid hrow
      clear hrow hfresh
      go_wp2
      go_loopw [8] (fun jv wi => ∃ j : Nat, j ≤ m ∧ jv = .int .i64 j ∧ TabIn w wi v k m bs (DI xs ys) ∧ wi.rowIs r 3 m (fun c => if c < j then intV (DI xs ys k c) else intV 0))
        (fun jv _ => m - (intOf jv).toNat)
      case atStart => exact ⟨0, Nat.zero_le _, rfl, HT1.out, HR.out.congr (fun c _ => by simp)⟩
      case round =>
        obtain ⟨j, hj, rfl, hT2, hR2⟩ := hrel
        have HT2 := Lib.hid hT2
        have HR2 := Lib.hid hR2
        clear hT2 hR2
        by_cases hjm : j < m
        · have hjy : (j : Int) ≤ ys.length := by omega
          have hst : wr.cell? ⟨r, j, none⟩ = some (intV 0) := by have := HR2.out.cell hjm; simpa using this
          have hfz : wr.frozen? ⟨r, j, none⟩ = false := HR2.out.frozen j
          by_cases hk0 : k = 0
          · subst hk0
            have S1 := Lib.hid ((HT2.out.set HR2.out hge HF.out j (intV j)))
            have S2 := Lib.hid (row_step HR2.out (show (j : Int) = DI xs ys 0 j by rw [DI_zero xs ys j (by omega)]))
            go_wp2
            go_roundw
            case rel => exact ⟨j + 1, by omega, by go_num, S1.out, S2.out⟩
            case measure => simp [intOf]; omega
          · obtain ⟨k0, hkk⟩ : ∃ k0, k0 + 1 = k := ⟨k - 1, by omega⟩
            have hki : (k : Int) - 1 = (k0 : Int) := by omega
            have hkb : k0 < k := by omega
            have hkx : k0 < xs.length := by omega
            have hkn : ((k : Int) == 0) = false := by simp; omega
            by_cases hj0 : j = 0
            · subst hj0
              have S1 := Lib.hid (HT2.out.set HR2.out hge HF.out 0 (intV k))
              have S2 := Lib.hid (row_step HR2.out (show (k : Int) = DI xs ys k 0 by rw [DI_left xs ys k (by omega)]))
              clear hk0 hkk hki
              go_wp2
              go_roundw
              case rel => exact ⟨1, by omega, by go_num, S1.out, S2.out⟩
              case measure => simp [intOf]; omega
            · obtain ⟨j0, hjj⟩ : ∃ j0, j0 + 1 = j := ⟨j - 1, by omega⟩
              have hji : (j : Int) - 1 = (j0 : Int) := by omega
              have hjb : j0 < j := by omega
              have hjn : ((j : Int) == 0) = false := by simp; omega
              have hjy2 : j0 < ys.length := by omega
              have hjm0 : j0 < m := by omega
              obtain ⟨g, cap, rfl, hg⟩ := HT2.out.hdr k0 hkb
              have hpr := (HT2.out.done k0 hkb).2
              have c1 := hpr.cell (i := j) hjm
              have c2 := hpr.cell (i := j0) hjm0
              have c3 := HR2.out.cell (i := j0) hjm0
              simp only [if_pos hjb] at c3
              obtain ⟨bx, ox, rfl, hbx, hcx⟩ := HX.out (by omega)
              obtain ⟨bY, oY, rfl, hbY, hcY⟩ := HY.out (by omega)
              have cx0 := hcx k0 hkx
              have cy0 := hcY j0 hjy2
              clear hcx hcY
              have hbd1 := DI_bd xs ys k0 j (by omega) (by omega)
              have hbd2 := DI_bd xs ys k j0 (by omega) (by omega)
              have hbd3 := DI_bd xs ys k0 j0 (by omega) (by omega)
              have hstep := DI_step xs ys k0 j0 hkx hjy2
              rw [hkk, hjj] at hstep
              obtain ⟨a1, h1⟩ : ∃ z, DI xs ys k0 j = z := ⟨_, rfl⟩
              obtain ⟨a2, h2⟩ : ∃ z, DI xs ys k j0 = z := ⟨_, rfl⟩
              obtain ⟨a3, h3⟩ : ∃ z, DI xs ys k0 j0 = z := ⟨_, rfl⟩
              obtain ⟨pb, hpb⟩ : ∃ z, bs k0 = z := ⟨_, rfl⟩
              obtain ⟨sx, hsx⟩ : ∃ z, xs[k0] = z := ⟨_, rfl⟩
              obtain ⟨sy, hsy⟩ : ∃ z, ys[j0] = z := ⟨_, rfl⟩
              rw [h1] at c1 hbd1 hstep
              rw [h2] at c3 hbd2 hstep
              rw [h3] at c2 hbd3 hstep
              rw [hpb] at hg c1 c2 hpr
              rw [hsx] at cx0 hstep
              rw [hsy] at cy0 hstep
              obtain ⟨mn, hmn⟩ : ∃ z, (if a2 < a1 then a2 else a1) = z := ⟨_, rfl⟩
              rw [show min a1 a2 = mn by rw [← hmn]; split <;> omega] at hstep
              have hmb : 0 ≤ mn ∧ mn ≤ 4000000 := by rw [← hmn]; split <;> omega
              have hb3 : 0 ≤ a3 ∧ a3 ≤ 2000001 := by omega
              have cx1 := (HT2.out.below.cell (p := ⟨bx, ox + k0, none⟩) hbx).trans cx0
              have cy1 := (HT2.out.below.cell (p := ⟨bY, oY + j0, none⟩) hbY).trans cy0
              have hwk : IntKind.i64.wrap (k0 : Int) = (k0 : Int) := IntWalk.i64_in _ (by omega)
              have hwj : IntKind.i64.wrap (j0 : Int) = (j0 : Int) := IntWalk.i64_in _ (by omega)
              have hw3 : IntKind.i64.wrap (mn + 1) = mn + 1 := IntWalk.i64_in _ (by omega)
              have T3 := (HT2.out.set HR2.out hge HF.out j (intV (mn + 1))).drew
              have R3 := (HR2.out.set j (intV (mn + 1))).drew
              obtain ⟨wx, hwx⟩ : ∃ wx, (wr.setCell ⟨r, j, none⟩ (intV (mn + 1))).drew = wx := ⟨_, rfl⟩
              rw [hwx] at T3 R3
              have HWX := Lib.hid hwx
              have HST := Lib.hid hstep
              have e4 := R3.cell (i := j) hjm
              simp only [if_pos] at e4
              have hpr3 := (T3.done k0 hkb).2
              rw [hpb] at hpr3
              have e2 := hpr3.cell (i := j0) hjm0
              rw [h3] at e2
              obtain ⟨g', cap', hg1, e1⟩ := T3.hdr k0 hkb
              obtain ⟨rfl, rfl⟩ : g = g' ∧ cap = cap' := by simpa using hg1
              rw [hpb] at e1
              have ex := (T3.below.cell (p := ⟨bx, ox + k0, none⟩) hbx).trans cx0
              have ey := (T3.below.cell (p := ⟨bY, oY + j0, none⟩) hbY).trans cy0
              have E := Lib.hid (And.intro e4 (And.intro e2 (And.intro e1 (And.intro ex (And.intro ey (R3.frozen j))))))
              have HT3 := Lib.hid T3
              have HR3 := Lib.hid R3
              have HKK := Lib.hid hkk
              clear h1 h2 h3 hpb hsx hsy hpr hpr3 hstep hwx T3 R3 e4 e2 e1 ex ey hg1 hbd1 hbd2 hbd3 cx0 cy0 hjj hkk hj0 hk0
              go_wp2_with fail
              go_region
              rw [HWX.out]
              clear hmn hw3 c1 c2 c3 hg hst hfz cx1 cy1
              obtain ⟨e4, e2, e1, ex, ey, efz⟩ := E.out
              by_cases hxy : sx = sy
              · have hstep := HST.out
                rw [if_pos hxy] at hstep
                obtain ⟨zn, hzn⟩ : ∃ z, (if a3 < mn + 1 then a3 else mn + 1) = z := ⟨_, rfl⟩
                rw [show min (mn + 1) (a3 + 0) = zn by rw [← hzn]; split <;> omega] at hstep
                have hzb : 0 ≤ zn ∧ zn ≤ 4000001 := by rw [← hzn]; split <;> omega
                have S1 := Lib.hid ((HT3.out.set HR3.out hge HF.out j (intV zn)).drew.drew)
                have S2 := Lib.hid ((row_step2 HR3.out hstep.symm).drew.drew)
                subst hxy
                clear hstep
                go_wp2_with fail
                go_region
                go_wp2_with fail
                go_region
                go_wp2
                go_roundw
                case rel => exact ⟨j + 1, by omega, by go_num, S1.out, S2.out⟩
                case measure => simp [intOf]; omega
              · have hstep := HST.out
                rw [if_neg hxy] at hstep
                obtain ⟨zn, hzn⟩ : ∃ z, (if a3 < mn then a3 + 1 else mn + 1) = z := ⟨_, rfl⟩
                rw [show min (mn + 1) (a3 + 1) = zn by rw [← hzn]; split <;> omega] at hstep
                have hzb : 0 ≤ zn ∧ zn ≤ 4000001 := by rw [← hzn]; split <;> omega
                have hw4 : IntKind.i64.wrap (a3 + 1) = a3 + 1 := IntWalk.i64_in _ (by omega)
                have S1 := Lib.hid ((HT3.out.set HR3.out hge HF.out j (intV zn)).drew.drew)
                have S2 := Lib.hid ((row_step2 HR3.out hstep.symm).drew.drew)
                have hne : (sx.toList == sy.toList) = false := by rw [Bool.eq_false_iff]; intro e; exact hxy (bytes_eq (by simpa using e))
                clear hstep
                go_wp2_with fail
                go_region
                go_wp2_with fail
                go_region
                go_wp2
                go_roundw
                case rel => exact ⟨j + 1, by omega, by go_num, S1.out, S2.out⟩
                case measure => simp [intOf]; omega
        · obtain rfl : m = j := by omega
          have R := Lib.hid (HR2.out.congr (g := fun c => intV (DI xs ys k c)) (fun c hc => by rw [if_pos hc]))
          go_wp2_with (at_builtin; refine wpList_append_own _ rfl _ _ 70 rfl w.heap.size 72 i0 (.slice none 0 0) 1 24 Try.underlying70 hi hz0 hz1 hz2 rfl (by decide) _ _ _ rfl (HT2.out.top.alloc _) ⟨wr.heap.size, 0, none⟩ 1 1 [.slice _ _ _] rfl rfl (one_news _ _ _ _ rfl) (by simp [Value.oneCell']) (by unfold maxLen; omega) (by omega) (by have := HT2.out.below.size; simp; omega) ?_; intro v' w2 hown' hgrow hnn; clear hnn; have HP := Lib.hid (HT2.out.push R.out hge hgrow hown'); clear hown' hgrow)
          go_roundw
          case rel => exact ⟨k + 1, by omega, by go_num, _, HP.out⟩
          case measure => simp [intOf]; omega
    · obtain rfl : k = xs.length + 1 := by omega
      go_wp2
      go_ret
      exact ⟨_, _, rfl, HT.out⟩
end Go.Proofs.Ytbdeakodmhcgdaa
