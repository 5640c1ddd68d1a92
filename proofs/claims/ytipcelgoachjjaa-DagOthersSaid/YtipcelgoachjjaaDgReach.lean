/- The program's Reach. -/
import Derived.Test.YtipcelgoachjjaaDgPath
import Derived.Test.YtipcelgoachjjaaDgProg1
import Derived.Test.YtipcelgoachjjaaDgRefReach
namespace Go.Proofs.Ytipcelgoachjjaa
set_option linter.unusedSimpArgs false
set_option linter.unusedVariables false
set_option maxRecDepth 100000
open Go.RowKit Go.Shelf Go.Deep
attribute [local go_sem] Oper.semAt_some wide_fn

/-- the boxes that the rounds read -/
structure ReachB (w W : World) (tG tL : TypeId) (x y z : Value) (G BV : Nat) : Prop where
  g : W.heap[G]? = some (.cells #[x, y] tG (0, 0))
  bv : Boxed W BV tL z
  below : Below w.heap.size w W
theorem ReachB.g0 {w W : World} {tG tL : TypeId} {x y z : Value} {G BV : Nat} (h : ReachB w W tG tL x y z G BV) : W.cell? ⟨G, 0, none⟩ = some x := by simp [World.cell?, h.g]
theorem ReachB.g1 {w W : World} {tG tL : TypeId} {x y z : Value} {G BV : Nat} (h : ReachB w W tG tL x y z G BV) : W.cell? ⟨G, 1, none⟩ = some y := by simp [World.cell?, h.g]
theorem ReachB.keep {w W W' : World} {tG tL : TypeId} {x y z : Value} {G BV R : Nat} (h : ReachB w W tG tL x y z G BV) (hw : w.heap.size ≤ W.heap.size) (ho : w.heap.size ≤ G ∧ G < R ∧ R < BV) (hg : W.grownBy W' (some R)) : ReachB w W' tG tL x y z G BV := by
  have hb := h.bv.lt
  exact ⟨(hg.block _ (by omega) (by intro e; cases e; omega)).trans h.g, h.bv.kept hg (by intro e; cases e; omega), h.below.trans (grown_below hg hw (by intro r e; cases e; omega))⟩
/-- the blocks of the beginning -/
theorem reach_boxes (w2 : World) (tG tB tL : TypeId) (x y z : Value) (cs : Array Value) (G R BV : Nat) (hG : w2.heap.size = G) (hR : G + 1 = R) (hBV : R + 1 = BV) (wa wb wc : World) (hwa : w2.alloc (.cells #[x, y] tG) = wa) (hwb : wa.alloc (.cells cs tB) = wb) (hwc : wb.alloc (.cells #[z] tL) = wc) :
    ReachB w2 wc tG tL x y z G BV ∧ wc.heap.size = BV + 1 ∧ wa.heap.size = R ∧ wb.heap.size = BV := by
  subst hwa hwb hwc hG hR hBV
  refine ⟨⟨?_, ?_, ?_⟩, by simp, by simp, by simp⟩
  · rw [Below.heap_alloc _ _ _ (by simp; omega), Below.heap_alloc _ _ _ (by simp)]
    exact blk_alloc_new _ _
  · have := Boxed.new ((w2.alloc (.cells #[x, y] tG)).alloc (.cells cs tB)) tL z
    simpa using this
  · exact (((Below.refl _ w2).alloc (Nat.le_refl _) _).alloc (by simp) _).alloc (by simp; omega) _

theorem own_cells {W : World} {B n : Nat} {e : TypeId} {v : Value} {xs : List Value} (h : W.ownsRow B e 1 v n xs) : ∀ (j : Nat) (o : Obj), v.ownBlock = some j → W.heap[j]? = some o → o.isCells = true := fun j o ej hj => by
  rcases h.2 with ⟨rfl, _⟩ | ⟨g2, cap2, cur, rfl, _, hgb, _⟩
  · simp [Value.ownBlock] at ej
  · obtain rfl : g2 = j := by simpa [Value.ownBlock] using ej
    rw [hgb] at hj; cases hj; rfl
set_option maxHeartbeats 8000000 in
theorem Reach_any (n' : Int) (ls : List LkV) (s' : Int) (v : Value) (w : World) (hv : LinksAt w v ls) (hgr : greatR n' ls = false) (r : List Int × Int) (hr : reachR n' ls s' = r) :
    Calls Try.prog 26 #[intV n', v, intV s'] w (ListPost r w) := by
  obtain ⟨i0, hi0, hz0, hz1, hz2⟩ := info_parts info_int
  have HV := Lib.hid hv
  have hl := great_len hgr
  have hBt : Below w.heap.size w (w.alloc (.cells #[intV s'] 3)) := (Below.refl _ _).alloc (Nat.le_refl _) _
  obtain ⟨q, hq⟩ : ∃ q, nodesR n' ls [s'] = q := ⟨_, rfl⟩
  have HC := Lib.hid (nodes_any n' ls [s'] v _ _ (hv.below hBt) (ints_one w s' 3) (by unfold maxLen; omega) (by simp [maxLen]) q hq)
  have HBt := Lib.hid hBt
  obtain ⟨av, cv, rfl⟩ := hv.slice
  rw [reachR, hq] at hr
  have HR := Lib.hid hr
  clear hv hBt hr
  by_cases h0 : q = 0
  · subst h0
    obtain ⟨hc, hin⟩ := nodes_zero hq
    obtain ⟨n, rfl, hs⟩ := small_of hgr hc
    obtain ⟨s, rfl, hsn⟩ := nat_of (hin s' (by simp))
    have HS := Lib.hid hs
    have hk8 := hs.n8
    have hmk := run_make_row' (P := Try.prog) 69 4 (.bool false) 1 rfl info_bool rfl
    have hmk1 := fun W => hmk .i64 .i64 n (by omega) (by omega) W
    have HRR := Lib.hid (show r = (toI (reachL n ls s), 0) from HR.out.symm.trans (by rw [if_neg (by decide), Int.toNat_natCast]))
    clear hq hc hin hs hgr hmk HR
    refine (callsIn_wide (n := 9)).1 ?_
    refine callsIn_of_wp_marks Try.func26 rfl trivial ?_ rfl
    simp only [Try.ntmps26, List.size_toArray, List.length_cons, List.length_nil, Nat.reduceAdd, Nat.reduceSub, Array.replicate_succ, Array.replicate_zero, List.push_toArray, List.append_toArray, List.nil_append, List.cons_append]
    gi_wp2_with fail
    refine (callsIn_wide.2 HC.out).mono ?_
    rintro e w1 ⟨rfl, hB⟩
    have HB1 := Lib.hid (below_then HBt.out hB)
    clear hB
    gi_wp2_with fail
    refine (callsIn_wide.2 (graphOf_any n ls HS.out.g _ w1 (HV.out.below HB1.out))).mono ?_
    rintro e w2 ⟨u, rfl, hu, hB⟩
    have HB2 := Lib.hid (below_then HB1.out hB)
    have HU := Lib.hid hu
    obtain ⟨au, cu, rfl, _⟩ := id hu
    clear hB hu
    rw [outs_len] at *
    obtain ⟨G, hG⟩ : ∃ x, w2.heap.size = x := ⟨_, rfl⟩
    obtain ⟨R, hR⟩ : ∃ x, G + 1 = x := ⟨_, rfl⟩
    obtain ⟨BV, hBV⟩ : ∃ x, R + 1 = x := ⟨_, rfl⟩
    obtain ⟨wa, hwa⟩ : ∃ x, w2.alloc (.cells #[.slice av ls.length cv, .slice au n cu] tyG) = x := ⟨_, rfl⟩
    obtain ⟨wb, hwb⟩ : ∃ x, wa.alloc (.cells (madeCells #[.bool false] n) 4) = x := ⟨_, rfl⟩
    obtain ⟨wc, hwc⟩ : ∃ x, wb.alloc (.cells #[.slice (some ⟨R, 0, none⟩) n n] 69) = x := ⟨_, rfl⟩
    obtain ⟨hRB, hsc, hsa, hsb⟩ := reach_boxes w2 tyG 4 69 (.slice av ls.length cv) (.slice au n cu) (.slice (some ⟨R, 0, none⟩) n n) _ G R BV hG hR hBV wa wb wc hwa hwb hwc
    have hrow : wc.rowIs R 4 n (fun _ => .bool false) := by
      have := World.rowIs_made wa (.bool false) n 4
      rw [hwb, hsa] at this
      rw [← hwc]; exact this.alloc _
    have hc1 := hRB.bv.cell
    have hc2 := hrow.cell hsn
    have hc3 := hrow.frozen s
    have hsi0 : (0 : Int) ≤ (s : Int) := by omega
    have hsi1 : (s : Int) < (n : Int) := by omega
    have HROW := Lib.hid (hrow.set s (.bool true))
    have HRB := Lib.hid hRB
    have HORD := Lib.hid (And.intro hG (And.intro hR (And.intro hBV hsc)))
    clear hrow hRB hsc hR hBV
    gi_wp2_with fail
    obtain ⟨w0, hw0⟩ : ∃ x, wc.setCell ⟨R, s, none⟩ (Value.bool true) = x := ⟨_, rfl⟩
    rw [hw0] at HROW ⊢
    obtain ⟨hG', hR', hBV', hsc'⟩ := HORD.out
    have hs0 : w0.heap.size = BV + 1 := by rw [← hw0]; simpa [World.setCell] using hsc'
    have hord : w2.heap.size ≤ G ∧ G < R ∧ R < BV := ⟨by omega, by omega, by omega⟩
    have F0 := Lib.hid (show ReachB w2 w0 tyG 69 (.slice av ls.length cv) (.slice au n cu) (.slice (some ⟨R, 0, none⟩) n n) G BV by
      rw [← hw0]; exact HRB.out.keep (R := R) (by omega) hord (KeepsRow.set wc R s _))
    have HROW0 := Lib.hid (show w0.rowIs R 4 n (rqV ls s s []) from HROW.out.congr fun i hi => by
      show _ = Value.bool (rq ls s s [] (i : Int))
      rw [rq_start HS.out.g]
      by_cases e : i = s
      · subst e; simp
      · rw [if_neg e, show decide ((i : Int) = (s : Int)) = false by rw [decide_eq_false_iff_not]; omega])
    obtain ⟨pr, hpr⟩ : ∃ p : Nat → Bool, (fun j : Nat => decide (P ls j s ≠ [])) = p := ⟨_, rfl⟩
    have HPR := Lib.hid (show ∀ j : Nat, pr j = Rc ls s j from fun j => by rw [← hpr]; rfl)
    have HLO := Lib.hid (show selN s pr = [] by rw [← hpr]; exact reachL_low HS.out.g s (Nat.le_refl _))
    have HRL := Lib.hid (show r = (toI (selN n pr), 0) by rw [← hpr]; exact HRR.out)
    have HV2 := Lib.hid (HV.out.below HB2.out)
    have hlR : R < w0.heap.size := by omega
    clear hw0 hc1 hc2 hc3 hmk1 HROW HRB hwa hwb hwc hsa hsb hpr hG
    refine wpIn_loop_down (fun m a W => ∃ (x : Nat) (nv : Value) (l : List Nat), ∃ u13 u14 u15 u16 u17 u18 u19 u20 u21 u22 u23 u24 u25 u26 u27 u28 u29 u30 u31 u32 u33 u34 u35 u36 u37 u38 u39 u40 u41 u42 u43 u44 u45 u46 u47 u48 u49 u50 u51 u52 u53 u54 u55 : Value, a = { tmps := #[intV (n : Int), Value.slice av ls.length cv, intV (s : Int), undef, undef, undef, Value.slice none 0 0, Value.int IntKind.i64 0, intV 0, Value.pointer (some ⟨G, 0, none⟩), Value.pointer (some ⟨BV, 0, none⟩), nv, intV (x : Int), u13, u14, u15, u16, u17, u18, u19, u20, u21, u22, u23, u24, u25, u26, u27, u28, u29, u30, u31, u32, u33, u34, u35, u36, u37, u38, u39, u40, u41, u42, u43, u44, u45, u46, u47, u48, u49, u50, u51, u52, u53, u54, u55], defers := l.map mark } ∧ m = n - x ∧ s ≤ x ∧ x ≤ n ∧ w0.grownBy W (some R) ∧ W.rowIs R 4 n (rqV ls s x []) ∧ W.ownsRow w0.heap.size 3 1 nv (selN x pr).length (mapN (selN x pr)) ∧ Marks w0.heap.size l W) (n - s) ?start ?round
    case start =>
      exact ⟨s, .slice none 0 0, [], _, _, _, _, _, _, _, _, _, _, _, _, _, _, _, _, _, _, _, _, _, _, _, _, _, _, _, _, _, _, _, _, _, _, _, _, _, _, _, _, _, _, _, rfl, rfl, Nat.le_refl _, Nat.le_of_lt hsn, grown_refl _ _, HROW0.out, by rw [HLO.out]; exact World.ownsRow_nil _ _ _ _, Marks.nil _ _⟩
    case round =>
      rintro m a W ⟨x, nv, l, u13, u14, u15, u16, u17, u18, u19, u20, u21, u22, u23, u24, u25, u26, u27, u28, u29, u30, u31, u32, u33, u34, u35, u36, u37, u38, u39, u40, u41, u42, u43, u44, u45, u46, u47, u48, u49, u50, u51, u52, u53, u54, u55, rfl, rfl, hsx, hxn, hgr, hrow, hown, hmk⟩
      have hlW : w0.heap.size ≤ W.heap.size := hgr.size
      have hF := F0.out.keep (R := R) (by omega) hord hgr
      have hcv := hF.bv.cell
      by_cases hlt : x < n
      · have hcx := hrow.cell hlt
        have hx0 : (0 : Int) ≤ (x : Int) := by omega
        have hx1 : (x : Int) < (n : Int) := by omega
        replace hcx : W.cell? ⟨R, x, none⟩ = some (.bool (pr x)) := by
          rw [HPR.out]
          have h : W.cell? ⟨R, x, none⟩ = some (.bool (rq ls s x [] (x : Int))) := hcx
          rwa [rq_low HS.out.g (Int.le_refl _)] at h
        have HX := Lib.hid (And.intro hgr (And.intro hrow (And.intro hown hmk)))
        have hlen8 := selN_len x pr
        cases hp : pr x with
        | false =>
          rw [hp] at hcx
          have HP := Lib.hid hp
          have HRC := Lib.hid ((HPR.out x).symm.trans hp)
          clear hp hgr hrow hown hmk hF
          gi_wp2_with fail
          refine ⟨n - (x + 1), by omega, x + 1, nv, l, _, _, _, _, _, _, _, _, _, _, _, _, _, _, _, _, _, _, _, _, _, _, _, _, _, _, _, _, _, _, _, _, _, _, _, _, _, _, _, _, _, _, _, rfl, rfl, by omega, by omega, HX.out.1, HX.out.2.1.congr fun j hj => ?_, ?_, HX.out.2.2.2⟩
          · show Value.bool (rq ls s x [] j) = Value.bool (rq ls s ((x + 1 : Nat) : Int) [] j)
            rw [show ((x + 1 : Nat) : Int) = (x : Int) + 1 by omega, ← rq_skip HRC.out]
          · rw [selN_succ, if_neg (by rw [HP.out]; simp)]; exact HX.out.2.2.1
        | true =>
          rw [hp] at hcx
          have HP := Lib.hid hp
          have HRC := Lib.hid ((HPR.out x).symm.trans hp)
          clear hp hgr hrow hown hmk hF
          gi_wp2_with (gi_at_builtin; refine wpListIn_append_lies _ rfl _ _ 23 rfl w0.heap.size 3 i0 (.int .i64 0) 1 8 Try.underlying23 hi0 hz0 hz1 hz2 rfl (by decide) _ _ _ rfl (HX.out.2.2.1.alloc _) ⟨W.heap.size, 0, none⟩ 1 1 [intV x] rfl rfl (cell_one_new _ _ _) (by simp [Value.oneCell']) (by decide) (by unfold maxLen; omega) (by omega) (by simp; omega) _ rfl ?_
                       intro g' cap' w5 hown5 hgrow5 hat5 hlt5
                       have hgr5 : w0.grownBy w5 (some R) := grown_far (grown_far HX.out.1 (World.grownBy_alloc W _ none) (by simp)) hgrow5 (fun r e => .inr (HX.out.2.2.1.lt r e).1)
                       have hrow5 : w5.rowIs R 4 n (rqV ls s x []) := (HX.out.2.1.alloc _).of_block (hgrow5.block R (by simp; omega) (fun e => by have := (HX.out.2.2.1.lt R e.symm).1; omega))
                       have hmk5 : Marks w0.heap.size l w5 := HX.out.2.2.2.keep ((KeepsOthers.alloc W _).trans (KeepsOthers.of_grownBy hgrow5 (own_cells (HX.out.2.2.1.alloc _))))
                       have hF5 := F0.out.keep (R := R) (by omega) hord hgr5
                       have hg0 := hF5.g0
                       have hg1 := hF5.g1
                       have H5 := Lib.hid (And.intro hgr5 (And.intro hrow5 (And.intro hmk5 (And.intro hF5 hown5))))
                       clear hgr5 hrow5 hmk5 hF5 hown5 hgrow5 hat5)
          refine (callsIn_wide.2 (leaving_any (.slice av ls.length cv) (.slice au n cu) rfl rfl x w5)).mono ?_
          rintro e w6 ⟨rfl, rfl⟩
          gi_wp2_with fail
          have hl5 := H5.out.1.size
          obtain ⟨W3, hW3⟩ : ∃ x', (w5.alloc (.cells #[.slice av ls.length cv, .slice au n cu] tyG)).alloc (.cells #[intV x] 3) = x' := ⟨_, rfl⟩
          have hs3 : W3.heap.size = w5.heap.size + 2 := by rw [← hW3]; simp
          have hg3 : w5.grownBy W3 none := by rw [← hW3]; exact grown_trans (World.grownBy_alloc _ _ _) (World.grownBy_alloc _ _ _)
          have c30 : W3.cell? ⟨w5.heap.size, 0, none⟩ = some (.slice av ls.length cv) := by rw [← hW3, World.cell?_alloc_lt _ _ _ (by simp), World.cell?_alloc_new]; rfl
          have c31 : W3.cell? ⟨w5.heap.size, 1, none⟩ = some (.slice au n cu) := by rw [← hW3, World.cell?_alloc_lt _ _ _ (by simp), World.cell?_alloc_new]; rfl
          have c32 : W3.cell? ⟨w5.heap.size + 1, 0, none⟩ = some (intV x) := by
            have := (Boxed.new (w5.alloc (.cells #[.slice av ls.length cv, .slice au n cu] tyG)) 3 (intV x)).cell
            rw [hW3] at this; simpa using this
          have hr3 : W3.rowIs R 4 n (rqV ls s x []) := H5.out.2.1.of_block (hg3.block R (by omega) (by simp))
          have hb3 : Below w2.heap.size w2 W3 := H5.out.2.2.2.1.below.trans (grown_below hg3 (by omega) (by simp))
          have hlv := leaving_stops n ls HS.out.g x hlt (.slice av ls.length cv) (.slice au n cu) w2 HV2.out HU.out w2.heap.size w5.heap.size (w5.heap.size + 1) rfl W3 hb3 (by omega) (by omega) c30 c31 c32
          rw [hW3]
          refine wpIn_rangeFunc_ownH rfl (by omega) (gf := 59) (lb := #[.pointer (some ⟨w5.heap.size, 0, none⟩), .pointer (some ⟨w5.heap.size + 1, 0, none⟩)]) rfl trivial Try.call59
            hlv (fun h k => h.trans k) (keptK_b (by omega) (by omega) (by omega)) (Below.refl _ _) (fun _ => rfl)
            (fun pre X => W3.grownBy X (some R) ∧ X.rowIs R 4 n (rqV ls s x (raw pre)))
            (fun _ _ _ => False)
            (fun pre X Y row h hg hr => ⟨grown_far h.1 hg (fun r e => .inr (hr r e).1), h.2.of_block (hg.block R h.2.lt (fun e => by have := (hr R e.symm).1; omega))⟩)
            (fun _ _ _ _ _ hs _ _ => hs)
            ⟨grown_refl _ _, hr3⟩
            (fun y a' X => ∃ B14 : Nat, W3.heap.size ≤ B14 ∧ X.heap[B14]? = some (.cells #[intV (lk ls y.1).f, intV (lk ls y.1).t, intV (lk ls y.1).c] 52 (0, 0)) ∧ ∃ t13 t15 t16 t17 t18 t19 t20 t21 t22 t23 t24 t25 t26 t27 t28 t29 t30 t31 t32 t33 t34 t35 t36 t37 t38 t39 t40 t41 t42 t43 t44 t45 t46 t47 t48 t49 t50 t51 t52 t53 t54 t55 : Value, a' = { tmps := #[intV (n : Int), Value.slice av ls.length cv, intV (s : Int), undef, undef, undef, Value.slice none 0 0, Value.int IntKind.i64 0, intV 0, Value.pointer (some ⟨G, 0, none⟩), Value.pointer (some ⟨BV, 0, none⟩), Value.slice (some ⟨g', 0, none⟩) ((selN x pr).length + 1) cap', intV (x : Int), t13, Value.pointer (some ⟨B14, 0, none⟩), t15, t16, t17, t18, t19, t20, t21, t22, t23, t24, t25, t26, t27, t28, t29, t30, t31, t32, t33, t34, t35, t36, t37, t38, t39, t40, t41, t42, t43, t44, t45, t46, t47, t48, t49, t50, t51, t52, t53, t54, t55], defers := [] })
            (fun y a' _ X Y row h hg hr => by
              obtain ⟨B14, h1, h2, h3⟩ := h
              exact ⟨B14, h1, (hg.block B14 (Array.getElem?_eq_some_iff.1 h2).1 (fun e => by obtain ⟨_, o, ho, hc⟩ := hr B14 e.symm; rw [h2] at ho; cases ho; cases hc)).trans h2, h3⟩)
            ?assign ?body ?done ?stop
          case assign =>
            intro l1 pre y X K hI hK
            have hX := hI.1.size
            gi_wp2
            exact hK _ _ ((KeepsOthers.alloc X _).from _) (Kept.of_below ((Below.refl _ X).alloc (Nat.le_refl _) _) (by have := hb3.size; omega) (by omega) (by omega)) ⟨grown_far hI.1 (World.grownBy_alloc X _ none) (by simp), hI.2.alloc _⟩ ⟨X.heap.size, hX, blk_alloc_new _ _, _, _, _, _, _, _, _, _, _, _, _, _, _, _, _, _, _, _, _, _, _, _, _, _, _, _, _, _, _, _, _, _, _, _, _, _, _, _, _, _, _, _, rfl⟩
          case body =>
            rintro l1 pre ⟨i, hio⟩ a' X hl1 hrec ⟨hgX, hrX⟩ ⟨B14, hB14, hk14, t13, t15, t16, t17, t18, t19, t20, t21, t22, t23, t24, t25, t26, t27, t28, t29, t30, t31, t32, t33, t34, t35, t36, t37, t38, t39, t40, t41, t42, t43, t44, t45, t46, t47, t48, t49, t50, t51, t52, t53, t54, t55, rfl⟩ hlen
            have HXX := Lib.hid (And.intro hgX hrX)
            have hX := hgX.size
            obtain ⟨hil, hif⟩ := mem_out.1 hio
            have hok := HS.out.g.lk hil
            obtain ⟨tt, htt⟩ : ∃ tt : Nat, (lk ls i).t = tt := ⟨(lk ls i).t.toNat, by have := hok.t0; omega⟩
            have htn : tt < n := by have := hok.t1; omega
            have hFX := (H5.out.2.2.2.1.keep (R := R) (by omega) hord (hg3.to_row (some R))).keep (R := R) (by omega) hord hgX
            have hcv2 := hFX.bv.cell
            have hl2 : X.cell? ⟨B14, 1, none⟩ = some (intV tt) := by simp [World.cell?, hk14, htt]
            have hrt := hrX.cell htn
            have hrf := hrX.frozen tt
            have ht0 : (0 : Int) ≤ (tt : Int) := by omega
            have ht1 : (tt : Int) < (n : Int) := by omega
            have HTT := Lib.hid htt
            have HIF := Lib.hid (And.intro hil hif)
            clear hFX hgX hrX hok htt hcv
            gi_wp2_with fail
            refine ⟨(KeepsOthers.setCell X _ _).from _, (Kept.refl G w5.heap.size (w5.heap.size + 1) X).setCell (p := ⟨R, tt, none⟩) (by show G ≤ R; omega) (by show R ≠ w5.heap.size; omega) (by show R ≠ w5.heap.size + 1; omega) _, grown_trans HXX.out.1 (KeepsRow.set X R tt _), (HXX.out.2.set tt _).congr fun j hj => ?_⟩
            rw [raw_snoc]
            exact rqV_set HIF.out.1 HIF.out.2 HRC.out HTT.out j
          case done =>
            rintro D ys X hD hys ⟨hgX, hrX⟩ hKD
            have hX := hgX.size
            have HXX := Lib.hid (And.intro hgX hrX)
            have HKD := Lib.hid hKD
            clear hgX hrX
            gi_wp2_with fail
            refine ⟨n - (x + 1), by omega, x + 1, _, D :: l, _, _, _, _, _, _, _, _, _, _, _, _, _, _, _, _, _, _, _, _, _, _, _, _, _, _, _, _, _, _, _, _, _, _, _, _, _, _, _, _, _, _, _, rfl, rfl, by omega, by omega, ?_, ?_, ?_, ?_⟩
            · exact grown_far H5.out.1 (grown_trans (hg3.to_row (some R)) HXX.out.1) (fun r e => .inl e.symm)
            · refine HXX.out.2.congr fun j hj => ?_
              show Value.bool (rq ls s x (raw ys) j) = Value.bool (rq ls s ((x + 1 : Nat) : Int) [] j)
              rw [show ((x + 1 : Nat) : Int) = (x : Int) + 1 by omega, rq_next HRC.out, hys]
            · rw [selN_succ, if_pos HP.out, List.length_append, List.length_singleton]
              have h1 := (own_kept_none H5.out.2.2.2.2 hg3).kept HXX.out.1 (.inr (fun e => by
                have := (H5.out.2.2.2.2.lt _ e).1; omega))
              simpa [mapN] using h1
            · have hm3 : Marks w0.heap.size l W3 := H5.out.2.2.1.keep (KeepsOthers.of_grownBy hg3 (by simp))
              obtain ⟨cc, hcc, _⟩ := hr3
              have hmX : Marks w0.heap.size l X := hm3.keep (KeepsOthers.of_grownBy HXX.out.1 (fun j o e ho => by cases e; rw [hcc] at ho; cases ho; rfl))
              exact hmX.cons (by omega) HKD.out (fun h => by have := hm3.lt h; omega)
          case stop =>
            rintro D c pre X _ _ h _
            exact h.elim
      · obtain rfl : x = n := by omega
        have HIL := Lib.hid (fun W' hL => ints_left (W' := W') (B' := w0.heap.size) hown hL)
        have HFB := Lib.hid hF.below
        clear hrow hF hcv
        gi_wp2_with fail
        refine leaves_marks l W hmk fun W' hL => ?_
        refine ⟨_, results_tmp2 rfl _ _ _, ?_⟩
        exact ListPost.good HRL.out (HIL.out W' hL) ((HB2.out.trans (HFB.out.mono HB2.out.size)).trans (hL.below.mono (by have := HB2.out.size; omega)))
  · have hb : (q != 0) = true := by rw [bne_iff_ne]; exact h0
    go_enter Try.func26, Try.ntmps26
    go_wp2_with fail
    refine HC.out.mono ?_
    rintro e w1 ⟨rfl, hB⟩
    have HB1 := Lib.hid (below_then HBt.out hB)
    clear hB
    go_wp2
    go_ret2
    exact ListPost.good (HR.out.symm.trans (by rw [if_pos h0])) (IntsAt.empty _ _ _) HB1.out
end Go.Proofs.Ytipcelgoachjjaa
