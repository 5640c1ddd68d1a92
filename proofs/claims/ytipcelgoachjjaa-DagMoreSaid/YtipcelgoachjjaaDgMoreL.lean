/- The law DagMore, for links of any number that a machine holds. -/
import Derived.Deep.RegionLaw
import Derived.Deep.AppendLies
import Derived.Test.YtipcelgoachjjaaDgMoreC
namespace Go.Proofs.Ytipcelgoachjjaa
set_option linter.unusedSimpArgs false
set_option linter.unusedVariables false
set_option maxRecDepth 100000
open Go.RowKit Go.Deep

theorem link_news (W : World) (a b c : Value) (t : TypeId) (n : Nat) (h : n = W.heap.size) : ∀ j u, [a, b, c][j]? = some u → (W.alloc (.cells #[a, b, c] t)).cell? ((⟨n, 0, none⟩ : Addr).add j) = some u := by
  subst h
  exact fun j u hu => World.news_of_block (cs := #[a, b, c]) (Deep.blk_alloc_new _ _) j u hu
theorem own_snoc {W : World} {base : Nat} {v : Value} {ls : List LkV} {x : LkV} (h : W.ownsRow base 52 3 v (ls.length + 1) (cellsV ls ++ [intV x.f, intV x.t, intV x.c])) : LinksAt W v (ls ++ [x]) := by
  refine links_own (base := base) ?_
  rw [List.length_append, List.length_singleton, cellsV_app]
  exact h
theorem own_mono {W : World} {base base' : Nat} {e : TypeId} {size n : Nat} {v : Value} {xs : List Value} (h : W.ownsRow base e size v n xs) (hb : base' ≤ base) : W.ownsRow base' e size v n xs :=
  ⟨h.1, h.2.imp id fun ⟨g, cap, cur, h1, h2, h3⟩ => ⟨g, cap, cur, h1, Nat.le_trans hb h2, h3⟩⟩
theorem link_cells2 {W W2 : World} {t : TypeId} (a b c : Int) (hB : Below (W.alloc (.cells #[intV a, intV b, intV c] t)).heap.size (W.alloc (.cells #[intV a, intV b, intV c] t)) W2) : ∀ j u, [intV a, intV b, intV c][j]? = some u → W2.cell? ((⟨W.heap.size, 0, none⟩ : Addr).add j) = some u := fun j u hu => by
  have h := link_news W (intV a) (intV b) (intV c) t _ rfl j u hu
  rw [← h]
  exact hB.cell (by rw [add_block]; simp)
set_option maxHeartbeats 8000000 in
theorem dagMore_any (w : World) (n : Int) (v : Value) (ls : List LkV) (s t : Int) (x : LkV) (hv : LinksAt w v ls) (hl : ls.length * 24 ≤ 140737488351232) (hs : (Lit.int .u8 s).wf = true) (ht : (Lit.int .u8 t).wf = true) :
    Calls Try.prog 10 #[intV n, v, u8V s, u8V t, .agg #[intV x.f, intV x.t, intV x.c]] w fun e w' => e = .returned (.bool true) ∧ Below w.heap.size w w' := by
  obtain ⟨i0, hi, hz0, hz1, hz2⟩ := info_parts info_link
  have ht := wf_u8 ht
  have hs := wf_u8 hs
  obtain ⟨B9, hB9⟩ : ∃ y, w.heap.size = y := ⟨_, rfl⟩
  obtain ⟨w0, hw0⟩ : ∃ y, w.alloc (.cells #[intV x.f, intV x.t, intV x.c] 52) = y := ⟨_, rfl⟩
  have hb0 : Below w.heap.size w w0 := by rw [← hw0]; exact alloc_below _ _
  have hc0 : w0.cell? ⟨B9, 0, none⟩ = some (intV x.f) := by rw [← hw0, ← hB9, World.cell?_alloc_new]; rfl
  have hc1 : w0.cell? ⟨B9, 1, none⟩ = some (intV x.t) := by rw [← hw0, ← hB9, World.cell?_alloc_new]; rfl
  have hc2 : w0.cell? ⟨B9, 2, none⟩ = some (intV x.c) := by rw [← hw0, ← hB9, World.cell?_alloc_new]; rfl
  have hlt9 : B9 < w0.heap.size := by rw [← hw0]; simp; omega
  have HBX := Lib.hid (show ∀ W, Below w0.heap.size w0 W → W.cell? ⟨B9, 0, none⟩ = some (intV x.f) ∧ W.cell? ⟨B9, 1, none⟩ = some (intV x.t) ∧ W.cell? ⟨B9, 2, none⟩ = some (intV x.c) from fun W hB => ⟨(hB.cell (p := ⟨B9, 0, none⟩) hlt9).trans hc0, (hB.cell (p := ⟨B9, 1, none⟩) hlt9).trans hc1, (hB.cell (p := ⟨B9, 2, none⟩) hlt9).trans hc2⟩)
  have hv0 := hv.below hb0
  have HV := Lib.hid hv0
  have HB0 := Lib.hid hb0
  have hml : ls.length ≤ maxLen := by unfold maxLen; omega
  have hml2 : (ls ++ [x]).length ≤ maxLen := by unfold maxLen; simp; omega
  obtain ⟨xf, hxf⟩ : ∃ y, x.f = y := ⟨_, rfl⟩
  obtain ⟨xt, hxt⟩ : ∃ y, x.t = y := ⟨_, rfl⟩
  obtain ⟨xc, hxc⟩ : ∃ y, x.c = y := ⟨_, rfl⟩
  have HSN := Lib.hid (fun (W : World) (base : Nat) (v' : Value) (h : W.ownsRow base 52 3 v' (ls.length + 1) (cellsV ls ++ [intV x.f, intV x.t, intV x.c])) => own_snoc h)
  rw [hxf, hxt, hxc] at HBX HSN
  rw [hxf, hxt, hxc] at hw0 ⊢
  have HCL := Lib.hid (fun (W : World) (hW : LinksAt W v ls) => cloneL_any ls hl v W hW)
  have HM := Lib.hid hml2
  obtain ⟨av, cv, rfl⟩ := hv.slice
  have HY2 := Lib.hid (fun (h : okR n (ls ++ [x]) = true) (W : World) (v' : Value) (hW : LinksAt W v' (ls ++ [x])) => fine_yes n (ls ++ [x]) s t hs ht v' W hW HM.out h)
  have HN2' := Lib.hid (fun (h : okR n (ls ++ [x]) = false) (W : World) (v' : Value) (hW : LinksAt W v' (ls ++ [x])) => fine_no n (ls ++ [x]) s t hs ht v' W hW HM.out h)
  have HLEN := Lib.hid (show (ls ++ [x]).length = ls.length + 1 by simp)
  cases hok : okR n ls with
  | false =>
    have HF := Lib.hid (fine_no n ls s t hs ht _ w0 hv0 hml hok)
    cases hok2 : okR n (ls ++ [x]) with
    | false =>
      have HFM := Lib.hid (HN2'.out hok2)
      clear hok hok2 hv hs ht hb0 hv0 hlt9 hc0 hc1 hc2 hxf hxt hxc
      go_enter Try.func10, Try.ntmps10
      go_wp2_with fail
      refine HF.out.mono ?_
      rintro e w1 ⟨rfl, b1⟩
      have B1 := Lib.hid b1
      clear b1
      have HV1 := Lib.hid (HV.out.below B1.out)
      have HV1A := Lib.hid (HV1.out.below (alloc_below w1 (.cells #[intV xf, intV xt, intV xc] 52)))
      obtain ⟨hx10, hx11, hx12⟩ := HBX.out w1 B1.out
      go_wp2_with fail
      go_region_law (first
        | ((try go_simp); go_at_call 38; refine (HCL.out w1.drew HV1.out).mono ?_; rintro e w2 ⟨vc, rfl, hown2, b2⟩; have HO2 := Lib.hid (show w2.ownsRow w1.heap.size 52 3 vc ls.length (cellsV ls) from hown2); have HB2 := Lib.hid (show Below w1.heap.size w1 w2 from (below_drew1 _ w1).trans b2); have hx2 := HBX.out w2 (below_then B1.out HB2.out); obtain ⟨hx20, hx21, hx22⟩ := hx2; clear hown2 b2)
        | ((try go_simp); go_at_call 38; refine (HCL.out (w1.alloc (.cells #[intV xf, intV xt, intV xc] 52)).drew HV1A.out).mono ?_; rintro e w2 ⟨vc, rfl, hown2, b2⟩; have HO2 := Lib.hid (show w2.ownsRow w1.heap.size 52 3 vc ls.length (cellsV ls) from own_mono hown2 (by show w1.heap.size ≤ (w1.alloc _).heap.size; simp)); have HB2 := Lib.hid (show Below w1.heap.size w1 w2 from (alloc_below w1 (.cells #[intV xf, intV xt, intV xc] 52)).trans (((below_drew1 _ _).trans b2).mono (by show w1.heap.size ≤ (w1.alloc _).heap.size; simp))); have hn2 := link_cells2 (W := w1) (W2 := w2) (t := 52) xf xt xc ((below_drew1 _ _).trans b2); have hx2 := HBX.out w2 (below_then B1.out HB2.out); obtain ⟨hx20, hx21, hx22⟩ := hx2; have HN2 := Lib.hid hn2; clear hown2 b2 hn2)
        | (refine step_append_lies _ rfl _ _ 22 rfl w1.heap.size 52 i0 (.agg #[.int .i64 0, .int .i64 0, .int .i64 0]) 3 24 Try.underlying22 hi hz0 hz1 hz2 rfl (by decide) _ _ _ rfl (HO2.out.alloc _) ⟨w2.heap.size, 0, none⟩ 1 1 [intV xf, intV xt, intV xc] rfl rfl (link_news _ _ _ _ _ _ rfl) (by simp [Value.oneCell']) (by decide) (by unfold maxLen; omega) (by omega) (by have := HB2.out.size; simp; omega) _ rfl ?_; intro g' cap' w3 hown3 hgrow3 hat3 hlt3; have HL3 := Lib.hid (HSN.out w3 _ _ hown3); have HB3 := Lib.hid ((HB2.out.alloc HB2.out.size _).grown hgrow3 (by have := HB2.out.size; simp; omega) (fun k e => (HO2.out.lt k e).1)); clear hown3 hgrow3 hat3 hlt3)
        | (refine step_append_lies _ rfl _ _ 22 rfl w1.heap.size 52 i0 (.agg #[.int .i64 0, .int .i64 0, .int .i64 0]) 3 24 Try.underlying22 hi hz0 hz1 hz2 rfl (by decide) _ _ _ rfl HO2.out ⟨w1.heap.size, 0, none⟩ 1 1 [intV xf, intV xt, intV xc] rfl rfl HN2.out (by simp [Value.oneCell']) (by decide) (by unfold maxLen; omega) (by omega) HB2.out.size _ rfl ?_; intro g' cap' w3 hown3 hgrow3 hat3 hlt3; have HL3 := Lib.hid (HSN.out w3 _ _ hown3); have HB3 := Lib.hid (HB2.out.grown hgrow3 HB2.out.size (fun k e => (HO2.out.lt k e).1)); clear hown3 hgrow3 hat3 hlt3))
      all_goals
        simp only [List.getElem_toArray, List.getElem_cons_succ, List.getElem_cons_zero, Act.put, List.setIfInBounds_toArray, List.set_cons_zero, List.set_cons_succ]
        have B3 := Lib.hid (below_then B1.out HB3.out)
        clear hx10 hx11 hx12 hx20 hx21 hx22
        go_wp2_with fail
        refine (HFM.out w3 _ HL3.out).mono ?_
        rintro e w4 ⟨rfl, b4⟩
        have B4 := Lib.hid (below_then B3.out b4)
        clear b4
        go_wp2_with fail
        refine (awake_any _).mono ?_
        rintro e w5 ⟨rfl, b5⟩
        have B5 := Lib.hid (below_then HB0.out (below_then B4.out b5))
        clear b5
        go_wp2
        go_ret
        exact ⟨rfl, by first | exact B5.out | (rw [hB9] at B5; exact B5.out)⟩
    | true =>
      have HFM := Lib.hid (HY2.out hok2)
      clear hok hok2 hv hs ht hb0 hv0 hlt9 hc0 hc1 hc2 hxf hxt hxc
      go_enter Try.func10, Try.ntmps10
      go_wp2_with fail
      refine HF.out.mono ?_
      rintro e w1 ⟨rfl, b1⟩
      have B1 := Lib.hid b1
      clear b1
      have HV1 := Lib.hid (HV.out.below B1.out)
      have HV1A := Lib.hid (HV1.out.below (alloc_below w1 (.cells #[intV xf, intV xt, intV xc] 52)))
      obtain ⟨hx10, hx11, hx12⟩ := HBX.out w1 B1.out
      go_wp2_with fail
      go_region_law (first
        | ((try go_simp); go_at_call 38; refine (HCL.out w1.drew HV1.out).mono ?_; rintro e w2 ⟨vc, rfl, hown2, b2⟩; have HO2 := Lib.hid (show w2.ownsRow w1.heap.size 52 3 vc ls.length (cellsV ls) from hown2); have HB2 := Lib.hid (show Below w1.heap.size w1 w2 from (below_drew1 _ w1).trans b2); have hx2 := HBX.out w2 (below_then B1.out HB2.out); obtain ⟨hx20, hx21, hx22⟩ := hx2; clear hown2 b2)
        | ((try go_simp); go_at_call 38; refine (HCL.out (w1.alloc (.cells #[intV xf, intV xt, intV xc] 52)).drew HV1A.out).mono ?_; rintro e w2 ⟨vc, rfl, hown2, b2⟩; have HO2 := Lib.hid (show w2.ownsRow w1.heap.size 52 3 vc ls.length (cellsV ls) from own_mono hown2 (by show w1.heap.size ≤ (w1.alloc _).heap.size; simp)); have HB2 := Lib.hid (show Below w1.heap.size w1 w2 from (alloc_below w1 (.cells #[intV xf, intV xt, intV xc] 52)).trans (((below_drew1 _ _).trans b2).mono (by show w1.heap.size ≤ (w1.alloc _).heap.size; simp))); have hn2 := link_cells2 (W := w1) (W2 := w2) (t := 52) xf xt xc ((below_drew1 _ _).trans b2); have hx2 := HBX.out w2 (below_then B1.out HB2.out); obtain ⟨hx20, hx21, hx22⟩ := hx2; have HN2 := Lib.hid hn2; clear hown2 b2 hn2)
        | (refine step_append_lies _ rfl _ _ 22 rfl w1.heap.size 52 i0 (.agg #[.int .i64 0, .int .i64 0, .int .i64 0]) 3 24 Try.underlying22 hi hz0 hz1 hz2 rfl (by decide) _ _ _ rfl (HO2.out.alloc _) ⟨w2.heap.size, 0, none⟩ 1 1 [intV xf, intV xt, intV xc] rfl rfl (link_news _ _ _ _ _ _ rfl) (by simp [Value.oneCell']) (by decide) (by unfold maxLen; omega) (by omega) (by have := HB2.out.size; simp; omega) _ rfl ?_; intro g' cap' w3 hown3 hgrow3 hat3 hlt3; have HL3 := Lib.hid (HSN.out w3 _ _ hown3); have HB3 := Lib.hid ((HB2.out.alloc HB2.out.size _).grown hgrow3 (by have := HB2.out.size; simp; omega) (fun k e => (HO2.out.lt k e).1)); clear hown3 hgrow3 hat3 hlt3)
        | (refine step_append_lies _ rfl _ _ 22 rfl w1.heap.size 52 i0 (.agg #[.int .i64 0, .int .i64 0, .int .i64 0]) 3 24 Try.underlying22 hi hz0 hz1 hz2 rfl (by decide) _ _ _ rfl HO2.out ⟨w1.heap.size, 0, none⟩ 1 1 [intV xf, intV xt, intV xc] rfl rfl HN2.out (by simp [Value.oneCell']) (by decide) (by unfold maxLen; omega) (by omega) HB2.out.size _ rfl ?_; intro g' cap' w3 hown3 hgrow3 hat3 hlt3; have HL3 := Lib.hid (HSN.out w3 _ _ hown3); have HB3 := Lib.hid (HB2.out.grown hgrow3 HB2.out.size (fun k e => (HO2.out.lt k e).1)); clear hown3 hgrow3 hat3 hlt3))
      all_goals
        simp only [List.getElem_toArray, List.getElem_cons_succ, List.getElem_cons_zero, Act.put, List.setIfInBounds_toArray, List.set_cons_zero, List.set_cons_succ]
        have B3 := Lib.hid (below_then B1.out HB3.out)
        clear hx10 hx11 hx12 hx20 hx21 hx22
        go_wp2_with fail
        refine (HFM.out w3 _ HL3.out).mono ?_
        rintro e w4 ⟨rfl, b4⟩
        have B4 := Lib.hid (below_then B3.out b4)
        clear b4
        go_wp2_with fail
        refine (awake_any _).mono ?_
        rintro e w5 ⟨rfl, b5⟩
        have B5 := Lib.hid (below_then HB0.out (below_then B4.out b5))
        clear b5
        go_wp2
        go_ret
        exact ⟨rfl, by first | exact B5.out | (rw [hB9] at B5; exact B5.out)⟩
  | true =>
    have HF := Lib.hid (fine_yes n ls s t hs ht _ w0 hv0 hml hok)
    cases hok2 : okR n (ls ++ [x]) with
    | false =>
      have HFM := Lib.hid (HN2'.out hok2)
      clear hok hok2 hv hs ht hb0 hv0 hlt9 hc0 hc1 hc2 hxf hxt hxc
      go_enter Try.func10, Try.ntmps10
      go_wp2_with fail
      refine HF.out.mono ?_
      rintro e w1 ⟨rfl, b1⟩
      have B1 := Lib.hid b1
      clear b1
      have HV1 := Lib.hid (HV.out.below B1.out)
      have HV1A := Lib.hid (HV1.out.below (alloc_below w1 (.cells #[intV xf, intV xt, intV xc] 52)))
      obtain ⟨hx10, hx11, hx12⟩ := HBX.out w1 B1.out
      go_wp2_with fail
      go_region_law (first
        | ((try go_simp); go_at_call 38; refine (HCL.out w1.drew HV1.out).mono ?_; rintro e w2 ⟨vc, rfl, hown2, b2⟩; have HO2 := Lib.hid (show w2.ownsRow w1.heap.size 52 3 vc ls.length (cellsV ls) from hown2); have HB2 := Lib.hid (show Below w1.heap.size w1 w2 from (below_drew1 _ w1).trans b2); have hx2 := HBX.out w2 (below_then B1.out HB2.out); obtain ⟨hx20, hx21, hx22⟩ := hx2; clear hown2 b2)
        | ((try go_simp); go_at_call 38; refine (HCL.out (w1.alloc (.cells #[intV xf, intV xt, intV xc] 52)).drew HV1A.out).mono ?_; rintro e w2 ⟨vc, rfl, hown2, b2⟩; have HO2 := Lib.hid (show w2.ownsRow w1.heap.size 52 3 vc ls.length (cellsV ls) from own_mono hown2 (by show w1.heap.size ≤ (w1.alloc _).heap.size; simp)); have HB2 := Lib.hid (show Below w1.heap.size w1 w2 from (alloc_below w1 (.cells #[intV xf, intV xt, intV xc] 52)).trans (((below_drew1 _ _).trans b2).mono (by show w1.heap.size ≤ (w1.alloc _).heap.size; simp))); have hn2 := link_cells2 (W := w1) (W2 := w2) (t := 52) xf xt xc ((below_drew1 _ _).trans b2); have hx2 := HBX.out w2 (below_then B1.out HB2.out); obtain ⟨hx20, hx21, hx22⟩ := hx2; have HN2 := Lib.hid hn2; clear hown2 b2 hn2)
        | (refine step_append_lies _ rfl _ _ 22 rfl w1.heap.size 52 i0 (.agg #[.int .i64 0, .int .i64 0, .int .i64 0]) 3 24 Try.underlying22 hi hz0 hz1 hz2 rfl (by decide) _ _ _ rfl (HO2.out.alloc _) ⟨w2.heap.size, 0, none⟩ 1 1 [intV xf, intV xt, intV xc] rfl rfl (link_news _ _ _ _ _ _ rfl) (by simp [Value.oneCell']) (by decide) (by unfold maxLen; omega) (by omega) (by have := HB2.out.size; simp; omega) _ rfl ?_; intro g' cap' w3 hown3 hgrow3 hat3 hlt3; have HL3 := Lib.hid (HSN.out w3 _ _ hown3); have HB3 := Lib.hid ((HB2.out.alloc HB2.out.size _).grown hgrow3 (by have := HB2.out.size; simp; omega) (fun k e => (HO2.out.lt k e).1)); clear hown3 hgrow3 hat3 hlt3)
        | (refine step_append_lies _ rfl _ _ 22 rfl w1.heap.size 52 i0 (.agg #[.int .i64 0, .int .i64 0, .int .i64 0]) 3 24 Try.underlying22 hi hz0 hz1 hz2 rfl (by decide) _ _ _ rfl HO2.out ⟨w1.heap.size, 0, none⟩ 1 1 [intV xf, intV xt, intV xc] rfl rfl HN2.out (by simp [Value.oneCell']) (by decide) (by unfold maxLen; omega) (by omega) HB2.out.size _ rfl ?_; intro g' cap' w3 hown3 hgrow3 hat3 hlt3; have HL3 := Lib.hid (HSN.out w3 _ _ hown3); have HB3 := Lib.hid (HB2.out.grown hgrow3 HB2.out.size (fun k e => (HO2.out.lt k e).1)); clear hown3 hgrow3 hat3 hlt3))
      all_goals
        simp only [List.getElem_toArray, List.getElem_cons_succ, List.getElem_cons_zero, Act.put, List.setIfInBounds_toArray, List.set_cons_zero, List.set_cons_succ]
        have B3 := Lib.hid (below_then B1.out HB3.out)
        clear hx10 hx11 hx12 hx20 hx21 hx22
        go_wp2_with fail
        refine (HFM.out w3 _ HL3.out).mono ?_
        rintro e w4 ⟨rfl, b4⟩
        have B4 := Lib.hid (below_then B3.out b4)
        clear b4
        go_wp2_with fail
        refine (awake_any _).mono ?_
        rintro e w5 ⟨rfl, b5⟩
        have B5 := Lib.hid (below_then HB0.out (below_then B4.out b5))
        clear b5
        go_wp2
        go_ret
        exact ⟨rfl, by first | exact B5.out | (rw [hB9] at B5; exact B5.out)⟩
    | true =>
      have HFM := Lib.hid (HY2.out hok2)
      obtain ⟨hgr, hc⟩ := okR_spec hok
      obtain ⟨hgr2, hc'⟩ := okR_spec hok2
      have hb := node_of hc ht
      have ha := node_of hc hs
      obtain ⟨m, rfl, hsm⟩ := small_of hgr hc
      obtain ⟨k, hk, hkm⟩ := nat_of hb
      obtain ⟨j, hj, hjm⟩ := nat_of ha
      rw [hk] at hb HF HFM
      rw [hj] at ha HF HFM
      have hg2 := gr_of hc'
      have HS1 := Lib.hid (sho_ok hc ha hb)
      have HS2 := Lib.hid (sho_ok hc' ha hb)
      have HL1 := Lib.hid (lon_ok hc ha hb)
      have HL2 := Lib.hid (lon_ok hc' ha hb)
      have HC1 := Lib.hid (cnt_ok hc ha hb)
      have HC2 := Lib.hid (cnt_ok hc' ha hb)
      have HGR := Lib.hid hgr
      have HGR2 := Lib.hid hgr2
      have hmn := more_n hsm.g hg2 (k : Int) (j : Int)
      have hml3 := more_least hsm.g hg2 (k : Int) (j : Int)
      have hmm := more_most hsm.g hg2 (k : Int) (j : Int)
      have hlh := low_high hsm.g (t := (k : Int)) (s := (j : Int))
      have hlh2 := low_high hg2 (t := (k : Int)) (s := (j : Int))
      obtain ⟨N1, hN1⟩ : ∃ y, npaths ls k j = y := ⟨_, rfl⟩
      obtain ⟨N2, hN2⟩ : ∃ y, npaths (ls ++ [x]) k j = y := ⟨_, rfl⟩
      obtain ⟨D1, hD1⟩ : ∃ y, least ls k j = y := ⟨_, rfl⟩
      obtain ⟨D2, hD2⟩ : ∃ y, least (ls ++ [x]) k j = y := ⟨_, rfl⟩
      obtain ⟨M1, hM1⟩ : ∃ y, most ls k j = y := ⟨_, rfl⟩
      obtain ⟨M2, hM2⟩ : ∃ y, most (ls ++ [x]) k j = y := ⟨_, rfl⟩
      rw [hN1] at hmn HC1
      rw [hN2] at hmn HC2
      rw [hD1] at hml3 hmm hlh HS1
      rw [hD2] at hml3 hlh2 HS2
      rw [hM1] at hmm hlh HL1
      rw [hM2] at hmm hlh2 HL2
      have hnn : ¬ (N2 : Int) < (N1 : Int) := by omega
      clear hN1 hN2 hD1 hD2 hM1 hM2 hmn hok hok2 hgr hgr2 hc hc' hb ha hk hj hsm hg2 hv hs ht hb0 hv0 hlt9 hc0 hc1 hc2 hxf hxt hxc
      by_cases h1 : D1 = -1
      · have HH1 := Lib.hid h1
        have HM1 := Lib.hid (show M1 = -1 by rcases hlh with h | h <;> omega)
        obtain ⟨r2, hr2⟩ : ∃ y, shoR m (ls ++ [x]) j k = y := ⟨_, rfl⟩
        obtain ⟨o2, ho2⟩ : ∃ y, lonR m (ls ++ [x]) j k = y := ⟨_, rfl⟩
        have HR2 := Lib.hid hr2
        have HO2' := Lib.hid ho2
        obtain ⟨rl2, rc2, re2⟩ := r2
        obtain ⟨oa2, oe2⟩ := o2
        clear h1 hml3 hmm hlh hlh2 hr2 ho2
        go_enter Try.func10, Try.ntmps10
        go_wp2_with fail
        refine HF.out.mono ?_
        rintro e w1 ⟨rfl, b1⟩
        have B1 := Lib.hid b1
        clear b1
        have HV1 := Lib.hid (HV.out.below B1.out)
        have HV1A := Lib.hid (HV1.out.below (alloc_below w1 (.cells #[intV xf, intV xt, intV xc] 52)))
        obtain ⟨hx10, hx11, hx12⟩ := HBX.out w1 B1.out
        go_wp2_with fail
        go_region_law (first
          | ((try go_simp); go_at_call 38; refine (HCL.out w1.drew HV1.out).mono ?_; rintro e w2 ⟨vc, rfl, hown2, b2⟩; have HO2 := Lib.hid (show w2.ownsRow w1.heap.size 52 3 vc ls.length (cellsV ls) from hown2); have HB2 := Lib.hid (show Below w1.heap.size w1 w2 from (below_drew1 _ w1).trans b2); have hx2 := HBX.out w2 (below_then B1.out HB2.out); obtain ⟨hx20, hx21, hx22⟩ := hx2; clear hown2 b2)
          | ((try go_simp); go_at_call 38; refine (HCL.out (w1.alloc (.cells #[intV xf, intV xt, intV xc] 52)).drew HV1A.out).mono ?_; rintro e w2 ⟨vc, rfl, hown2, b2⟩; have HO2 := Lib.hid (show w2.ownsRow w1.heap.size 52 3 vc ls.length (cellsV ls) from own_mono hown2 (by show w1.heap.size ≤ (w1.alloc _).heap.size; simp)); have HB2 := Lib.hid (show Below w1.heap.size w1 w2 from (alloc_below w1 (.cells #[intV xf, intV xt, intV xc] 52)).trans (((below_drew1 _ _).trans b2).mono (by show w1.heap.size ≤ (w1.alloc _).heap.size; simp))); have hn2 := link_cells2 (W := w1) (W2 := w2) (t := 52) xf xt xc ((below_drew1 _ _).trans b2); have hx2 := HBX.out w2 (below_then B1.out HB2.out); obtain ⟨hx20, hx21, hx22⟩ := hx2; have HN2 := Lib.hid hn2; clear hown2 b2 hn2)
          | (refine step_append_lies _ rfl _ _ 22 rfl w1.heap.size 52 i0 (.agg #[.int .i64 0, .int .i64 0, .int .i64 0]) 3 24 Try.underlying22 hi hz0 hz1 hz2 rfl (by decide) _ _ _ rfl (HO2.out.alloc _) ⟨w2.heap.size, 0, none⟩ 1 1 [intV xf, intV xt, intV xc] rfl rfl (link_news _ _ _ _ _ _ rfl) (by simp [Value.oneCell']) (by decide) (by unfold maxLen; omega) (by omega) (by have := HB2.out.size; simp; omega) _ rfl ?_; intro g' cap' w3 hown3 hgrow3 hat3 hlt3; have HL3 := Lib.hid (HSN.out w3 _ _ hown3); have HB3 := Lib.hid ((HB2.out.alloc HB2.out.size _).grown hgrow3 (by have := HB2.out.size; simp; omega) (fun k e => (HO2.out.lt k e).1)); clear hown3 hgrow3 hat3 hlt3)
          | (refine step_append_lies _ rfl _ _ 22 rfl w1.heap.size 52 i0 (.agg #[.int .i64 0, .int .i64 0, .int .i64 0]) 3 24 Try.underlying22 hi hz0 hz1 hz2 rfl (by decide) _ _ _ rfl HO2.out ⟨w1.heap.size, 0, none⟩ 1 1 [intV xf, intV xt, intV xc] rfl rfl HN2.out (by simp [Value.oneCell']) (by decide) (by unfold maxLen; omega) (by omega) HB2.out.size _ rfl ?_; intro g' cap' w3 hown3 hgrow3 hat3 hlt3; have HL3 := Lib.hid (HSN.out w3 _ _ hown3); have HB3 := Lib.hid (HB2.out.grown hgrow3 HB2.out.size (fun k e => (HO2.out.lt k e).1)); clear hown3 hgrow3 hat3 hlt3))
        all_goals
          simp only [List.getElem_toArray, List.getElem_cons_succ, List.getElem_cons_zero, Act.put, List.setIfInBounds_toArray, List.set_cons_zero, List.set_cons_succ]
          have B3 := Lib.hid (below_then B1.out HB3.out)
          clear hx10 hx11 hx12 hx20 hx21 hx22
          go_wp2_with fail
          refine (HFM.out w3 _ HL3.out).mono ?_
          rintro e w4 ⟨rfl, b4⟩
          have B4 := Lib.hid (below_then B3.out b4)
          have L4 := Lib.hid (HL3.out.below b4)
          clear b4
          go_wp2_with fail
          refine (Shortest_any m ls j k _ w4 (HV.out.below B4.out) HGR.out ([], 0, 6) (by rw [HS1.out, if_pos HH1.out])).mono ?_
          rintro e w5 ⟨v5, rfl, i5, b5⟩
          have B5 := Lib.hid (below_then B4.out b5)
          have L5 := Lib.hid (L4.out.below b5)
          obtain ⟨a5, c5, rfl⟩ := i5.slice
          clear b5 i5
          go_wp2_with fail
          refine (Shortest_any m (ls ++ [x]) j k _ w5 L5.out HGR2.out (rl2, rc2, re2) HR2.out).mono ?_
          rintro e w6 ⟨v6, rfl, i6, b6⟩
          have B6 := Lib.hid (below_then B5.out b6)
          have L6 := Lib.hid (L5.out.below b6)
          obtain ⟨a6, c6, rfl⟩ := i6.slice
          clear b6 i6
          go_wp2_with fail
          refine (Longest_any m ls j k _ w6 (HV.out.below B6.out) HGR.out (0, 6) (by rw [HL1.out, if_pos HM1.out])).mono ?_
          rintro e w7 ⟨rfl, b7⟩
          have B7 := Lib.hid (below_then B6.out b7)
          have L7 := Lib.hid (L6.out.below b7)
          clear b7
          go_wp2_with fail
          refine (Longest_any m (ls ++ [x]) j k _ w7 L7.out HGR2.out (oa2, oe2) HO2'.out).mono ?_
          rintro e w8 ⟨rfl, b8⟩
          have B8 := Lib.hid (below_then B7.out b8)
          have L8 := Lib.hid (L7.out.below b8)
          clear b8
          go_wp2_with fail
          refine (Count_any m ls j k _ w8 (HV.out.below B8.out) HGR.out _ HC1.out).mono ?_
          rintro e w9 ⟨rfl, b9⟩
          have B9' := Lib.hid (below_then B8.out b9)
          have L9 := Lib.hid (L8.out.below b9)
          clear b9
          go_wp2_with fail
          refine (Count_any m (ls ++ [x]) j k _ w9 L9.out HGR2.out _ HC2.out).mono ?_
          rintro e w10 ⟨rfl, b10⟩
          have B10 := Lib.hid (below_then B9'.out b10)
          clear b10
          go_wp2_with fail
          refine (awake_any _).mono ?_
          rintro e w11 ⟨rfl, b11⟩
          have B11 := Lib.hid (below_then HB0.out (below_then B10.out b11))
          clear b11
          go_wp2
          go_ret
          exact ⟨rfl, by first | exact B11.out | (rw [hB9] at B11; exact B11.out)⟩
      · have HH1 := Lib.hid h1
        have HM1 := Lib.hid (show M1 ≠ -1 by rcases hlh with h | h <;> omega)
        have HH2 := Lib.hid (hml3 h1).1
        have HM2 := Lib.hid (show M2 ≠ -1 by have := (hml3 h1).1; rcases hlh2 with h | h <;> omega)
        have hle1 : D2 ≤ D1 := (hml3 h1).2
        have hle2 : M1 ≤ M2 := hmm h1
        clear h1 hml3 hmm hlh hlh2
        go_enter Try.func10, Try.ntmps10
        go_wp2_with fail
        refine HF.out.mono ?_
        rintro e w1 ⟨rfl, b1⟩
        have B1 := Lib.hid b1
        clear b1
        have HV1 := Lib.hid (HV.out.below B1.out)
        have HV1A := Lib.hid (HV1.out.below (alloc_below w1 (.cells #[intV xf, intV xt, intV xc] 52)))
        obtain ⟨hx10, hx11, hx12⟩ := HBX.out w1 B1.out
        go_wp2_with fail
        go_region_law (first
          | ((try go_simp); go_at_call 38; refine (HCL.out w1.drew HV1.out).mono ?_; rintro e w2 ⟨vc, rfl, hown2, b2⟩; have HO2 := Lib.hid (show w2.ownsRow w1.heap.size 52 3 vc ls.length (cellsV ls) from hown2); have HB2 := Lib.hid (show Below w1.heap.size w1 w2 from (below_drew1 _ w1).trans b2); have hx2 := HBX.out w2 (below_then B1.out HB2.out); obtain ⟨hx20, hx21, hx22⟩ := hx2; clear hown2 b2)
          | ((try go_simp); go_at_call 38; refine (HCL.out (w1.alloc (.cells #[intV xf, intV xt, intV xc] 52)).drew HV1A.out).mono ?_; rintro e w2 ⟨vc, rfl, hown2, b2⟩; have HO2 := Lib.hid (show w2.ownsRow w1.heap.size 52 3 vc ls.length (cellsV ls) from own_mono hown2 (by show w1.heap.size ≤ (w1.alloc _).heap.size; simp)); have HB2 := Lib.hid (show Below w1.heap.size w1 w2 from (alloc_below w1 (.cells #[intV xf, intV xt, intV xc] 52)).trans (((below_drew1 _ _).trans b2).mono (by show w1.heap.size ≤ (w1.alloc _).heap.size; simp))); have hn2 := link_cells2 (W := w1) (W2 := w2) (t := 52) xf xt xc ((below_drew1 _ _).trans b2); have hx2 := HBX.out w2 (below_then B1.out HB2.out); obtain ⟨hx20, hx21, hx22⟩ := hx2; have HN2 := Lib.hid hn2; clear hown2 b2 hn2)
          | (refine step_append_lies _ rfl _ _ 22 rfl w1.heap.size 52 i0 (.agg #[.int .i64 0, .int .i64 0, .int .i64 0]) 3 24 Try.underlying22 hi hz0 hz1 hz2 rfl (by decide) _ _ _ rfl (HO2.out.alloc _) ⟨w2.heap.size, 0, none⟩ 1 1 [intV xf, intV xt, intV xc] rfl rfl (link_news _ _ _ _ _ _ rfl) (by simp [Value.oneCell']) (by decide) (by unfold maxLen; omega) (by omega) (by have := HB2.out.size; simp; omega) _ rfl ?_; intro g' cap' w3 hown3 hgrow3 hat3 hlt3; have HL3 := Lib.hid (HSN.out w3 _ _ hown3); have HB3 := Lib.hid ((HB2.out.alloc HB2.out.size _).grown hgrow3 (by have := HB2.out.size; simp; omega) (fun k e => (HO2.out.lt k e).1)); clear hown3 hgrow3 hat3 hlt3)
          | (refine step_append_lies _ rfl _ _ 22 rfl w1.heap.size 52 i0 (.agg #[.int .i64 0, .int .i64 0, .int .i64 0]) 3 24 Try.underlying22 hi hz0 hz1 hz2 rfl (by decide) _ _ _ rfl HO2.out ⟨w1.heap.size, 0, none⟩ 1 1 [intV xf, intV xt, intV xc] rfl rfl HN2.out (by simp [Value.oneCell']) (by decide) (by unfold maxLen; omega) (by omega) HB2.out.size _ rfl ?_; intro g' cap' w3 hown3 hgrow3 hat3 hlt3; have HL3 := Lib.hid (HSN.out w3 _ _ hown3); have HB3 := Lib.hid (HB2.out.grown hgrow3 HB2.out.size (fun k e => (HO2.out.lt k e).1)); clear hown3 hgrow3 hat3 hlt3))
        all_goals
          simp only [List.getElem_toArray, List.getElem_cons_succ, List.getElem_cons_zero, Act.put, List.setIfInBounds_toArray, List.set_cons_zero, List.set_cons_succ]
          have B3 := Lib.hid (below_then B1.out HB3.out)
          clear hx10 hx11 hx12 hx20 hx21 hx22
          go_wp2_with fail
          refine (HFM.out w3 _ HL3.out).mono ?_
          rintro e w4 ⟨rfl, b4⟩
          have B4 := Lib.hid (below_then B3.out b4)
          have L4 := Lib.hid (HL3.out.below b4)
          clear b4
          go_wp2_with fail
          refine (Shortest_any m ls j k _ w4 (HV.out.below B4.out) HGR.out (toI (first ls k j), D1, 0) (by rw [HS1.out, if_neg HH1.out])).mono ?_
          rintro e w5 ⟨v5, rfl, i5, b5⟩
          have B5 := Lib.hid (below_then B4.out b5)
          have L5 := Lib.hid (L4.out.below b5)
          obtain ⟨a5, c5, rfl⟩ := i5.slice
          clear b5 i5
          go_wp2_with fail
          refine (Shortest_any m (ls ++ [x]) j k _ w5 L5.out HGR2.out (toI (first (ls ++ [x]) k j), D2, 0) (by rw [HS2.out, if_neg HH2.out])).mono ?_
          rintro e w6 ⟨v6, rfl, i6, b6⟩
          have B6 := Lib.hid (below_then B5.out b6)
          have L6 := Lib.hid (L5.out.below b6)
          obtain ⟨a6, c6, rfl⟩ := i6.slice
          clear b6 i6
          go_wp2_with fail
          refine (Longest_any m ls j k _ w6 (HV.out.below B6.out) HGR.out (M1, 0) (by rw [HL1.out, if_neg HM1.out])).mono ?_
          rintro e w7 ⟨rfl, b7⟩
          have B7 := Lib.hid (below_then B6.out b7)
          have L7 := Lib.hid (L6.out.below b7)
          clear b7
          go_wp2_with fail
          refine (Longest_any m (ls ++ [x]) j k _ w7 L7.out HGR2.out (M2, 0) (by rw [HL2.out, if_neg HM2.out])).mono ?_
          rintro e w8 ⟨rfl, b8⟩
          have B8 := Lib.hid (below_then B7.out b8)
          have L8 := Lib.hid (L7.out.below b8)
          clear b8
          go_wp2_with fail
          refine (Count_any m ls j k _ w8 (HV.out.below B8.out) HGR.out _ HC1.out).mono ?_
          rintro e w9 ⟨rfl, b9⟩
          have B9' := Lib.hid (below_then B8.out b9)
          have L9 := Lib.hid (L8.out.below b9)
          clear b9
          go_wp2_with fail
          refine (Count_any m (ls ++ [x]) j k _ w9 L9.out HGR2.out _ HC2.out).mono ?_
          rintro e w10 ⟨rfl, b10⟩
          have B10 := Lib.hid (below_then B9'.out b10)
          clear b10
          go_wp2_with fail
          refine (awake_any _).mono ?_
          rintro e w11 ⟨rfl, b11⟩
          have B11 := Lib.hid (below_then HB0.out (below_then B10.out b11))
          clear b11
          go_wp2
          go_ret
          exact ⟨rfl, by first | exact B11.out | (rw [hB9] at B11; exact B11.out)⟩
end Go.Proofs.Ytipcelgoachjjaa
