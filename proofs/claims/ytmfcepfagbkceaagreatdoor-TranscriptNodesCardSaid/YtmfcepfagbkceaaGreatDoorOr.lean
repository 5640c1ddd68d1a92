/- Stage 10 (transcript): TpTree TpParse, put together by merge10.py. -/
import Derived.Test.YtmfcepfagbkceaaGreatDoorOq
import Derived.Test.YtmfcepfagbkceaaGreatDoorOo
import Derived.Test.YtmfcepfagbkceaaGreatDoorOg
import Derived.Deep.CutRange
import Derived.Deep.CutBlock
namespace Go.Proofs.YtmfcepfagbkceaaGreatDoor
set_option linter.unusedSimpArgs false
set_option linter.unusedVariables false
set_option maxRecDepth 100000
open Go.RowKit Go.Shelf Go.Deep
theorem nodeOf_ok (x : Lx) (ok : okT x) (h3 : x.k ≠ 3) (hv : x.v.length ≤ 65536) (w : World) [T w] :
    Calls Tryz.prog 69 #[.agg #[intV x.k, sV x.n, sV x.v, intV x.o]] w fun e w' => e = .returned (.agg #[intV (hdX x).1, sV (hdX x).2.1, intV (hdX x).2.2, .slice none 0 0]) ∧ Below w.heap.size w w' := by
  rcases ok with ⟨h1, h2⟩ | h
  · obtain ⟨k, n, v, o⟩ := x
    obtain rfl : k = 1 := h1
    exact nodeOf_text n v o w
  · have hk : x.k = 2 ∨ x.k = 4 := by
      unfold goodT at h
      simp only [Bool.or_eq_true, Bool.and_eq_true, decide_eq_true_eq] at h
      rcases h with (h | h) | h
      · exact .inl h.1
      · exact absurd h.1 h3
      · exact .inr h.1
    exact nodeOfT_any x hk h hv w
structure TrI (w : World) (L : List Lx) (R : List (List Nd)) (j : Nat) (P : Nat → Prop) (hd : List (Int × Bs × Int)) (sl : List Value) (ls : List (List Nd)) (v : Value) (wr : World) : Prop where
  op : TOp wr w.heap.size P v hd sl ls
  ex : ∃ st, hd.length = st.length + 1 ∧ runS st (L.drop j) = (0, [])
  tr : tr hd.reverse ls.reverse (L.drop j) = R
  hb : ∀ h ∈ hd, HdB h
  lb : ∀ l ∈ ls, l.length ≤ j
  nb : hd.length ≤ j + 1
  be : Below w.heap.size w wr
structure TrJ (w : World) (L : List Lx) (R : List (List Nd)) (j : Nat) (P : Nat → Prop) (hd : List (Int × Bs × Int)) (sl : List Value) (ls : List (List Nd)) (v : Value) (y : Nd) (ya : Option Addr) (yc D : Nat) (W : World) : Prop where
  op : TOp W w.heap.size P v hd sl ls
  ex : ∃ st, hd.length = st.length + 1 ∧ runS st (L.drop (j + 1)) = (0, [])
  tr : ∀ l ls', ls.reverse = l :: ls' → tr hd.reverse ((l ++ [y]) :: ls') (L.drop (j + 1)) = R
  hb : ∀ h ∈ hd, HdB h
  lb : ∀ l ∈ ls, l.length ≤ j
  nb : hd.length ≤ j + 1
  be : Below w.heap.size w W
  box : W.heap[D]? = some (.cells #[intV y.kd, sV y.tx, intV y.nm, .slice ya y.ps.length yc] nT (0, 0))
  vat : VAt W P (.agg #[intV y.kd, sV y.tx, intV y.nm, .slice ya y.ps.length yc]) y
  fr : ¬ P D ∧ v.ownBlock ≠ some D ∧ ∀ (i : Nat) (s : Value), sl[i]? = some s → s.ownBlock ≠ some D
theorem TrJ.next {w X1 w6 W3 : World} {L : List Lx} {R : List (List Nd)} {j g2 n2 cap2 D g cp m : Nat} {P : Nat → Prop} {hd1 : List (Int × Bs × Int)} {h0 : Int} {h1 : Bs} {h2 : Int} {sl1 cs : List Value} {s : Value} {ls1 : List (List Nd)} {l : List Nd} {y : Nd} {ya : Option Addr} {yc : Nat}
    (HJ : TrJ w L R j P (hd1 ++ [(h0, h1, h2)]) (sl1 ++ [s]) (ls1 ++ [l]) (.slice (some ⟨g2, 0, none⟩) (n2 + 1) cap2) y ya yc D X1) (hh : hd1.length = n2) (hm : l.length = m) (hmj : m ≤ j) (hcs : CsOf X1 P cs l)
    (hown : w6.ownsRow w.heap.size nT 4 (.slice (some ⟨g, 0, none⟩) (m + 1) cp) (m + 1) (cs ++ z4)) (hgrow : X1.grownBy w6 s.ownBlock) (hat : s.ownBlock = some g ∨ X1.heap.size ≤ g)
    (hW : (((((w6.setCell ⟨g, m * 4, none⟩ (intV y.kd)).setCell ⟨g, m * 4 + 1, none⟩ (sV y.tx)).setCell ⟨g, m * 4 + 2, none⟩ (intV y.nm)).setCell ⟨g, m * 4 + 3, none⟩ (.slice ya y.ps.length yc)).setCell ⟨g2, n2 * 4 + 3, none⟩ (.slice (some ⟨g, 0, none⟩) (m + 1) cp)) = W3 ∨
      (((((w6.setCell ⟨g2, n2 * 4 + 3, none⟩ (.slice (some ⟨g, 0, none⟩) (m + 1) cp)).setCell ⟨g, m * 4, none⟩ (intV y.kd)).setCell ⟨g, m * 4 + 1, none⟩ (sV y.tx)).setCell ⟨g, m * 4 + 2, none⟩ (intV y.nm)).setCell ⟨g, m * 4 + 3, none⟩ (.slice ya y.ps.length yc)) = W3) :
    ∃ P', Hid (TrI w L R (j + 1) P' (hd1 ++ [(h0, h1, h2)]) (sl1 ++ [.slice (some ⟨g, 0, none⟩) (m + 1) cp]) (ls1 ++ [l ++ [y]]) (.slice (some ⟨g2, 0, none⟩) (n2 + 1) cap2) W3) := by
  obtain ⟨q1, q2⟩ := top_add HJ.op hh hm hcs HJ.vat hown hgrow hat hW
  refine ⟨_, Lib.hid ⟨q1, HJ.ex, ?_, HJ.hb, fun l2 hh => ?_, by have := HJ.nb; omega, HJ.be.trans q2⟩⟩
  · rw [show (ls1 ++ [l ++ [y]]).reverse = (l ++ [y]) :: ls1.reverse by simp]
    exact HJ.tr l ls1.reverse (by simp)
  · rcases List.mem_append.1 hh with hh | hh
    · have := HJ.lb l2 (by simp [hh]); omega
    · rw [List.mem_singleton] at hh; subst hh; rw [List.length_append, hm]; simp; exact hmj
theorem lexAt_cells {W : World} {a : Option Addr} {n c : Nat} {L : List Lx} (h : LexAt W (.slice a n c) L) {j : Nat} (hj : j < L.length) {W' : World} (hB : Below W.heap.size W W') {x : Lx} (hx : L[j] = x) :
    ∃ b off, a = some ⟨b, off, none⟩ ∧ W'.cell? ⟨b, off + j * 4, none⟩ = some (intV x.k) ∧ W'.cell? ⟨b, off + j * 4 + 1, none⟩ = some (sV x.n) ∧ W'.cell? ⟨b, off + j * 4 + 2, none⟩ = some (sV x.v) ∧ W'.cell? ⟨b, off + j * 4 + 3, none⟩ = some (intV x.o) := by
  obtain ⟨bb, off, rfl, hbb, c1, c2, c3, c4⟩ := h.elem hj
  subst hx
  exact ⟨bb, off, rfl, (hB.cell (p := ⟨bb, off + j * 4, none⟩) hbb).trans c1, (hB.cell (p := ⟨bb, off + j * 4 + 1, none⟩) hbb).trans c2, (hB.cell (p := ⟨bb, off + j * 4 + 2, none⟩) hbb).trans c3, (hB.cell (p := ⟨bb, off + j * 4 + 3, none⟩) hbb).trans c4⟩
set_option maxHeartbeats 8000000 in
theorem treeT_any (L : List Lx) (hl : L.length ≤ 1000) (hvl : ∀ x ∈ L, x.v.length ≤ 65536) (hok : ∀ x ∈ L, okT x) (hr : runS [] L = (0, [])) (v : Value) (w : World) [T w] (hv : LexAt w v L) :
    Calls Tryz.prog 40 #[v] w fun e w' => ∃ (u : Value) (P : Nat → Prop), e = .returned u ∧ VsAt w' P u (rd L).1 ∧ Below w.heap.size w w' := by
  have HV := Lib.hid hv
  obtain ⟨a, c, rfl⟩ := hv.slice
  have HR := Lib.hid hr
  have HVL := Lib.hid hvl
  have HOK := Lib.hid hok
  obtain ⟨i0, hi, hz0, hz1, hz2⟩ := info_parts info_nd
  clear hv hr hvl hok
  go_enter Tryz.func40, Tryz.ntmps40
  go_wp2
  go_loopw [3, 13] (fun ov iv wr => ∃ (j : Nat) (g n cap : Nat) (P : Nat → Prop) (hd : List (Int × Bs × Int)) (sl : List Value) (ls : List (List Nd)), j ≤ L.length ∧ iv = .int .i64 j ∧ ov = .slice (some ⟨g, 0, none⟩) (n + 1) cap ∧ hd.length = n + 1 ∧ Hid (TrI w L [(rd L).1] j P hd sl ls (.slice (some ⟨g, 0, none⟩) (n + 1) cap) wr)) (fun _ iv _ => L.length - (intOf iv).toNat)
  case atStart => exact ⟨0, w.heap.size, 0, 1, _, _, _, _, Nat.zero_le _, rfl, rfl, rfl, Lib.hid ⟨TOp.start w w.heap.size (Nat.le_refl _), ⟨[], rfl, HR.out⟩, tr_all (0, [], 0) HOK.out HR.out, fun h hh => by rw [List.mem_singleton] at hh; subst hh; exact ⟨by decide, by decide, by decide⟩, fun l hh => by rw [List.mem_singleton] at hh; subst hh; exact Nat.zero_le _, Nat.le_refl _, below_alloc _ _⟩⟩
  case round =>
    obtain ⟨j, g, n, cap, P, hd, sl, ls, hj, rfl, rfl, hhd, HI⟩ := hrel
    obtain ⟨wk, rfl⟩ : ∃ x, x = wr := ⟨_, rfl⟩
    have hnj : n ≤ j := by have := HI.out.nb; omega
    by_cases hlt : j < L.length
    · obtain ⟨x, hx⟩ : ∃ x, L[j] = x := ⟨_, rfl⟩
      obtain ⟨bb, off, rfl, d1, d2, d3, d4⟩ := lexAt_cells HV.out hlt HI.out.be hx
      have hxm : x ∈ L := by rw [← hx]; exact List.getElem_mem hlt
      have HX := Lib.hid (And.intro (HOK.out x hxm) (And.intro (HVL.out x hxm) (show L.drop j = x :: L.drop (j + 1) by rw [List.drop_eq_getElem_cons hlt, hx])))
      obtain ⟨W1, hW1⟩ : ∃ X, ((wk.alloc (.cells #[intV x.k, sV x.n, sV x.v, intV x.o] 52 (0, 0))).alloc (.cells #[.int .i64 0, .string ⟨#[]⟩, .int .i64 0, .slice none 0 0] nT (0, 0))) = X := ⟨_, rfl⟩
      obtain ⟨s1, k0, k1, kb⟩ := heap_allocT2 wk _ _ hW1
      have HW := Lib.hid hW1
      have HK := Lib.hid (And.intro k0 (And.intro k1 (And.intro kb s1)))
      obtain ⟨p0, p1, p2, p3⟩ := box4T k0
      have ib0 : (0 : Int) ≤ (j : Int) := by omega
      have ib1 : (j : Int) < (L.length : Int) := by omega
      have wn : IntKind.i64.wrap (((n : Int) + 1) - 1) = n := by rw [show ((n : Int) + 1) - 1 = n by omega]; exact IntWalk.i64_in _ (by omega)
      have wn' : IntKind.i64.wrap (((n + 1 : Nat) : Int) - 1) = n := by rw [show ((n + 1 : Nat) : Int) - 1 = n by omega]; exact IntWalk.i64_in _ (by omega)
      clear hx hxm hW1 k0 k1 kb s1
      go_upto_region 6 with fail
      rw [HW.out]
      clear d1 d2 d3 d4
      go_upto_block 2 with fail
      go_cut [3, 13] from 13 to 56 (fun s3 s13 W2 => ∃ (g2 n2 cap2 : Nat) (P2 : Nat → Prop) (hd2 : List (Int × Bs × Int)) (sl2 : List Value) (ls2 : List (List Nd)) (y : Nd) (ya : Option Addr) (yc : Nat), s3 = .slice (some ⟨g2, 0, none⟩) (n2 + 1) cap2 ∧ s13 = .int .i64 j ∧ hd2.length = n2 + 1 ∧ n2 ≤ 1000 ∧ Hid (TrJ w L [(rd L).1] j P2 hd2 sl2 ls2 (.slice (some ⟨g2, 0, none⟩) (n2 + 1) cap2) y ya yc (wk.heap.size + 1) W2))
      case first =>
        obtain ⟨hxo, hxv, hdr⟩ := HX.out
        haveI tw1 : T W1 := T.below (HI.out.be.trans (HK.out.2.2.1.mono HI.out.be.size))
        have HO1 := Lib.hid (HI.out.op.fresh (D := wk.heap.size + 1) HK.out.2.2.1 (by omega) (by have := HK.out.2.2.2; omega))
        have HB1 := Lib.hid (HI.out.be.trans (HK.out.2.2.1.mono HI.out.be.size))
        have HOL := Lib.hid HI.out.op.old
        have hsz := HK.out.2.2.2
        have hws := HI.out.be.size
        by_cases k2 : x.k = 2
        · have q2 : (x.k == 2) = true := by simp [k2]
          have HC := Lib.hid (fun (W : World) (_ : T W) => nodeOf_ok x hxo (by omega) hxv W)
          have HK2 := Lib.hid k2
          clear k2 hxo hxv hdr
          go_wp2_with fail
          refine (HC.out W1 tw1).mono ?_
          rintro e w2 ⟨rfl, h2⟩
          obtain ⟨w3, hw3⟩ : ∃ X, w2.alloc (.cells #[intV (hdX x).1, sV (hdX x).2.1, intV (hdX x).2.2, .slice none 0 0] nT (0, 0)) = X := ⟨_, rfl⟩
          have h3 : Below W1.heap.size W1 w3 := by rw [← hw3]; exact below_then h2 (below_alloc _ _)
          have hs3 : w3.heap.size = w2.heap.size + 1 := by rw [← hw3]; simp
          have hn3 : w3.heap[w2.heap.size]? = some (.cells #[intV (hdX x).1, sV (hdX x).2.1, intV (hdX x).2.2, .slice none 0 0] nT (0, 0)) := by rw [← hw3]; exact World.alloc_heap_new _ _
          have hs2 := h2.size
          have HO3 := Lib.hid (HO1.out.below h3)
          have HOW := Lib.hid (show w3.ownsRow w.heap.size nT 4 (.slice (some ⟨g, 0, none⟩) (n + 1) cap) (n + 1) (cellsF hd sl) by
            have h := HO3.out.own
            rwa [show ls.length = n + 1 by rw [← HO3.out.lh]; exact hhd] at h)
          have HNW := Lib.hid (World.news_of_block hn3)
          have HW3 := Lib.hid hw3
          have H3 := Lib.hid h3
          clear h2 h3 hn3 hw3
          have hsz3 : wk.heap.size + 3 ≤ w3.heap.size := by omega
          go_wp2_with (at_builtin; rw [HW3.out]; go_loud (refine wpList_append_lies _ (by rfl) _ _ lT (by rfl) w.heap.size nT i0 (.agg z4.toArray) 4 56 Tryz.underlying24 hi hz0 hz1 hz2 (by rfl) (by decide) _ (n + 1) (cellsF hd sl) (by rfl) HOW.out ⟨w2.heap.size, 0, none⟩ 1 1 [intV (hdX x).1, sV (hdX x).2.1, intV (hdX x).2.2, .slice none 0 0] (by rfl) (by rfl) HNW.out (by intro u hu; simp only [List.mem_cons, List.mem_nil_iff, or_false] at hu; rcases hu with rfl | rfl | rfl | rfl <;> rfl) (by decide) (by unfold maxLen; omega) (by omega) (by omega) (w2.heap.size + 1) hs3 ?_))
          intro g2 cap2 w4 hown hgrow hat hlt4
          obtain ⟨hxo, hxv, hdr⟩ := HX.out
          have hbx := hdX_B x hxv
          obtain ⟨st, hst, hrun⟩ := HI.out.ex
          have hb4 : Below w.heap.size w w4 := ((HB1.out.trans (H3.out.mono HB1.out.size)).grown hgrow (by omega) (fun k hk => (HOW.out.lt k hk).1))
          have hlh := HO3.out.lh
          have hO4 := HO3.out.push (v' := .slice (some ⟨g2, 0, none⟩) (n + 1 + 1) cap2) (h0 := hdX x) (by
            rw [show ls.length + 1 = n + 1 + 1 by omega]
            show w4.ownsRow w.heap.size nT 4 (.slice (some ⟨g2, 0, none⟩) (n + 1 + 1) cap2) (n + 1 + 1) (cellsF (hd ++ [((hdX x).1, (hdX x).2.1, (hdX x).2.2)]) (sl ++ [.slice none 0 0]))
            rw [cellsF_snoc hd sl _ _ _ _ (by have := HO3.out.len; omega)]
            exact hown) hgrow.size (fun k hk hne => hgrow.block k hk hne) (by
            rcases hat with hat | hat
            · exact .inl hat.symm
            · exact .inr (by rw [hs3]; exact congrArg some hat))
          have HF := Lib.hid (show TrI w L [(rd L).1] (j + 1) _ (hd ++ [hdX x]) (sl ++ [.slice none 0 0]) (ls ++ [[]]) (.slice (some ⟨g2, 0, none⟩) (n + 1 + 1) cap2) w4 from
            ⟨hO4, ⟨x.n :: st, by simp [hst], by
              rw [hdr, runS_cons, if_pos HK2.out] at hrun
              split at hrun
              · cases hrun
              · exact hrun⟩, by
              have := HI.out.tr
              rw [hdr, tr_open HK2.out] at this
              rw [List.reverse_append, List.reverse_append]
              exact this, fun h hh => by
              rcases List.mem_append.1 hh with hh | hh
              · exact HI.out.hb h hh
              · rw [List.mem_singleton] at hh; subst hh; exact hbx, fun l hh => by
              rcases List.mem_append.1 hh with hh | hh
              · have := HI.out.lb l hh; omega
              · rw [List.mem_singleton] at hh; subst hh; exact Nat.zero_le _, by simp; omega, hb4⟩)
          clear hown hgrow hat hlt4 hxo hxv hdr hbx hst hrun hb4 hlh hO4
          have wj : IntKind.i64.wrap ((j : Int) + 1) = ((j + 1 : Nat) : Int) := by rw [show (j : Int) + 1 = ((j + 1 : Nat) : Int) by omega]; exact IntWalk.i64_in _ (by omega)
          go_wp2
          refine ⟨⟨j + 1, g2, n + 1, cap2, _, _, _, _, by omega, ?_, rfl, by simp [hhd], HF⟩, ?_⟩
          · first | rfl | (rw [show ((j + 1 : Nat) : Int) = (j : Int) + 1 by omega])
          · simp [intOf]; omega
        · have q2 : (x.k == 2) = false := by simpa using k2
          by_cases k3 : x.k = 3
          · have q3 : (x.k == 3) = true := by simp [k3]
            obtain ⟨st, hst, hrun⟩ := HI.out.ex
            have hrun2 : ∃ t st', st = t :: st' ∧ runS st' (L.drop (j + 1)) = (0, []) := by
              rw [hdr, runS_cons, if_neg k2, if_pos k3] at hrun
              cases st with
              | nil => cases hrun
              | cons t st' =>
                have hrun : (if t = x.n then runS st' (L.drop (j + 1)) else (12, [])) = (0, []) := hrun
                split at hrun
                · exact ⟨t, st', rfl, hrun⟩
                · cases hrun
            obtain ⟨tg, st', rfl, hrun'⟩ := hrun2
            have hst2 : hd.length = st'.length + 1 + 1 := by simpa using hst
            obtain ⟨n', hn'⟩ : ∃ n', n = n' + 1 := ⟨st'.length, by omega⟩
            have hlh := HO1.out.lh
            have hln := HO1.out.len
            obtain ⟨hd1, ⟨h0, h1, h2⟩, rfl, hh1⟩ := snoc_of hhd
            obtain ⟨ls1, l, rfl, hl1⟩ := snoc_of (l := ls) (n := n) (by omega)
            obtain ⟨sl1, s, rfl, hs1⟩ := snoc_of (l := sl) (n := n) (by omega)
            obtain ⟨⟨c0, c1, c2, c3⟩, cf⟩ := HO1.out.topc hh1 hs1
            obtain ⟨ho, hv⟩ := HO1.out.pop hl1
            obtain ⟨ya, yc, rfl, hvi⟩ := id hv
            clear hvi
            have hgb : g ≠ wk.heap.size + 1 := fun e => by have := HOL.out.1 g rfl; omega
            have hbg : wk.heap.size + 1 ≠ g := fun e => hgb e.symm
            have HSC := Lib.hid (And.intro c0 (And.intro c1 (And.intro c2 c3)))
            obtain ⟨e0, e1, e2, e3⟩ := box4T HK.out.2.1
            have f0 := heap_free HK.out.2.1 0
            have f1 := heap_free HK.out.2.1 1
            have f2 := heap_free HK.out.2.1 2
            have f3 := heap_free HK.out.2.1 3
            have hcap : (n : Int) ≤ cap := by
              rcases HO1.out.own.2 with ⟨h, _⟩ | ⟨_, _, _, h, _, _, h2, _⟩
              · cases h
              · simp only [Value.slice.injEq] at h
                obtain ⟨_, e1, rfl⟩ := h
                omega
            have hn0 : (0 : Int) ≤ n := by omega
            have hn1 : (n : Int) < (n : Int) + 1 := by omega
            have hn2 : (n : Int) < ((n + 1 : Nat) : Int) := by omega
            have hll := HI.out.lb l (by simp)
            have HF := Lib.hid (And.intro hst2 (And.intro hn' (And.intro hh1 (And.intro hl1 (And.intro hs1 (And.intro ho (And.intro hv (And.intro hrun' hll))))))))
            have HX3 := Lib.hid (And.intro hdr k3)
            clear hst2 hn' hh1 hl1 hs1 ho hv hrun' hll hlh hln hhd hst hrun hdr k2 k3 hxo hxv
            go_upto_region 12 with fail
            refine wp_region_noPanic ?_
            refine wp_region_any (by kernel_rfl) (wpAny_of_k (S := fun _ => True) (S' := fun W' => W'.cell? ⟨g, n * 4, none⟩ = some (intV h0) ∧ W'.cell? ⟨g, n * 4 + 1, none⟩ = some (sV h1) ∧ W'.cell? ⟨g, n * 4 + 2, none⟩ = some (intV h2) ∧ W'.cell? ⟨g, n * 4 + 3, none⟩ = some (.slice ya l.length yc)) (k := 7) _ _ _ _ ?_)
            change wpAnyK _ _ _ _ _ _ _ 9 _ _ W1.drew
            refine wpAnyK_takeD (i := 0) (v := .slice (some ⟨g, 0, none⟩) (n + 1) cap) (some 33) rfl rfl (by kernel_rfl) (by kernel_rfl) (by kernel_rfl) (by decide) (fun _ _ _ h => h) (Or.inl ⟨by rfl, fun w' hw' => ?_⟩) (fun _ => trivial) (HSC.out) ?_
            · go_simp
            (try simp only [Act.put, List.setIfInBounds_toArray, List.set_cons_zero, List.set_cons_succ])
            refine wpAnyK_takeD (i := 1) (v := .int .i64 n) (some 34) rfl rfl (by kernel_rfl) (by kernel_rfl) (by kernel_rfl) (by decide) (fun _ _ _ h => h) (Or.inl ⟨by rfl, fun w' hw' => ?_⟩) (fun _ => trivial) (HSC.out) ?_
            · go_simp
            (try simp only [Act.put, List.setIfInBounds_toArray, List.set_cons_zero, List.set_cons_succ])
            refine wpAnyK_takeD (i := 2) (v := .pointer (some ⟨g, n * 4, none⟩)) (some 35) rfl rfl (by kernel_rfl) (by kernel_rfl) (by kernel_rfl) (by decide) (fun _ _ _ h => h) (Or.inl ⟨by rfl, fun w' hw' => ?_⟩) (fun _ => trivial) (HSC.out) ?_
            · go_simp
            (try simp only [Act.put, List.setIfInBounds_toArray, List.set_cons_zero, List.set_cons_succ])
            refine wpAnyK_takeD (i := 3) (v := .agg #[intV h0, sV h1, intV h2, .slice ya l.length yc]) (some 36) rfl rfl (by kernel_rfl) (by kernel_rfl) (by kernel_rfl) (by decide) (fun _ _ _ h => h) (Or.inl ⟨by rfl, fun w' hw' => ?_⟩) (fun _ => trivial) (HSC.out) ?_
            · obtain ⟨b0, b1, b2, b3⟩ := hw'; go_simp
            (try simp only [Act.put, List.setIfInBounds_toArray, List.set_cons_zero, List.set_cons_succ])
            refine wpAnyK_takeD (i := 4) (v := .slice (some ⟨g, 0, none⟩) (n + 1) cap) (some 37) rfl rfl (by kernel_rfl) (by kernel_rfl) (by kernel_rfl) (by decide) (fun _ _ _ h => h) (Or.inl ⟨by rfl, fun w' hw' => ?_⟩) (fun _ => trivial) (HSC.out) ?_
            · go_simp
            (try simp only [Act.put, List.setIfInBounds_toArray, List.set_cons_zero, List.set_cons_succ])
            refine wpAnyK_takeD (i := 5) (v := .int .i64 n) (some 38) rfl rfl (by kernel_rfl) (by kernel_rfl) (by kernel_rfl) (by decide) (fun _ _ _ h => h) (Or.inl ⟨by rfl, fun w' hw' => ?_⟩) (fun _ => trivial) (HSC.out) ?_
            · go_simp
            (try simp only [Act.put, List.setIfInBounds_toArray, List.set_cons_zero, List.set_cons_succ])
            refine wpAnyK_takeD (i := 6) (v := .slice (some ⟨g, 0, none⟩) n cap) (some 39) rfl rfl (by kernel_rfl) (by kernel_rfl) (by kernel_rfl) (by decide) (fun _ _ _ h => h) (Or.inl ⟨by rfl, fun w' hw' => ?_⟩) (fun _ => trivial) (HSC.out) ?_
            · go_simp
            (try simp only [Act.put, List.setIfInBounds_toArray, List.set_cons_zero, List.set_cons_succ])
            refine wpAnyK_all (rs := [7]) (by kernel_rfl) (by simp) ?_
            intro i' hi'
            obtain rfl := List.mem_singleton.1 hi'
            clear hi'
            refine wpOp_step rfl fun K hK => ?_
            go_simp
            obtain ⟨w3, hw3⟩ : ∃ X, ((((W1.setCell ⟨wk.heap.size + 1, 0, none⟩ (.int .i64 h0)).setCell ⟨wk.heap.size + 1, 1, none⟩ (.string (baL h1))).setCell ⟨wk.heap.size + 1, 2, none⟩ (.int .i64 h2)).setCell ⟨wk.heap.size + 1, 3, none⟩ (.slice ya l.length yc)).drew = X := ⟨_, rfl⟩
            rw [hw3]
            have HZ := Lib.hid (show w3.heap[wk.heap.size + 1]? = some (.cells #[intV h0, sV h1, intV h2, .slice ya l.length yc] nT (0, 0)) ∧ (∀ k, k ≠ wk.heap.size + 1 → w3.heap[k]? = W1.heap[k]?) ∧ Below w.heap.size W1 w3 ∧ w3.heap.size = W1.heap.size by
              subst hw3
              obtain ⟨z1, z2, z3⟩ := set4P (N := w.heap.size) (x0 := intV h0) (x1 := sV h1) (x2 := intV h2) (x3 := .slice ya l.length yc) HK.out.2.1 (by omega) rfl
              exact ⟨z1, z2, z3.drew, by simp [World.setCell]⟩)
            have HSE := Lib.hid (show w3.cell? ⟨g, n * 4, none⟩ = some (intV h0) ∧ w3.cell? ⟨g, n * 4 + 1, none⟩ = some (sV h1) ∧ w3.cell? ⟨g, n * 4 + 2, none⟩ = some (intV h2) ∧ w3.cell? ⟨g, n * 4 + 3, none⟩ = some (.slice ya l.length yc) from
              ⟨(World.cell?_of_block (HZ.out.2.1 g hgb)).trans HSC.out.1, (World.cell?_of_block (HZ.out.2.1 g hgb)).trans HSC.out.2.1, (World.cell?_of_block (HZ.out.2.1 g hgb)).trans HSC.out.2.2.1, (World.cell?_of_block (HZ.out.2.1 g hgb)).trans HSC.out.2.2.2⟩)
            clear hw3
            refine hK _ _ ⟨fun _ => trivial, HSE.out, ?_⟩
            clear hK K e0 e1 e2 e3 f0 f1 f2 f3 c0 c1 c2 c3 cf p0 p1 p2 p3
            refine wpAnyK_all (rs := [8]) (by kernel_rfl) (by simp) ?_
            intro i' hi'
            obtain rfl := List.mem_singleton.1 hi'
            clear hi'
            refine wpOp_step rfl fun K hK => ?_
            go_simp
            refine hK _ _ ⟨fun _ => trivial, HSE.out, ?_⟩
            clear hK K
            refine wpAnyK_done (by kernel_rfl) ?_ _
            refine NoPanic.normal ?_
            go_wp2
            go_meet
            case rel =>
              obtain ⟨hst2, rfl, hh1, hl1, hs1, ho, hv, hrun, hll⟩ := HF.out
              obtain ⟨z1, z2, z3, z4⟩ := HZ.out
              have hDP : ¬ (P (wk.heap.size + 1) ∧ wk.heap.size + 1 ≠ wk.heap.size + 1 ∨ (Value.slice ya l.length yc).ownBlock = some (wk.heap.size + 1)) := by
                rintro (h | h)
                · exact h.2 rfl
                · have := HOL.out.2 sl1.length _ _ (by simp) h; omega
              have hgo : (Value.slice (some ⟨g, 0, none⟩) (n' + 1) cap).ownBlock ≠ some (wk.heap.size + 1) := fun e => by
                have : g = wk.heap.size + 1 := by simpa [Value.ownBlock] using e
                exact hgb this
              have hsr : ∀ (i : Nat) (s : Value), sl1[i]? = some s → s.ownBlock ≠ some (wk.heap.size + 1) := fun i s hs e => by
                have := HOL.out.2 i s _ (by rw [List.getElem?_append_left (List.getElem?_eq_some_iff.1 hs).1]; exact hs) e
                omega
              refine ⟨g, n', cap, _, hd1, sl1, ls1, mkH (h0, h1, h2) l, ya, yc, rfl, rfl, hh1, by omega, Lib.hid ⟨ho.upd z2 z4 hDP hgo hsr, ⟨st', by simp at hst2; omega, hrun⟩, fun l2 ls' hls => ?_, fun h hh => HI.out.hb h (by simp [hh]), fun l2 hh => HI.out.lb l2 (by simp [hh]), by omega, HB1.out.trans z3, z1, (vat_hd (h := (h0, h1, h2)) (HI.out.hb _ (by simp)) (by omega) hv).keep (fun b hb hlt => z2 b (fun e => by subst e; exact hDP hb)) (by omega), hDP, hgo, hsr⟩⟩
              have htr := HI.out.tr
              rw [HX3.out.1, List.reverse_append, List.reverse_append, hls] at htr
              exact (tr_close HX3.out.2).symm.trans htr
          · have q3 : (x.k == 3) = false := by simpa using k3
            have HC := Lib.hid (fun (W : World) (_ : T W) => nodeOf_ok x hxo k3 hxv W)
            have HK3 := Lib.hid (And.intro k2 (And.intro k3 (And.intro hdr hxv)))
            clear k2 k3 hxo hdr hxv
            go_wp2_with fail
            refine (HC.out W1 tw1).mono ?_
            rintro e w2 ⟨rfl, h2⟩
            have z0 := (h2.block _ (show wk.heap.size + 1 < W1.heap.size by omega)).trans HK.out.2.1
            obtain ⟨e0, e1, e2, e3⟩ := box4T z0
            have f0 := heap_free z0 0
            have f1 := heap_free z0 1
            have f2 := heap_free z0 2
            have f3 := heap_free z0 3
            have HZ0 := Lib.hid z0
            have H2 := Lib.hid h2
            clear z0 h2
            go_wp2_with fail
            go_meet
            case rel =>
              obtain ⟨k2, k3, hdr, hxv⟩ := HK3.out
              obtain ⟨w3, hw3⟩ : ∃ X, ((((w2.setCell ⟨wk.heap.size + 1, 0, none⟩ (intV (hdX x).1)).setCell ⟨wk.heap.size + 1, 1, none⟩ (sV (hdX x).2.1)).setCell ⟨wk.heap.size + 1, 2, none⟩ (intV (hdX x).2.2)).setCell ⟨wk.heap.size + 1, 3, none⟩ (.slice none 0 0)) = X := ⟨_, rfl⟩
              rw [hw3]
              obtain ⟨z1, z2, z3⟩ := set4P (N := w.heap.size) HZ0.out (by omega) hw3
              have z4 : w3.heap.size = w2.heap.size := by rw [← hw3]; simp [World.setCell]
              have h2 := H2.out
              have hO2 := HO1.out.below h2
              have hgo : (Value.slice (some ⟨g, 0, none⟩) (n + 1) cap).ownBlock ≠ some (wk.heap.size + 1) := fun e => by have := HOL.out.1 _ e; omega
              have hsr : ∀ (i : Nat) (s : Value), sl[i]? = some s → s.ownBlock ≠ some (wk.heap.size + 1) := fun i s hs e => by have := HOL.out.2 i s _ hs e; omega
              obtain ⟨st, hst, hrun⟩ := HI.out.ex
              have hnx : nodeX x [] = mkH (hdX x) [] := node_mkH x []
              refine ⟨g, n, cap, _, hd, sl, ls, nodeX x [], none, 0, rfl, rfl, hhd, by omega, Lib.hid ⟨hO2.upd z2 z4 (fun h => h.2 rfl) hgo hsr, ⟨st, hst, ?_⟩, fun l ls' hls => ?_, HI.out.hb, HI.out.lb, HI.out.nb, (HB1.out.trans (h2.mono HB1.out.size)).trans z3, ?_, ?_, fun h => h.2 rfl, hgo, hsr⟩⟩
              · rw [hdr, runS_cons, if_neg k2, if_neg k3] at hrun
                exact hrun
              · have htr := HI.out.tr
                rw [hdr, hls] at htr
                exact (tr_other k2 k3).symm.trans htr
              · rw [hnx]; exact z1
              · rw [hnx]
                exact vat_hd (hdX_B x hxv) (by simp) (VsAt.nil _ _ _ _)
      case rest =>
        obtain ⟨g2, n2, cap2, P2, hd2, sl2, ls2, y, ya, yc, rfl, rfl, hhd2, hn2, HJ⟩ := hcut
        obtain ⟨X1, hX1⟩ : ∃ X, X = wc := ⟨_, rfl⟩
        subst hX1
        clear HI p0 p1 p2 p3 wn wn' hhd hnj HK HW
        have hlh := HJ.out.op.lh
        have hln := HJ.out.op.len
        obtain ⟨hd1, ⟨h0, h1, h2⟩, rfl, hh1⟩ := snoc_of hhd2
        obtain ⟨ls1, l, rfl, hl1⟩ := snoc_of (l := ls2) (n := n2) (by omega)
        obtain ⟨sl1, s, rfl, hs1⟩ := snoc_of (l := sl2) (n := n2) (by omega)
        obtain ⟨⟨c0, c1, c2, c3⟩, cf⟩ := HJ.out.op.topc hh1 hs1
        obtain ⟨cs, hos, hcs⟩ := HJ.out.op.last
        obtain ⟨sa, sc, rfl, hvi⟩ := vs_of_own (P := fun _ => True) hos (hcs.mono fun _ _ _ => trivial) (fun _ _ => trivial)
        clear hvi c0 c1 c2
        have hB := HJ.out.be
        have hsz := hB.size
        have hgl := HJ.out.op.own.lt g2 rfl
        have hxl := heap_ltT HJ.out.box
        have hgD : wk.heap.size + 1 ≠ g2 := fun e => HJ.out.fr.2.1 (by rw [e]; rfl)
        have hnA : (Value.slice sa l.length sc).ownBlock ≠ some (wk.heap.size + 1) := HJ.out.fr.2.2 sl1.length _ (by simp)
        have hnG : (Value.slice sa l.length sc).ownBlock ≠ some g2 := fun e => (HJ.out.op.av sl1.length _ g2 (by simp) e).2 rfl
        have hm := HJ.out.lb l (by simp)
        obtain ⟨m, hmm⟩ : ∃ m, l.length = m := ⟨_, rfl⟩
        rw [hmm] at hos c3 hnA hnG hm
        have HSA := Lib.hid c3
        have HSN7 := Lib.hid (box4T HJ.out.box)
        have HOW := Lib.hid hos
        have HCS := Lib.hid hcs
        have HL := Lib.hid (And.intro hmm (And.intro hh1 (And.intro hl1 hs1)))
        have hn0 : (0 : Int) ≤ n2 := by omega
        have hn1 : (n2 : Int) < (n2 : Int) + 1 := by omega
        have hn3 : (n2 : Int) < ((n2 + 1 : Nat) : Int) := by omega
        clear c3 cf hos hcs hlh hln hhd2 hh1 hl1 hs1 hB
        go_upto_region 14 with fail
        clear hmm
        refine wp_region_noPanic ?_
        refine wp_region_any (by kernel_rfl) (wpAny_of_k (S := fun W' => W'.cell? ⟨g2, n2 * 4 + 3, none⟩ = some (.slice sa m sc)) (S' := fun W' => W'.cell? ⟨wk.heap.size + 1, 0, none⟩ = some (intV y.kd) ∧ W'.cell? ⟨wk.heap.size + 1, 1, none⟩ = some (sV y.tx) ∧ W'.cell? ⟨wk.heap.size + 1, 2, none⟩ = some (intV y.nm) ∧ W'.cell? ⟨wk.heap.size + 1, 3, none⟩ = some (.slice ya y.ps.length yc)) (k := 7) _ _ _ _ ?_)
        change wpAnyK _ _ _ _ _ _ _ 13 _ _ X1.drew
        refine wpAnyK_takeD (i := 0) (v := .pointer (some ⟨g2, n2 * 4, none⟩)) (some 45) rfl rfl (by kernel_rfl) (by kernel_rfl) (by kernel_rfl) (by decide) (fun _ _ _ h => h) (Or.inl ⟨by rfl, fun w' hw' => ?_⟩) (fun _ => HSA.out) (HSN7.out) ?_
        · go_simp
        (try simp only [Act.put, List.setIfInBounds_toArray, List.set_cons_zero, List.set_cons_succ])
        refine wpAnyK_takeD (i := 1) (v := .pointer (some ⟨g2, n2 * 4, none⟩)) (some 46) rfl rfl (by kernel_rfl) (by kernel_rfl) (by kernel_rfl) (by decide) (fun _ _ _ h => h) (Or.inl ⟨by rfl, fun w' hw' => ?_⟩) (fun _ => HSA.out) (HSN7.out) ?_
        · go_simp
        (try simp only [Act.put, List.setIfInBounds_toArray, List.set_cons_zero, List.set_cons_succ])
        refine wpAnyK_takeD (i := 2) (v := .pointer (some ⟨g2, n2 * 4 + 3, none⟩)) (some 47) rfl rfl (by kernel_rfl) (by kernel_rfl) (by kernel_rfl) (by decide) (fun _ _ _ h => h) (Or.inl ⟨by rfl, fun w' hw' => ?_⟩) (fun _ => HSA.out) (HSN7.out) ?_
        · go_simp
        (try simp only [Act.put, List.setIfInBounds_toArray, List.set_cons_zero, List.set_cons_succ])
        refine wpAnyK_takeD (i := 4) (v := .agg #[intV y.kd, sV y.tx, intV y.nm, .slice ya y.ps.length yc]) (some 49) rfl rfl (by kernel_rfl) (by kernel_rfl) (by kernel_rfl) (by decide) (fun _ _ _ h => h) (Or.inl ⟨by rfl, fun w' hw' => ?_⟩) (fun _ => HSA.out) (HSN7.out) ?_
        · obtain ⟨b0, b1, b2, b3⟩ := hw'; go_simp
        (try simp only [Act.put, List.setIfInBounds_toArray, List.set_cons_zero, List.set_cons_succ])
        refine wpAnyK_takeL (i := 3) (v := .slice sa m sc) (some 48) rfl rfl rfl (by kernel_rfl) (by kernel_rfl) (by kernel_rfl) (by kernel_rfl) (by kernel_rfl) (by decide) (fun _ _ _ h => h) (Or.inl ⟨by rfl, fun w' hw' => ?_⟩) (HSA.out) (HSN7.out) ?_
        · have b0 := hw'; go_simp
        (try simp only [Act.put, List.setIfInBounds_toArray, List.set_cons_zero, List.set_cons_succ])
        refine wpAnyK_takeD (i := 5) (v := .int .i64 m) (some 50) rfl rfl (by kernel_rfl) (by kernel_rfl) (by kernel_rfl) (by decide) (fun _ _ _ h => h) (Or.inl ⟨by rfl, fun w' hw' => ?_⟩) (fun _ => HSA.out) (HSN7.out) ?_
        · go_simp
        (try simp only [Act.put, List.setIfInBounds_toArray, List.set_cons_zero, List.set_cons_succ])
        refine wpAnyK_all (rs := [6]) (by kernel_rfl) (by simp) ?_
        intro i' hi'
        obtain rfl := List.mem_singleton.1 hi'
        clear hi'
        refine wpOp_step rfl fun K hK => ?_
        go_simp
        obtain ⟨w5, hw5⟩ : ∃ x, (X1.alloc (.cells #[.int .i64 0, .string ⟨#[]⟩, .int .i64 0, .slice none 0 0] nT)).drew = x := ⟨_, rfl⟩
        have h5B : Below X1.heap.size X1 w5 := by rw [← hw5]; exact ((Below.refl _ X1).alloc (Nat.le_refl _) _).drew
        have h5s : w5.heap.size = X1.heap.size + 1 := by rw [← hw5]; simp
        have h5n : w5.heap[X1.heap.size]? = some (.cells #[.int .i64 0, .string ⟨#[]⟩, .int .i64 0, .slice none 0 0] nT (0, 0)) := by rw [← hw5]; exact World.alloc_heap_new X1 _
        have HSA5 := Lib.hid (show w5.cell? ⟨g2, n2 * 4 + 3, none⟩ = some (.slice sa m sc) from (h5B.cell (p := ⟨g2, n2 * 4 + 3, none⟩) hgl.2).trans HSA.out)
        have HSN5 := Lib.hid (box4T ((h5B.block _ hxl).trans HJ.out.box))
        have HO5 := Lib.hid (own_keepT HOW.out fun g hg => h5B.block g (HOW.out.lt g hg).2)
        have HNW := Lib.hid (World.news_of_block h5n)
        have HG5 := Lib.hid ((below_grownT h5B).but (Value.slice sa m sc).ownBlock)
        rw [hw5]
        clear hw5 h5n h5B
        refine hK _ _ ⟨fun _ => HSA5.out, HSN5.out, ?_⟩
        clear hK K
        (try simp only [Act.put, List.setIfInBounds_toArray, List.set_cons_zero, List.set_cons_succ])
        refine wpAnyK_all (rs := [7]) (by kernel_rfl) (by simp) ?_
        intro i' hi'
        obtain rfl := List.mem_singleton.1 hi'
        clear hi'
        refine wpOp_step rfl fun K hK => ?_
        refine step_append_lies _ (by rfl) _ _ lT (by rfl) w.heap.size nT i0 (.agg #[.int .i64 0, .string ⟨#[]⟩, .int .i64 0, .slice none 0 0]) 4 56 Tryz.underlying24 hi hz0 hz1 hz2 (by rfl) (by decide) (.slice sa m sc) m cs (by rfl) HO5.out ⟨X1.heap.size, 0, none⟩ 1 1 z4 (by rfl) (by rfl) HNW.out (by decide) (by decide) (by unfold maxLen; omega) (by omega) (by omega) (X1.heap.size + 1) h5s ?_
        intro g cp w6 hown6 hgrow6 hat6 hlt6
        have hgrow := HG5.out.trans hgrow6
        have hat : (Value.slice sa m sc).ownBlock = some g ∨ X1.heap.size ≤ g := by rcases hat6 with h | h; exact .inl h; exact .inr (by omega)
        have hgA : g ≠ g2 := fun e => by
          rcases hat with h | h
          · rw [e] at h; exact hnG h
          · omega
        have hAg : g2 ≠ g := fun e => hgA e.symm
        have hg7 : wk.heap.size + 1 ≠ g := fun e => by
          rcases hat with h | h
          · rw [← e] at h; exact hnA h
          · omega
        have hr6 : w6.heap[g2]? = X1.heap[g2]? := hgrow.block _ hgl.2 (fun e => hnG e.symm)
        have hx6 := (hgrow.block _ hxl (fun e => hnA e.symm)).trans HJ.out.box
        have HSN6 := Lib.hid (box4T hx6)
        have HSN8 := Lib.hid (fun (v0 v1 v2 v3 : Value) => box4T ((set4_other (w1 := w6) (o := m * 4) (a0 := v0) (a1 := v1) (a2 := v2) (a3 := v3) hg7).trans hx6))
        have HSN7' := Lib.hid (fun (v0 : Value) => box4T ((Below.heap_setCell w6 ⟨g2, n2 * 4 + 3, none⟩ v0 (wk.heap.size + 1) hgD).trans hx6))
        have HSN9 := Lib.hid (fun (v0 v1 v2 v3 v4 : Value) => box4T ((Below.heap_setCell ((((w6.setCell ⟨g, m * 4, none⟩ v0).setCell ⟨g, m * 4 + 1, none⟩ v1).setCell ⟨g, m * 4 + 2, none⟩ v2).setCell ⟨g, m * 4 + 3, none⟩ v3) ⟨g2, n2 * 4 + 3, none⟩ v4 (wk.heap.size + 1) hgD).trans ((set4_other (w1 := w6) (o := m * 4) (a0 := v0) (a1 := v1) (a2 := v2) (a3 := v3) hg7).trans hx6)))
        have HSN10 := Lib.hid (fun (v0 v1 v2 v3 v4 : Value) => box4T ((set4_other (w1 := w6.setCell ⟨g2, n2 * 4 + 3, none⟩ v4) (o := m * 4) (a0 := v0) (a1 := v1) (a2 := v2) (a3 := v3) hg7).trans ((Below.heap_setCell w6 ⟨g2, n2 * 4 + 3, none⟩ v4 (wk.heap.size + 1) hgD).trans hx6)))
        have cA := (World.cell?_of_block (a := ⟨g2, n2 * 4 + 3, none⟩) hr6).trans HSA.out
        have fA : w6.frozen? ⟨g2, n2 * 4 + 3, none⟩ = false := by
          have := (own_keepT HJ.out.op.own (W' := w6) fun b e => by
            have : g2 = b := by simpa [Value.ownBlock] using e
            subst this
            exact hr6)
          rw [show (ls1 ++ [l]).length = n2 + 1 by simp [HL.out.2.2.1]] at this
          exact this.frozenAt _
        have hol : cs.length = m * 4 := HOW.out.1
        have t0 := hown6.cells (g := g) rfl (m * 4) (.int .i64 0) (by rw [List.getElem?_append_right (by rw [hol]; omega), hol]; simp)
        have t1 := hown6.cells (g := g) rfl (m * 4 + 1) (.string ⟨#[]⟩) (by rw [List.getElem?_append_right (by rw [hol]; omega), hol, show m * 4 + 1 - m * 4 = 1 by omega]; rfl)
        have t2 := hown6.cells (g := g) rfl (m * 4 + 2) (.int .i64 0) (by rw [List.getElem?_append_right (by rw [hol]; omega), hol, show m * 4 + 2 - m * 4 = 2 by omega]; rfl)
        have t3 := hown6.cells (g := g) rfl (m * 4 + 3) (.slice none 0 0) (by rw [List.getElem?_append_right (by rw [hol]; omega), hol, show m * 4 + 3 - m * 4 = 3 by omega]; rfl)
        rw [add_plainT, Nat.zero_add] at t0 t1 t2 t3
        have s0 := hown6.frozenAt (m * 4)
        have s1 := hown6.frozenAt (m * 4 + 1)
        have s2 := hown6.frozenAt (m * 4 + 2)
        have s3 := hown6.frozenAt (m * 4 + 3)
        have HP := Lib.hid (fun (W3 : World) hW => TrJ.next (W3 := W3) HJ.out HL.out.2.1 HL.out.1 hm HCS.out hown6 (by rw [HL.out.1]; exact hgrow) (by rw [HL.out.1]; exact hat) hW)
        have j0 : (0 : Int) ≤ (m : Int) := by omega
        have j1 : (m : Int) < ((m + 1 : Nat) : Int) := by omega
        have j2 : (m : Int) < (m : Int) + 1 := by omega
        clear hgrow hat hx6 hr6 hown6 hgrow6 hat6 hlt6 hg7 hol
        refine hK _ _ ⟨fun h => (nomatch (h.symm.trans (show _ = true by kernel_rfl))), HSN6.out, ?_⟩
        clear hK K
        (try simp only [Act.put, List.setIfInBounds_toArray, List.set_cons_zero, List.set_cons_succ])
        refine wpAnyK_takeD (i := 8) (v := .pointer (some ⟨g, m * 4, none⟩)) (some 53) rfl rfl (by kernel_rfl) (by kernel_rfl) (by kernel_rfl) (by decide) (fun _ _ _ h => h) (Or.inl ⟨by rfl, fun w' hw' => ?_⟩) (fun h => (nomatch (h.symm.trans (show _ = true by kernel_rfl)))) (HSN6.out) ?_
        · go_simp
        (try simp only [Act.put, List.setIfInBounds_toArray, List.set_cons_zero, List.set_cons_succ])
        refine wpAnyK_takeD (i := 10) (v := .pointer (some ⟨g2, n2 * 4, none⟩)) (some 54) rfl rfl (by kernel_rfl) (by kernel_rfl) (by kernel_rfl) (by decide) (fun _ _ _ h => h) (Or.inl ⟨by rfl, fun w' hw' => ?_⟩) (fun h => (nomatch (h.symm.trans (show _ = true by kernel_rfl)))) (HSN6.out) ?_
        · go_simp
        (try simp only [Act.put, List.setIfInBounds_toArray, List.set_cons_zero, List.set_cons_succ])
        refine wpAnyK_takeD (i := 11) (v := .pointer (some ⟨g2, n2 * 4 + 3, none⟩)) (some 55) rfl rfl (by kernel_rfl) (by kernel_rfl) (by kernel_rfl) (by decide) (fun _ _ _ h => h) (Or.inl ⟨by rfl, fun w' hw' => ?_⟩) (fun h => (nomatch (h.symm.trans (show _ = true by kernel_rfl)))) (HSN6.out) ?_
        · go_simp
        (try simp only [Act.put, List.setIfInBounds_toArray, List.set_cons_zero, List.set_cons_succ])
        refine wpAnyK_all (rs := [9, 12]) (by kernel_rfl) (by simp) ?_
        intro i hi
        simp only [List.mem_cons, List.mem_nil_iff, or_false] at hi
        rcases hi with rfl | rfl
        · refine wpOp_step rfl fun K hK => ?_
          go_simp
          refine hK _ _ ⟨fun h => (nomatch (h.symm.trans (show _ = true by kernel_rfl))), HSN8.out _ _ _ _, ?_⟩
          clear hK K
          refine wpAnyK_all (rs := [12]) (by kernel_rfl) (by simp) ?_
          intro i hi
          obtain rfl := List.mem_singleton.1 hi
          clear hi
          refine wpOp_step rfl fun K hK => ?_
          go_simp
          refine hK _ _ ⟨fun h => (nomatch (h.symm.trans (show _ = true by kernel_rfl))), HSN9.out _ _ _ _ _, ?_⟩
          clear hK K
          refine wpAnyK_done (by kernel_rfl) ?_ _
          refine NoPanic.normal ?_
          go_wp2
          obtain ⟨P3, hp⟩ := HP.out _ (.inl rfl)
          refine ⟨⟨j + 1, g2, n2, cap2, P3, _, _, _, by omega, ?_, rfl, by simp [HL.out.2.1], hp⟩, ?_⟩
          · first | rfl | (rw [show ((j + 1 : Nat) : Int) = (j : Int) + 1 by omega])
          · simp [intOf]; omega
        · refine wpOp_step rfl fun K hK => ?_
          go_simp
          refine hK _ _ ⟨fun h => (nomatch (h.symm.trans (show _ = true by kernel_rfl))), HSN7'.out _, ?_⟩
          clear hK K
          refine wpAnyK_all (rs := [9]) (by kernel_rfl) (by simp) ?_
          intro i hi
          obtain rfl := List.mem_singleton.1 hi
          clear hi
          refine wpOp_step rfl fun K hK => ?_
          go_simp
          refine hK _ _ ⟨fun h => (nomatch (h.symm.trans (show _ = true by kernel_rfl))), HSN10.out _ _ _ _ _, ?_⟩
          clear hK K
          refine wpAnyK_done (by kernel_rfl) ?_ _
          refine NoPanic.normal ?_
          go_wp2
          obtain ⟨P3, hp⟩ := HP.out _ (.inr rfl)
          refine ⟨⟨j + 1, g2, n2, cap2, P3, _, _, _, by omega, ?_, rfl, by simp [HL.out.2.1], hp⟩, ?_⟩
          · first | rfl | (rw [show ((j + 1 : Nat) : Int) = (j : Int) + 1 by omega])
          · simp [intOf]; omega
    · obtain rfl : j = L.length := by omega
      have hd0 : L.drop L.length = [] := List.drop_length
      obtain ⟨st, hst, hrun⟩ := HI.out.ex
      have htr := HI.out.tr
      rw [hd0] at htr
      rw [hd0, runS.eq_def] at hrun
      obtain rfl : st = [] := (Prod.mk.inj hrun).2
      obtain rfl : n = 0 := by simp at hst; omega
      rw [tr.eq_def] at htr
      have hls : ls = [(rd L).1] := by
        have h : ls.reverse = [(rd L).1] := htr
        have := congrArg List.reverse h
        simpa using this
      have hlh := HI.out.op.lh
      have hln := HI.out.op.len
      obtain ⟨hd1, ⟨h0, h1, h2⟩, rfl, hh1⟩ := snoc_of hhd
      obtain ⟨sl1, s, rfl, hs1⟩ := snoc_of (l := sl) (n := 0) (by omega)
      obtain ⟨⟨c0, c1, c2, c3⟩, cf⟩ := HI.out.op.topc hh1 hs1
      have hop := HI.out.op
      rw [hls, show [(rd L).1] = [] ++ [(rd L).1] from rfl] at hop
      have HV2 := Lib.hid (hop.pop rfl).2
      have HB := Lib.hid HI.out.be
      have ib1 : ¬ (L.length : Int) < (L.length : Int) := by omega
      have c4 : wk.cell? ⟨g, 3, none⟩ = some s := by simpa using c3
      clear hop hls htr hrun hlh hln hhd hh1 hs1 c0 c1 c2 hst hlt
      go_wp2
      exact bodyPost_ret (v := s) (by simp [results, Tryz.f40, go_sem]) rfl ⟨s, rfl, ⟨_, HV2.out⟩, HB.out⟩
end Go.Proofs.YtmfcepfagbkceaaGreatDoor
namespace Go.Proofs.YtmfcepfagbkceaaGreatDoor
set_option linter.unusedSimpArgs false
set_option linter.unusedVariables false
set_option maxRecDepth 100000
open Go.RowKit Go.Shelf Go.Deep
theorem valLenT : ∀ (A : List Lx) (p : Bool) (o : Nat), valB p o A = true → A.length ≤ (prn A).length
  | [], _, _, _ => by simp
  | x :: A, p, o, h => by
    unfold valB at h
    rw [Bool.and_eq_true, Bool.and_eq_true] at h
    have h1 := valLenT A _ _ h.2
    have h3 := ok_len h.1.1
    rw [prn_cons, List.length_append, List.length_cons]; omega
theorem valMemT : ∀ (A : List Lx) (p : Bool) (o : Nat), valB p o A = true → ∀ x ∈ A, (x.k = 1 ∨ x.k = 2 ∨ x.k = 3 ∨ x.k = 4) ∧ x.n.length + x.v.length ≤ (prn A).length ∧ 0 ≤ x.o ∧ x.o ≤ ((o + (prn A).length : Nat) : Int)
  | [], _, _, _, x, hx => by cases hx
  | y :: A, p, o, h, x, hx => by
    unfold valB at h
    rw [Bool.and_eq_true, Bool.and_eq_true, decide_eq_true_eq] at h
    rw [prn_cons, List.length_append]
    rcases List.mem_cons.1 hx with rfl | hx
    · have hl := len_form h.1.1
      unfold lenX at hl
      refine ⟨?_, by omega, by omega, by omega⟩
      by_cases hk : x.k = 1
      · exact .inl hk
      · exact .inr (good_tag (ok_tag h.1.1 hk)).1
    · obtain ⟨h1, h2, h3, h4⟩ := valMemT A _ _ h.2 x hx
      exact ⟨h1, by omega, h3, by omega⟩
theorem scanT_b {s : Bs} {A : List Lx} (h : scanR s = (A, 0)) (hl : A.length ≤ 1000) : LxB A ∧ A.length ≤ s.length ∧ (∀ x ∈ A, okT x) ∧ ∀ x ∈ A, x.v.length ≤ 65536 := by
  obtain ⟨h1, h2, h3⟩ := scan_iff.1 h
  have h4 := valLenT A _ _ h2
  rw [h3] at h4
  have hm : ∀ x ∈ A, I64 x.k ∧ I64 x.o ∧ x.n.length ≤ maxLen ∧ x.v.length ≤ maxLen ∧ x.n.length + x.v.length ≤ 65536 := fun x hx => by
    obtain ⟨g1, g2, g3, g4⟩ := valMemT A _ _ h2 x hx
    rw [h3] at g2 g4
    unfold I64 maxLen
    exact ⟨by omega, by omega, by omega, by omega, by omega⟩
  exact ⟨⟨hl, hm⟩, h4, okL_T (val_okL A false 0 h2), fun x hx => by have := (hm x hx).2.2.2.2; omega⟩
theorem scanT_few (s : Bs) (hs : s.length ≤ 1000) : (scanR s).2 = 0 → (scanR s).1.length ≤ 1000 := fun h => by
  obtain ⟨h1, h2, h3⟩ := scan_iff.1 (show scanR s = ((scanR s).1, 0) from Prod.ext rfl h)
  have h4 := valLenT _ _ _ h2
  rw [h3] at h4
  omega
theorem nest_run {A : List Lx} (h : nestR A = 0) : runS [] A = (0, []) := by
  unfold nestR at h
  split at h
  · exact nest_zero.1 h
  · cases h
theorem readF_tot : ∀ (f : Nat) (L : List Lx), tots (readF f L).1 + (readF f L).2.length ≤ L.length
  | 0, L => by rw [readF]; simp [tots]
  | _ + 1, [] => by rw [readF]; simp [tots]
  | f + 1, x :: L => by
    rw [readF]
    split
    · simp [tots]
    · split
      · have h1 := readF_tot f L
        have h2 := readF_tot f ((readF f L).2.drop 1)
        rw [List.length_drop] at h2
        show tots (nodeX x (readF f L).1 :: (readF f ((readF f L).2.drop 1)).1) + (readF f ((readF f L).2.drop 1)).2.length ≤ _
        rw [tots, node_mkH, mkH, tot, List.length_cons]
        omega
      · have h1 := readF_tot f L
        show tots (nodeX x [] :: (readF f L).1) + (readF f L).2.length ≤ _
        rw [tots, node_mkH, mkH, tot, tots, List.length_cons]
        omega
def ParsePost (r : List Nd × Int) (w : World) (e : Ending) (w' : World) : Prop := ∃ u, e = .returned (.tuple #[u, intV r.2]) ∧ (∃ P, VsAt w' P u r.1) ∧ Below w.heap.size w w'
set_option maxHeartbeats 4000000 in
theorem parseT_any (s : Bs) (hs : s.length ≤ maxLen) (hl : (scanR s).2 = 0 → (scanR s).1.length ≤ 1000) (w : World) [T w] :
    Calls Tryz.prog 12 #[sV s] w (ParsePost (parseR s) w) := by
  have HS := Lib.hid (scan_any s hs w)
  by_cases h0 : (scanR s).2 = 0
  · obtain ⟨A, hA⟩ : ∃ A, scanR s = (A, 0) := ⟨_, Prod.ext rfl h0⟩
    rw [hA] at HS hl
    obtain ⟨hb, hal, hok, hv⟩ := scanT_b hA (hl rfl)
    by_cases h1 : nestR A = 0
    · have hrun := nest_run h1
      have ht := readF_tot A.length A
      obtain ⟨N, hN⟩ : ∃ N, (rd A).1 = N := ⟨_, rfl⟩
      have ht : tots N ≤ 1000 := by have h := hb.1; have : tots (rd A).1 + (rd A).2.length ≤ A.length := ht; rw [hN] at this; omega
      obtain ⟨k, hk⟩ : ∃ k, ckR N = k := ⟨_, rfl⟩
      have hr : parseR s = if k ≠ 0 then ([], k) else (N, 0) := by
        unfold parseR
        rw [hA]
        show (if (0 : Int) ≠ 0 then _ else if nestR A ≠ 0 then _ else if ckR (rd A).1 ≠ 0 then _ else _) = _
        rw [if_neg (by simp), if_neg (by simpa using h1), hN, hk]
      have HNE := Lib.hid (fun v W (_ : T W) (h : LexAt W v A) => nested_any A 0 v W h1 h hb)
      have HTR := Lib.hid (fun v W (_ : T W) (h : LexAt W v A) => treeT_any A hb.1 hv hok hrun v W h)
      have HCK := Lib.hid (fun v P W (_ : T W) (h : VsAt W P v N) => checkT_any N v P W h (by omega) k hk)
      obtain ⟨R, hR⟩ : ∃ R, parseR s = R := ⟨_, rfl⟩
      have HRR := Lib.hid (hR.symm.trans hr)
      rw [hR]
      rw [hN] at HTR
      clear hR hb hal hok hv hrun ht hN hk hr h0 h1 hA hl hs
      go_enter Tryz.func12, Tryz.ntmps12
      go_wp2_with fail
      refine HS.out.mono ?_
      rintro e w1 ⟨v, rfl, hv, b1⟩
      haveI t1 : T w1 := T.below b1
      have HN1 := Lib.hid (HNE.out v w1 t1 hv)
      have HV := Lib.hid hv
      have HB1 := Lib.hid b1
      clear hv b1 HNE
      go_wp2_with fail
      refine HN1.out.mono ?_
      rintro e w2 ⟨rfl, b2⟩
      have HB2 := Lib.hid (below_then HB1.out b2)
      haveI t2 : T w2 := T.below HB2.out
      have HT2 := Lib.hid (HTR.out v w2 t2 (HV.out.below b2))
      clear b2 HTR HN1 HV HB1
      go_wp2_with fail
      refine HT2.out.mono ?_
      rintro e w3 ⟨u, P, rfl, hu, b3⟩
      have HB3 := Lib.hid (below_then HB2.out b3)
      haveI t3 : T w3 := T.below HB3.out
      have HC3 := Lib.hid (HCK.out u P w3 t3 hu)
      have HU := Lib.hid hu
      clear hu b3 HCK HT2 HB2
      go_wp2_with fail
      refine HC3.out.mono ?_
      rintro e w4 ⟨rfl, b4⟩
      have HB4 := Lib.hid (below_then HB3.out b4)
      have HU4 := Lib.hid (HU.out.below b4)
      clear b4 HC3 HU HB3
      by_cases hk : k = 0
      · have q : (k != 0) = false := by simp [hk]
        have HK := Lib.hid hk
        clear hk
        go_wp2
        exact bodyPost_ret (v := .tuple #[u, intV 0]) (by simp [results, Tryz.f12, go_sem]) rfl (by rw [HRR.out, if_neg (by simpa using HK.out)]; exact ⟨u, rfl, ⟨_, HU4.out⟩, HB4.out⟩)
      · have q : (k != 0) = true := by simpa using hk
        have HK := Lib.hid hk
        clear hk
        go_wp2
        exact bodyPost_ret (v := .tuple #[.slice none 0 0, intV k]) (by simp [results, Tryz.f12, go_sem]) rfl (by rw [HRR.out, if_pos HK.out]; exact ⟨.slice none 0 0, rfl, ⟨fun _ => True, VsAt.nil _ _ _ _⟩, HB4.out⟩)
    · obtain ⟨k, hk⟩ : ∃ k, nestR A = k := ⟨_, rfl⟩
      have hr : parseR s = ([], k) := by
        unfold parseR
        rw [hA]
        show (if (0 : Int) ≠ 0 then _ else if nestR A ≠ 0 then _ else _) = _
        rw [if_neg (by simp), if_pos h1, hk]
      have HNE := Lib.hid (fun v W (_ : T W) (h : LexAt W v A) => nested_any A k v W hk h hb)
      have q : (k != 0) = true := by rw [← hk]; simpa using h1
      rw [hr]
      clear hb hal hok hv hr h0 h1 hA hl hs hk
      go_enter Tryz.func12, Tryz.ntmps12
      go_wp2_with fail
      refine HS.out.mono ?_
      rintro e w1 ⟨v, rfl, hv, b1⟩
      haveI t1 : T w1 := T.below b1
      have HN1 := Lib.hid (HNE.out v w1 t1 hv)
      have HB1 := Lib.hid b1
      clear hv b1 HNE
      go_wp2_with fail
      refine HN1.out.mono ?_
      rintro e w2 ⟨rfl, b2⟩
      have HB2 := Lib.hid (below_then HB1.out b2)
      clear b2 HN1 HB1
      go_wp2
      exact bodyPost_ret (v := .tuple #[.slice none 0 0, intV k]) (by simp [results, Tryz.f12, go_sem]) rfl ⟨.slice none 0 0, rfl, ⟨fun _ => True, VsAt.nil _ _ _ _⟩, HB2.out⟩
  · obtain ⟨A, hA⟩ : ∃ A, scanR s = A := ⟨_, rfl⟩
    have hr : parseR s = ([], A.2) := by unfold parseR; rw [if_pos h0, hA]
    rw [hr]
    rw [hA] at HS h0
    obtain ⟨AL, k⟩ := A
    have q : (k != 0) = true := by simpa using h0
    clear hr h0 hA hl hs
    go_enter Tryz.func12, Tryz.ntmps12
    go_wp2_with fail
    refine HS.out.mono ?_
    rintro e w1 ⟨v, rfl, hv, b1⟩
    have HB1 := Lib.hid b1
    clear hv b1 HS
    go_wp2
    exact bodyPost_ret (v := .tuple #[.slice none 0 0, intV k]) (by simp [results, Tryz.f12, go_sem]) rfl ⟨.slice none 0 0, rfl, ⟨fun _ => True, VsAt.nil _ _ _ _⟩, HB1.out⟩
end Go.Proofs.YtmfcepfagbkceaaGreatDoor
