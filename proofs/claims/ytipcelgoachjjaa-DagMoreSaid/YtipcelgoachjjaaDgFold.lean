/- The program's foldTo. -/
import Derived.Test.YtipcelgoachjjaaDgIter
import Derived.Test.YtipcelgoachjjaaDgRepeat
import Derived.Test.YtipcelgoachjjaaDgStill
import Derived.Test.YtipcelgoachjjaaDgMarks
namespace Go.Proofs.Ytipcelgoachjjaa
set_option linter.unusedSimpArgs false
set_option linter.unusedVariables false
set_option maxRecDepth 100000
open Go.RowKit Go.Shelf Go.Deep
attribute [local go_sem] Oper.semAt_some wide_fn

/-- a value for each node, by the links that leave it -/
structure Fold (ls : List LkV) (t : Int) (none' end' : Int) (T : Int → Int) (acc : List Nat → Int) : Prop where
  fin : T t = end'
  high : ∀ s, t < s → T s = none'
  low : ∀ s, s < t → T s = acc (out ls s)
  nil : acc [] = none'
  skip : ∀ l i, i < ls.length → T (lk ls i).t = none' → acc (l ++ [i]) = acc l
/-- what stands in the row when the links pre of node s are through -/
def valsF (T : Int → Int) (acc : List Nat → Int) (none' : Int) (s : Int) (pre : List Nat) : Nat → Value := fun j => intV (if s < (j : Int) then T j else if (j : Int) = s then acc pre else none')
abbrev tyG := 57

/-- the four blocks ahead of the row -/
structure Four (w wa : World) (tG tI tF : TypeId) (x y z f : Value) (H1 H2 H3 : Nat) : Prop where
  g : wa.heap[w.heap.size]? = some (.cells #[x, y] tG (0, 0))
  b1 : Boxed wa H1 tI z
  b2 : Boxed wa H2 tF f
  c3 : wa.cell? ⟨H3, 0, none⟩ = some z
  size : wa.heap.size = H3 + 1
  below : Below w.heap.size w wa
theorem four_boxes (w : World) (tG tI tF : TypeId) (x y z f : Value) (wa : World) (hwa : ((((w.alloc (.cells #[x, y] tG)).alloc (.cells #[z] tI)).alloc (.cells #[f] tF)).alloc (.cells #[z] tI)) = wa) (H1 H2 H3 : Nat) (hH1 : w.heap.size + 1 = H1) (hH2 : H1 + 1 = H2) (hH3 : H2 + 1 = H3) :
    Four w wa tG tI tF x y z f H1 H2 H3 := by
  subst hwa hH1 hH2 hH3
  refine ⟨?_, ?_, ?_, ?_, by simp, ?_⟩
  · rw [Below.heap_alloc _ _ _ (by simp; omega), Below.heap_alloc _ _ _ (by simp; omega), Below.heap_alloc _ _ _ (by simp)]
    exact blk_alloc_new _ _
  · refine Boxed.alloc (Boxed.alloc ?_ _) _
    have := Boxed.new (w.alloc (.cells #[x, y] tG)) tI z
    simpa using this
  · refine Boxed.alloc ?_ _
    have := Boxed.new ((w.alloc (.cells #[x, y] tG)).alloc (.cells #[z] tI)) tF f
    simpa using this
  · have := (Boxed.new (((w.alloc (.cells #[x, y] tG)).alloc (.cells #[z] tI)).alloc (.cells #[f] tF)) tI z).cell
    simpa using this
  · exact ((((Below.refl _ w).alloc (Nat.le_refl _) _).alloc (by simp) _).alloc (by simp; omega) _).alloc (by simp; omega) _

/-- the boxes that the rounds read -/
structure FoldB (w W : World) (tG tI tF tL : TypeId) (x y z f : Value) (H1 H2 R BV n : Nat) : Prop where
  g : W.heap[w.heap.size]? = some (.cells #[x, y] tG (0, 0))
  b1 : Boxed W H1 tI z
  b2 : Boxed W H2 tF f
  bv : Boxed W BV tL (.slice (some ⟨R, 0, none⟩) n n)
  below : Below w.heap.size w W
theorem FoldB.g0 {w W : World} {tG tI tF tL : TypeId} {x y z f : Value} {H1 H2 R BV n : Nat} (h : FoldB w W tG tI tF tL x y z f H1 H2 R BV n) : W.cell? ⟨w.heap.size, 0, none⟩ = some x := by simp [World.cell?, h.g]
theorem FoldB.g1 {w W : World} {tG tI tF tL : TypeId} {x y z f : Value} {H1 H2 R BV n : Nat} (h : FoldB w W tG tI tF tL x y z f H1 H2 R BV n) : W.cell? ⟨w.heap.size, 1, none⟩ = some y := by simp [World.cell?, h.g]
theorem FoldB.keep {w W W' : World} {tG tI tF tL : TypeId} {x y z f : Value} {H1 H2 R BV n : Nat} (h : FoldB w W tG tI tF tL x y z f H1 H2 R BV n) (hR : R < W.heap.size) (ho : w.heap.size < H1 ∧ H1 < R ∧ H2 < R ∧ R < BV) (hg : W.grownBy W' (some R)) : FoldB w W' tG tI tF tL x y z f H1 H2 R BV n := by
  have hb := h.bv.lt
  exact ⟨(hg.block _ (by omega) (by intro e; cases e; omega)).trans h.g, h.b1.kept hg (by intro e; cases e; omega), h.b2.kept hg (by intro e; cases e; omega), h.bv.kept hg (by intro e; cases e; omega),
    h.below.trans (grown_below hg (by omega) (by intro r e; cases e; omega))⟩

theorem KeepsRow.set (W : World) (b i : Nat) (v : Value) : W.grownBy (W.setCell ⟨b, i, none⟩ v) (some b) := ⟨rfl, rfl, rfl, by simp [World.setCell], fun k _ hk => Below.heap_setCell _ _ _ k (fun e => hk (by rw [e]))⟩
theorem ints_of_row {W : World} {b n cap : Nat} {t : TypeId} {f : Nat → Value} {xs : List Int} (h : W.rowIs b t n f) (hl : xs.length = n) (he : ∀ j (hj : j < xs.length), f j = intV xs[j]) : IntsAt W (.slice (some ⟨b, 0, none⟩) n cap) xs := by
  subst hl
  exact ⟨_, cap, rfl, fun _ => ⟨b, 0, rfl, h.lt, fun j hj => by
    have := h.cell hj
    rw [he j hj] at this
    rw [Nat.zero_add]; exact this⟩⟩
theorem row_left {W W' : World} {b n B : Nat} {t : TypeId} {f : Nat → Value} (h : W.rowIs b t n f) (hL : Left B W W') : W'.rowIs b t n f := by
  obtain ⟨c, hb, hn, hc⟩ := h
  exact ⟨c, hL.cells _ _ hb rfl, hn, hc⟩

set_option maxHeartbeats 8000000 in
theorem foldTo_any (n : Nat) (ls : List LkV) (hg : Gr n ls) (n8 : n ≤ 8) (t : Nat) (ht : t < n) (none' end' : Int) (T : Int → Int) (acc : List Nat → Int) (hF : Fold ls t none' end' T acc)
    (fe : Nat) (hce : ∀ args W, Sem.run Try.prog (callFunc fe args) W = .ok (.enter fe args) W)
    (hf : ∀ (W : World) (s : Int) (l : List Nat) (i : Nat), s < t → (∀ x ∈ l, x ∈ out ls s) → i ∈ out ls s → l.length < (out ls s).length → T (lk ls i).t ≠ none' → Calls Try.prog fe #[intV (acc l), intV (lk ls i).c, intV (T (lk ls i).t)] W fun e W' => e = .returned (intV (acc (l ++ [i]))) ∧ W = W')
    (v u : Value) (w : World) (hv : LinksAt w v ls) (hu : ListsAt w u (outs n ls)) :
    Calls Try.prog 48 #[.agg #[v, u], intV t, intV none', intV end', .func (.func fe) #[] #[]] w fun e w' => ∃ r, e = .returned r ∧ IntsAt w' r (tab n T) ∧ Below w.heap.size w w' := by
  have HV := Lib.hid hv
  have HU := Lib.hid hu
  obtain ⟨av, cv, rfl⟩ := hv.slice
  obtain ⟨au, cu, rfl, _⟩ := id hu
  have HG := Lib.hid hg
  have HF := Lib.hid hF
  have HFF := Lib.hid hf
  have HCE := Lib.hid hce
  have hn0 : 0 < n := by omega
  clear hv hu hg hf hF
  rw [outs_len] at *
  refine (callsIn_wide (n := 9)).1 ?_
  refine callsIn_of_wp_marks Try.func48 rfl trivial ?_ rfl
  simp only [Try.ntmps48, List.size_toArray, List.length_cons, List.length_nil, Nat.reduceAdd, Nat.reduceSub, Array.replicate_succ, Array.replicate_zero, List.push_toArray, List.append_toArray, List.nil_append, List.cons_append]
  gi_wp2_with fail
  obtain ⟨H1, hH1⟩ : ∃ x, w.heap.size + 1 = x := ⟨_, rfl⟩
  obtain ⟨H2, hH2⟩ : ∃ x, H1 + 1 = x := ⟨_, rfl⟩
  obtain ⟨H3, hH3⟩ : ∃ x, H2 + 1 = x := ⟨_, rfl⟩
  obtain ⟨wa, hwa⟩ : ∃ x, ((((w.alloc (.cells #[.slice av ls.length cv, .slice au n cu] tyG)).alloc (.cells #[intV none'] 3)).alloc (.cells #[.func (.func fe) #[] #[]] 68)).alloc (.cells #[intV none'] 3)) = x := ⟨_, rfl⟩
  have hG4 := four_boxes w tyG 3 68 (.slice av ls.length cv) (.slice au n cu) (intV none') (.func (.func fe) #[] #[]) wa hwa H1 H2 H3 hH1 hH2 hH3
  rw [hwa, hH1, hH2, hH3]
  clear hwa
  have HB4 := Lib.hid hG4
  clear hG4
  refine (callsIn_wide.2 (repeat_any none' n n8 hn0 H3 1 wa HB4.out.c3 (by have := HB4.out.size; omega))).mono ?_
  rintro e w1 ⟨rfl, hrow, hB1⟩
  have hRs : wa.heap.size < w1.heap.size := hrow.lt
  have hrc := hrow.cell (i := t) ht
  have hrf := hrow.frozen t
  have HROW := Lib.hid hrow
  have HB1 := Lib.hid hB1
  clear hrow hB1
  gi_wp2_with fail
  obtain ⟨R, hR⟩ : ∃ x, wa.heap.size = x := ⟨_, rfl⟩
  obtain ⟨BV, hBV⟩ : ∃ x, w1.heap.size = x := ⟨_, rfl⟩
  rw [hR] at hRs hrc hrf HROW HB1
  rw [hBV] at hRs
  rw [hR, hBV]
  obtain ⟨w0, hw0⟩ : ∃ x, (w1.setCell ⟨R, t, none⟩ (.int .i64 end')).alloc (.cells #[.slice (some ⟨R, 0, none⟩) n n] 23) = x := ⟨_, rfl⟩
  rw [hw0]
  have hR3 : R = H3 + 1 := by rw [← hR]; exact HB4.out.size
  have hs0 : w0.heap.size = BV + 1 := by rw [← hw0, World.size_alloc, ← hBV]; simp [World.setCell]
  have hk : ∀ k, k < R → w0.heap[k]? = wa.heap[k]? := fun k hk => by
    rw [← hw0, Below.heap_alloc _ _ _ (by simp [World.setCell]; omega), Below.heap_setCell _ _ _ _ (by show k ≠ R; omega)]
    exact HB1.out.block k hk
  have F0 := Lib.hid (show FoldB w w0 tyG 3 68 23 (.slice av ls.length cv) (.slice au n cu) (intV none') (.func (.func fe) #[] #[]) H1 H2 R BV n from
    ⟨(hk _ (by omega)).trans HB4.out.g, (hk _ (by omega)).trans HB4.out.b1, (hk _ (by omega)).trans HB4.out.b2, by
      have := Boxed.new (w1.setCell ⟨R, t, none⟩ (.int .i64 end')) 23 (.slice (some ⟨R, 0, none⟩) n n)
      rw [hw0, show (w1.setCell ⟨R, t, none⟩ (.int .i64 end')).heap.size = BV by rw [← hBV]; simp [World.setCell]] at this
      exact this, by
      rw [← hw0]
      refine Below.alloc (Below.setCell ((HB4.out.below.trans (HB1.out.mono (by omega)))) (by show w.heap.size ≤ R; omega) _) (by simp [World.setCell]; omega) _⟩)
  have HROW0 := Lib.hid (show w0.rowIs R 3 n (valsF T acc none' ((t : Int) - 1) []) from by
    rw [← hw0]
    refine World.rowIs.congr (World.rowIs.alloc (HROW.out.set t _) _) fun j hj => ?_
    unfold valsF
    by_cases e : j = t
    · subst e
      rw [if_pos rfl, if_pos (by omega), HF.out.fin]
    · rw [if_neg e]
      by_cases e2 : t < j
      · rw [if_pos (by omega), HF.out.high j (by omega)]
      · rw [if_neg (by omega)]
        split
        · rw [HF.out.nil]
        · rfl)
  have hBs : BV + 1 = w0.heap.size := hs0.symm
  have hord : w.heap.size < H1 ∧ H1 < R ∧ H2 < R ∧ R < BV := ⟨by omega, by omega, by omega, hRs⟩
  clear hk hw0 hrc hrf HROW HB1 hR3 hH1 hH2 hR HB4
  rw [hBs]
  have hlR : R < w0.heap.size := by omega
  refine wpIn_loop_down (fun m a W => ∃ (y : Nat → Value) (BN : Nat) (l : List Nat), a = { tmps := #[Value.agg #[Value.slice av ls.length cv, Value.slice au n cu], intV (t : Int), intV none', intV end', Value.func (Fn.func fe) #[] #[], Value.pointer (some ⟨w.heap.size, 0, none⟩), undef, Value.pointer (some ⟨H1, 0, none⟩), undef, Value.pointer (some ⟨H2, 0, none⟩), Value.slice none 0 0, Value.pointer (some ⟨BV, 0, none⟩), Value.pointer (some ⟨BN, 0, none⟩), y 13, y 14, y 15, y 16, y 17, y 18, y 19, y 20, y 21, y 22, y 23, y 24, y 25, y 26, y 27, y 28, y 29, y 30, y 31, y 32, y 33, y 34, y 35, y 36, y 37, y 38, y 39, y 40, y 41, y 42, y 43, y 44, y 45, y 46, y 47, y 48, y 49, y 50, y 51, y 52, y 53, y 54, y 55, y 56, y 57, y 58], defers := l.map mark } ∧ m ≤ t ∧ w0.heap.size ≤ BN ∧ Boxed W BN 3 (intV ((m : Int) - 1)) ∧ w0.grownBy W (some R) ∧ W.rowIs R 3 n (valsF T acc none' ((m : Int) - 1) []) ∧ Marks w0.heap.size l W) t ?start ?round
  case start =>
    refine ⟨fun j => (#[undef, undef, undef, undef, undef, undef, undef, undef, undef, undef, undef, undef, undef, undef, undef, undef, intV none', Value.slice (some ⟨H3, 0, none⟩) 1 1, Value.pointer (some ⟨w.heap.size, 1, none⟩), Value.slice au n cu, Value.int .i64 (n : Int), Value.slice (some ⟨R, 0, none⟩) n n, Value.slice (some ⟨R, 0, none⟩) n n, intV (t : Int), intV end', Value.pointer (some ⟨R, t, none⟩), intV (t : Int), Value.int .i64 ((t : Int) - 1)] : Array Value).getD j undef, w0.heap.size, [], rfl, Nat.le_refl _, Nat.le_refl _, Boxed.new _ _ _, World.grownBy_alloc _ _ _, World.rowIs.alloc HROW0.out _, Marks.nil _ _⟩
  case round =>
    rintro m a W ⟨y, BN, l, rfl, hmt, hle, hbn, hgr, hrow, hmk⟩
    have hF := F0.out.keep hlR hord hgr
    have hcn := hbn.cell
    have hcv := hF.bv.cell
    have hcn0 := hF.b1.cell
    have hg0 := hF.g0
    have hg1 := hF.g1
    have HFW := Lib.hid hF
    clear hF
    cases m with
    | zero =>
      gi_wp2_with fail
      refine leaves_marks l W hmk fun W' hL => ?_
      refine ⟨_, results_tmp rfl _ _ _, _, rfl, ?_, HFW.out.below.trans (hL.below.mono (by have := F0.out.below.size; have := F0.out.bv.lt; omega))⟩
      exact ints_of_row (row_left hrow hL) (tab_len n T) (fun j hj => by
        rw [tab_get]; unfold valsF; rw [if_pos (by omega)])
    | succ s =>
      rw [show ((s + 1 : Nat) : Int) - 1 = (s : Int) by omega] at hcn hbn hrow
      gi_wp2_with fail
      refine (callsIn_wide.2 (leaving_any (.slice av ls.length cv) (.slice au n cu) rfl rfl s W)).mono ?_
      rintro e w2 ⟨rfl, rfl⟩
      gi_wp2_with fail
      have hlW : w0.heap.size ≤ W.heap.size := hgr.size
      obtain ⟨W3, hW3⟩ : ∃ x, (W.alloc (.cells #[.slice av ls.length cv, .slice au n cu] tyG)).alloc (.cells #[intV s] 3) = x := ⟨_, rfl⟩
      have hs3 : W3.heap.size = W.heap.size + 2 := by rw [← hW3]; simp
      have hg3 : W.grownBy W3 none := by rw [← hW3]; exact grown_trans (World.grownBy_alloc _ _ _) (World.grownBy_alloc _ _ _)
      have c30 : W3.cell? ⟨W.heap.size, 0, none⟩ = some (.slice av ls.length cv) := by rw [← hW3, World.cell?_alloc_lt _ _ _ (by simp), World.cell?_alloc_new]; rfl
      have c31 : W3.cell? ⟨W.heap.size, 1, none⟩ = some (.slice au n cu) := by rw [← hW3, World.cell?_alloc_lt _ _ _ (by simp), World.cell?_alloc_new]; rfl
      have c32 : W3.cell? ⟨W.heap.size + 1, 0, none⟩ = some (intV s) := by
        have := (Boxed.new (W.alloc (.cells #[.slice av ls.length cv, .slice au n cu] tyG)) 3 (intV s)).cell
        rw [hW3] at this; simpa using this
      have hr3 : W3.rowIs R 3 n (valsF T acc none' s []) := hrow.of_block (hg3.block R (by omega) (by simp))
      have hb3 : Below w.heap.size w W3 := HFW.out.below.trans (grown_below hg3 (by have := F0.out.below.size; omega) (by simp))
      have hlv := leaving_stops n ls HG.out s (by omega) (.slice av ls.length cv) (.slice au n cu) w HV.out HU.out w.heap.size W.heap.size (W.heap.size + 1) rfl W3 hb3 (by omega) (by omega) c30 c31 c32
      rw [hW3]
      refine wpIn_rangeFunc_ownH rfl (by omega) (gf := 59) (lb := #[.pointer (some ⟨W.heap.size, 0, none⟩), .pointer (some ⟨W.heap.size + 1, 0, none⟩)]) rfl trivial Try.call59
        hlv (fun h k => h.trans k) (keptK_b (by omega) (by omega) (by omega)) (Below.refl _ _) (fun _ => rfl)
        (fun pre X => W3.grownBy X (some R) ∧ X.rowIs R 3 n (valsF T acc none' s (raw pre)))
        (fun _ _ _ => False)
        (fun pre X Y row h hg hr => ⟨grown_far h.1 hg (fun r e => .inr (hr r e).1), h.2.of_block (hg.block R h.2.lt (fun e => by have := (hr R e.symm).1; omega))⟩)
        (fun _ _ _ _ _ hs _ _ => hs)
        ⟨grown_refl _ _, hr3⟩
        (fun x a' X => ∃ B14 : Nat, W3.heap.size ≤ B14 ∧ X.heap[B14]? = some (.cells #[intV (lk ls x.1).f, intV (lk ls x.1).t, intV (lk ls x.1).c] 52 (0, 0)) ∧ a' = { tmps := #[Value.agg #[Value.slice av ls.length cv, Value.slice au n cu], intV (t : Int), intV none', intV end', Value.func (Fn.func fe) #[] #[], Value.pointer (some ⟨w.heap.size, 0, none⟩), undef, Value.pointer (some ⟨H1, 0, none⟩), undef, Value.pointer (some ⟨H2, 0, none⟩), Value.slice none 0 0, Value.pointer (some ⟨BV, 0, none⟩), Value.pointer (some ⟨BN, 0, none⟩), y 13, Value.pointer (some ⟨B14, 0, none⟩), y 15, y 16, y 17, y 18, y 19, y 20, y 21, y 22, y 23, y 24, y 25, y 26, y 27, intV (s : Int), Value.bool true, y 30, y 31, Value.agg #[Value.slice av ls.length cv, Value.slice au n cu], intV (s : Int), Value.func (Fn.func 59) #[] #[Value.pointer (some ⟨W.heap.size, 0, none⟩), Value.pointer (some ⟨W.heap.size + 1, 0, none⟩)], intV (x.1 : Int), lkV (lk ls x.1), y 37, y 38, y 39, y 40, y 41, y 42, y 43, y 44, y 45, y 46, y 47, y 48, y 49, y 50, y 51, y 52, y 53, y 54, y 55, y 56, y 57, y 58], defers := [] })
        (fun x a' _ X Y row h hg hr => by
          obtain ⟨B14, h1, h2, h3⟩ := h
          exact ⟨B14, h1, (hg.block B14 (Array.getElem?_eq_some_iff.1 h2).1 (fun e => by obtain ⟨_, o, ho, hc⟩ := hr B14 e.symm; rw [h2] at ho; cases ho; cases hc)).trans h2, h3⟩)
        ?assign ?body ?done ?stop
      case assign =>
        intro l1 pre x X K hI hK
        have hX := hI.1.size
        gi_wp2
        exact hK _ _ ((KeepsOthers.alloc X _).from _) (Kept.of_below ((Below.refl _ X).alloc (Nat.le_refl _) _) (by have := hb3.size; omega) (by omega) (by omega)) ⟨grown_far hI.1 (World.grownBy_alloc X _ none) (by simp), hI.2.alloc _⟩ ⟨X.heap.size, hX, blk_alloc_new _ _, rfl⟩
      case body =>
        rintro l1 pre ⟨i, hio⟩ a' X hl1 hrec ⟨hgX, hrX⟩ ⟨B14, hB14, hk14, rfl⟩ hlen
        have HX := Lib.hid (And.intro hgX hrX)
        have hX := hgX.size
        obtain ⟨hil, hif⟩ := mem_out.1 hio
        have hok := HG.out.lk hil
        obtain ⟨tt, htt⟩ : ∃ tt : Nat, (lk ls i).t = tt := ⟨(lk ls i).t.toNat, by have := hok.t0; omega⟩
        have hst : s < tt := by have := hok.lt; omega
        have htn : tt < n := by have := hok.t1; omega
        have hFX := (HFW.out.keep (by omega) hord ((hg3.to_row (some R)))).keep (by omega) hord hgX
        have hbX : Boxed X BN 3 (intV s) := (hbn.kept hg3 (by simp)).kept hgX (by intro e; cases e; omega)
        have hcv := hFX.bv.cell
        have hcn0 := hFX.b1.cell
        have hcf := hFX.b2.cell
        have hcn := hbX.cell
        have hl2 : X.cell? ⟨B14, 1, none⟩ = some (intV tt) := by simp [World.cell?, hk14, htt]
        have hl3 : X.cell? ⟨B14, 2, none⟩ = some (intV (lk ls i).c) := by simp [World.cell?, hk14]
        have hrt : X.cell? ⟨R, tt, none⟩ = some (intV (T tt)) := by
          have := hrX.cell htn
          rw [valsF, if_pos (by omega)] at this; exact this
        have hrs : X.cell? ⟨R, s, none⟩ = some (intV (acc (raw pre))) := by
          have := hrX.cell (i := s) (by omega)
          rw [valsF, if_neg (by omega), if_pos rfl] at this; exact this
        have hrf := hrX.frozen s
        have HT := Lib.hid htt
        have HI := Lib.hid hio
        clear hFX hbX hgX hrX hok htt
        by_cases hTn : T tt = none'
        · rw [hTn] at hrt
          gi_wp2_with fail
          refine ⟨KeepsFrom.refl _ _, Kept.refl _ _ _ _, HX.out.1, HX.out.2.congr fun j hj => ?_⟩
          unfold valsF
          rw [raw_snoc, HF.out.skip _ _ hil (by rw [HT.out]; exact hTn)]
        · have hTb : (T tt != none') = true := by rw [bne_iff_ne]; exact hTn
          gi_wp2_with fail
          have hfn := fun (W' : World) => HFF.out W' s (raw pre) i (by omega) (fun x hx => raw_mem pre x hx) HI.out (by rw [raw_len]; exact hlen) (by rw [HT.out]; exact hTn)
          have hEQ := raw_snoc pre ⟨i, HI.out⟩
          have HFN := Lib.hid hfn
          clear hfn
          rw [HT.out] at HFN
          have hsn : s < n := by omega
          refine wpIn_region_any (by kernel_rfl) ?_
          refine wpAnyIn_still_last (N := 12) (fun L => { tmps := #[Value.agg #[Value.slice av ls.length cv, Value.slice au n cu], intV (t : Int), intV none', intV end', Value.func (Fn.func fe) #[] #[], Value.pointer (some ⟨w.heap.size, 0, none⟩), undef, Value.pointer (some ⟨H1, 0, none⟩), undef, Value.pointer (some ⟨H2, 0, none⟩), Value.slice none 0 0, Value.pointer (some ⟨BV, 0, none⟩), Value.pointer (some ⟨BN, 0, none⟩), y 13, Value.pointer (some ⟨B14, 0, none⟩), intV (T tt), y 16, y 17, y 18, y 19, y 20, y 21, y 22, y 23, y 24, y 25, y 26, y 27, intV (s : Int), Value.bool true, y 30, y 31, Value.agg #[Value.slice av ls.length cv, Value.slice au n cu], intV (s : Int), Value.func (Fn.func 59) #[] #[Value.pointer (some ⟨W.heap.size, 0, none⟩), Value.pointer (some ⟨W.heap.size + 1, 0, none⟩)], intV (i : Int), lkV (lk ls i), Value.slice (some ⟨R, 0, none⟩) n n, Value.pointer (some ⟨B14, 1, none⟩), intV (tt : Int), Value.pointer (some ⟨R, tt, none⟩), intV (T tt), intV (T tt), intV none', Value.bool true, cond (L 0) (Value.slice (some ⟨R, 0, none⟩) n n) (y 45), cond (L 1) (intV (s : Int)) (y 46), cond (L 2) (Value.func (Fn.func fe) #[] #[]) (y 47), cond (L 3) (Value.slice (some ⟨R, 0, none⟩) n n) (y 48), cond (L 4) (intV (s : Int)) (y 49), cond (L 5) (Value.pointer (some ⟨R, s, none⟩)) (y 50), cond (L 6) (intV (acc (raw pre))) (y 51), cond (L 7) (Value.pointer (some ⟨B14, 2, none⟩)) (y 52), cond (L 8) (intV (lk ls i).c) (y 53), cond (L 9) (intV (T tt)) (y 54), cond (L 10) (intV (acc (raw pre ++ [i]))) (y 55), cond (L 11) (Value.pointer (some ⟨R, s, none⟩)) (y 56), y 57, y 58], defers := [] }) X.drew rfl (by kernel_rfl) (by kernel_rfl) ?step ?last 13 (Array.replicate 13 false) rfl rfl rfl
          case step =>
            intro j hj L hdep K hK
            rcases (show j = 0 ∨ j = 1 ∨ j = 2 ∨ j = 3 ∨ j = 4 ∨ j = 5 ∨ j = 6 ∨ j = 7 ∨ j = 8 ∨ j = 9 ∨ j = 10 ∨ j = 11 by omega) with rfl | rfl | rfl | rfl | rfl | rfl | rfl | rfl | rfl | rfl | rfl | rfl
            · refine wpOpIn_step rfl fun K' hK' => ?_
              go_simp
              exact hK' _ _ hK
            · refine wpOpIn_step rfl fun K' hK' => ?_
              go_simp
              exact hK' _ _ hK
            · refine wpOpIn_step rfl fun K' hK' => ?_
              go_simp
              exact hK' _ _ hK
            · refine wpOpIn_step rfl fun K' hK' => ?_
              go_simp
              exact hK' _ _ hK
            · refine wpOpIn_step rfl fun K' hK' => ?_
              go_simp
              exact hK' _ _ hK
            · have d3 : L 3 = true := hdep _ rfl { on := 3, ground := .data } (by simp) rfl
              have d4 : L 4 = true := hdep _ rfl { on := 4, ground := .data } (by simp) rfl
              refine wpOpIn_step rfl fun K' hK' => ?_
              go_simp
              simp only [show updL L 5 3 = true from d3, show updL L 5 4 = true from d4, cond_true] at hK
              exact hK' _ _ hK
            · have d5 : L 5 = true := hdep _ rfl { on := 5, ground := .data } (by simp) rfl
              refine wpOpIn_step rfl fun K' hK' => ?_
              go_simp
              simp only [show updL L 6 5 = true from d5, cond_true] at hK
              exact hK' _ _ hK
            · refine wpOpIn_step rfl fun K' hK' => ?_
              go_simp
              exact hK' _ _ hK
            · have d7 : L 7 = true := hdep _ rfl { on := 7, ground := .data } (by simp) rfl
              refine wpOpIn_step rfl fun K' hK' => ?_
              go_simp
              simp only [show updL L 8 7 = true from d7, cond_true] at hK
              exact hK' _ _ hK
            · refine wpOpIn_step rfl fun K' hK' => ?_
              go_simp
              exact hK' _ _ hK
            · have d2 : L 2 = true := hdep _ rfl { on := 2, ground := .data } (by simp) rfl
              have d6 : L 6 = true := hdep _ rfl { on := 6, ground := .data } (by simp) rfl
              have d8 : L 8 = true := hdep _ rfl { on := 8, ground := .data } (by simp) rfl
              have d9 : L 9 = true := hdep _ rfl { on := 9, ground := .data } (by simp) rfl
              refine wpOpIn_step rfl fun K' hK' => ?_
              go_simp
              refine (CallsIn.inRound l1 (callsIn_wide.2 (HFN.out X.drew))).mono ?_
              rintro e w5 ⟨rfl, rfl⟩
              simp only [show updL L 10 2 = true from d2, show updL L 10 6 = true from d6, show updL L 10 8 = true from d8, show updL L 10 9 = true from d9, cond_true] at hK
              exact hK' _ _ hK
            · have d0 : L 0 = true := hdep _ rfl { on := 0, ground := .data } (by simp) rfl
              have d1 : L 1 = true := hdep _ rfl { on := 1, ground := .data } (by simp) rfl
              refine wpOpIn_step rfl fun K' hK' => ?_
              go_simp
              simp only [show updL L 11 0 = true from d0, show updL L 11 1 = true from d1, cond_true] at hK
              exact hK' _ _ hK
          case last =>
            intro L hall
            have d10 : L 10 = true := hall 10 (by omega)
            have d11 : L 11 = true := hall 11 (by omega)
            refine wpOpIn_step rfl fun K' hK' => ?_
            go_simp
            refine hK' _ _ ?_
            refine ⟨((KeepsOthers.setCell X _ _).trans (KeepsOthers.drew _)).from _, ((Kept.refl w.heap.size W.heap.size (W.heap.size + 1) X).setCell (p := ⟨R, s, none⟩) (by show w.heap.size ≤ R; omega) (by show R ≠ W.heap.size; omega) (by show R ≠ W.heap.size + 1; omega) _).trans (Kept.of_below (N := X.heap.size) ⟨rfl, rfl, rfl, Nat.le_refl _, fun _ _ => rfl⟩ (by have := hb3.size; omega) (by omega) (by omega)), ?_, ?_⟩
            · exact grown_trans (grown_trans HX.out.1 (KeepsRow.set X R s _)) (grown_drew _ _)
            · refine World.rowIs.drew ((HX.out.2.set s _).congr fun j hj => ?_)
              rw [raw_snoc]
              unfold valsF
              by_cases e : j = s
              · subst e
                rw [if_pos rfl, if_neg (by omega), if_pos rfl]
              · rw [if_neg e, if_neg (show ¬ (j : Int) = s by omega), if_neg (show ¬ (j : Int) = s by omega)]
      case done =>
        rintro D ys X hD hys ⟨hgX, hrX⟩ hKD
        have hX := hgX.size
        have hbX : Boxed X BN 3 (intV s) := (hbn.kept hg3 (by simp)).kept hgX (by intro e; cases e; omega)
        have hcn := hbX.cell
        gi_wp2_with fail
        refine ⟨s, Nat.lt_succ_self s, fun j => (#[undef, undef, undef, undef, undef, undef, undef, undef, undef, undef, undef, undef, undef, y 13, y 14, y 15, y 16, y 17, y 18, y 19, y 20, y 21, y 22, y 23, y 24, y 25, y 26, y 27, intV (s : Int), Value.bool true, Value.int .i64 (s : Int), Value.int .i64 ((s : Int) - 1), Value.agg #[Value.slice av ls.length cv, Value.slice au n cu], intV (s : Int), Value.func (Fn.func 59) #[] #[Value.pointer (some ⟨W.heap.size, 0, none⟩), Value.pointer (some ⟨W.heap.size + 1, 0, none⟩)], y 35, y 36, y 37, y 38, y 39, y 40, y 41, y 42, y 43, y 44, y 45, y 46, y 47, y 48, y 49, y 50, y 51, y 52, y 53, y 54, y 55, y 56, Value.int .i64 (s : Int), y 58] : Array Value).getD j undef, X.heap.size, D :: l, rfl, by omega, by omega, Boxed.new _ _ _, ?_, World.rowIs.alloc (hrX.congr fun j hj => ?_) _, ?_⟩
        · exact grown_far (grown_far hgr (grown_trans (hg3.to_row (some R)) hgX) (fun r e => .inl e.symm)) (World.grownBy_alloc X _ none) (by simp)
        · unfold valsF
          rw [hys]
          by_cases e : (j : Int) = s
          · rw [if_neg (by omega), if_pos e, if_pos (by omega), e, HF.out.low s (by omega)]
          · by_cases e2 : (s : Int) < j
            · rw [if_pos e2, if_pos (by omega)]
            · rw [if_neg e2, if_neg e, if_neg (by omega)]
              split
              · rw [HF.out.nil]
              · rfl
        · have hm3 : Marks w0.heap.size l W3 := hmk.keep (KeepsOthers.of_grownBy hg3 (by simp))
          obtain ⟨cc, hcc, _⟩ := hr3
          have hmX : Marks w0.heap.size l X := hm3.keep (KeepsOthers.of_grownBy hgX (fun j o e ho => by cases e; rw [hcc] at ho; cases ho; rfl))
          exact (hmX.cons (by omega) hKD (fun h => by have := hm3.lt h; omega)).keep (KeepsOthers.alloc _ _)
      case stop =>
        rintro D c pre X _ _ h _
        exact h.elim
end Go.Proofs.Ytipcelgoachjjaa
