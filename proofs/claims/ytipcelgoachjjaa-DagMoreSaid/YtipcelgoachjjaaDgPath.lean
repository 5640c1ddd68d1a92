/- The program's leastPath. -/
import Derived.Test.YtipcelgoachjjaaDgFold
import Derived.Test.YtipcelgoachjjaaDgRes
namespace Go.Proofs.Ytipcelgoachjjaa
set_option linter.unusedSimpArgs false
set_option linter.unusedVariables false
set_option maxRecDepth 100000
open Go.RowKit Go.Shelf Go.Deep
attribute [local go_sem] Oper.semAt_some wide_fn

/-- the three blocks ahead of the node's box -/
structure PathB (w W : World) (tG tL : TypeId) (x y p : Value) (H1 BP : Nat) : Prop where
  g : W.heap[w.heap.size]? = some (.cells #[x, y] tG (0, 0))
  b1 : Boxed W H1 tL p
  below : Below w.heap.size w W
structure PathB0 (w W : World) (tG tL : TypeId) (x y p z : Value) (H1 BP : Nat) : Prop extends PathB w W tG tL x y p H1 BP where
  bp : Boxed W BP tL z
  size : W.heap.size = BP + 1
theorem PathB.g0 {w W : World} {tG tL : TypeId} {x y p : Value} {H1 BP : Nat} (h : PathB w W tG tL x y p H1 BP) : W.cell? ⟨w.heap.size, 0, none⟩ = some x := by simp [World.cell?, h.g]
theorem PathB.g1 {w W : World} {tG tL : TypeId} {x y p : Value} {H1 BP : Nat} (h : PathB w W tG tL x y p H1 BP) : W.cell? ⟨w.heap.size, 1, none⟩ = some y := by simp [World.cell?, h.g]
theorem PathB0.keep {w W W' : World} {tG tL : TypeId} {x y p z : Value} {H1 BP : Nat} (h : PathB0 w W tG tL x y p z H1 BP) (hs : W.heap.size = BP + 1) (ho : w.heap.size < H1 ∧ H1 < BP) (hg : W.grownBy W' (some BP)) : PathB w W' tG tL x y p H1 BP :=
  ⟨(hg.block _ (by omega) (by intro e; cases e; omega)).trans h.g, h.b1.kept hg (by intro e; cases e; omega), h.below.trans (grown_below hg (by omega) (by intro r e; cases e; omega))⟩
theorem PathB.keep' {w W W' : World} {tG tL : TypeId} {x y p : Value} {H1 BP : Nat} (h : PathB w W tG tL x y p H1 BP) (hs : w.heap.size < W.heap.size) (ho : w.heap.size < H1 ∧ H1 < BP) (hg : W.grownBy W' none) : PathB w W' tG tL x y p H1 BP :=
  ⟨(hg.block _ (by omega) (by simp)).trans h.g, h.b1.kept hg (by simp), h.below.trans (grown_below hg (by omega) (by simp))⟩
theorem three_boxes (w : World) (tG tL : TypeId) (x y p z : Value) (w0 : World) (hw0 : ((w.alloc (.cells #[x, y] tG)).alloc (.cells #[p] tL)).alloc (.cells #[z] tL) = w0) (H1 BP : Nat) (hH1 : w.heap.size + 1 = H1) (hBP : H1 + 1 = BP) :
    PathB0 w w0 tG tL x y p z H1 BP := by
  subst hw0 hH1 hBP
  refine ⟨⟨?_, ?_, ?_⟩, ?_, by simp⟩
  · rw [Below.heap_alloc _ _ _ (by simp; omega), Below.heap_alloc _ _ _ (by simp)]
    exact blk_alloc_new _ _
  · refine Boxed.alloc ?_ _
    have := Boxed.new (w.alloc (.cells #[x, y] tG)) tL p
    simpa using this
  · exact (((Below.refl _ w).alloc (Nat.le_refl _) _).alloc (by simp) _).alloc (by simp; omega) _
  · have := Boxed.new ((w.alloc (.cells #[x, y] tG)).alloc (.cells #[p] tL)) tL z
    simpa using this
/-- the path and the node, as boxes hold them -/
structure PathX (w0 W : World) (BP BN : Nat) (x : Int) (pre : List Nat) (pv : Value) : Prop where
  gr : w0.grownBy W (some BP)
  bp : Boxed W BP 23 pv
  own : W.ownsRow w0.heap.size 3 1 pv pre.length (mapN pre)
  bn : Boxed W BN 3 (intV x)
  ne : pv.ownBlock ≠ some BN
abbrev PathW (w0 W : World) (BP BN x : Nat) (pre : List Nat) (pv : Value) : Prop := PathX w0 W BP BN (x : Int) pre pv
theorem own_kept_none {W W' : World} {B : Nat} {e : TypeId} {v : Value} {n : Nat} {xs : List Value} (h : W.ownsRow B e 1 v n xs) (hg : W.grownBy W' none) : W'.ownsRow B e 1 v n xs := h.kept hg (by cases hv : v.ownBlock <;> simp)
theorem PathX.step {w0 W W' : World} {BP BN : Nat} {x : Int} {pre : List Nat} {pv : Value} (h : PathX w0 W BP BN x pre pv) (hg : W.grownBy W' none) : PathX w0 W' BP BN x pre pv :=
  ⟨grown_far h.gr hg (by simp), h.bp.kept hg (by simp), own_kept_none h.own hg, h.bn.kept hg (by simp), h.ne⟩
theorem PathX.abides {w0 X Y : World} {BP BN N : Nat} {x : Int} {pre : List Nat} {pv : Value} {row : Option Nat} (h : PathX w0 X BP BN x pre pv) (hN : w0.heap.size ≤ N) (hg : X.grownBy Y row) (hr : ∀ r, row = some r → N ≤ r ∧ ∃ o : Obj, X.heap[r]? = some o ∧ o.isCells = false) : PathX w0 Y BP BN x pre pv := by
  have hb : ∀ {B : Nat} {t : TypeId} {u : Value}, Boxed X B t u → some B ≠ row := fun hB e => by
    obtain ⟨_, o, ho, hc⟩ := hr _ e.symm
    rw [show X.heap[_]? = _ from hB] at ho; cases ho; cases hc
  refine ⟨grown_far h.gr hg (fun r e => .inr (Nat.le_trans hN (hr r e).1)), h.bp.kept hg (hb h.bp), h.own.kept hg ?_, h.bn.kept hg (hb h.bn), h.ne⟩
  rcases h.own.2 with ⟨rfl, _⟩ | ⟨g, cap, cur, rfl, _, hgb, _⟩
  · exact .inl rfl
  · refine .inr fun e => ?_
    obtain ⟨_, o, ho, hc⟩ := hr g (by rw [← e]; rfl)
    rw [hgb] at ho; cases ho; cases hc
theorem ownsRow_forms' {W : World} {B : Nat} {e : TypeId} {v : Value} {n : Nat} {xs : List Value} (h : W.ownsRow B e 1 v n xs) : ∃ a c, v = .slice a n c := by
  rcases h.2 with ⟨rfl, rfl⟩ | ⟨g, cap, cur, rfl, _⟩
  · exact ⟨_, _, rfl⟩
  · exact ⟨_, _, rfl⟩
/-- a slice that lies within its capacity -/
def CapOk (v : Value) : Prop := ∀ a n c, v = .slice a n c → n ≤ c
theorem cap_own {W : World} {B : Nat} {e : TypeId} {v : Value} {n : Nat} {xs : List Value} (h : W.ownsRow B e 1 v n xs) : CapOk v := by
  intro a n' c e'
  rcases h.2 with ⟨rfl, rfl⟩ | ⟨g, cap, cur, rfl, _, _, h1, _⟩
  · cases e'; exact Nat.le_refl _
  · cases e'; exact h1
theorem cap_nil (a : Option Addr) (c : Nat) : CapOk (.slice a 0 c) := fun a' n c' e => by cases e; exact Nat.zero_le _
theorem ints_left {W W' : World} {B B' : Nat} {e : TypeId} {v : Value} {pre : List Nat} (h : W.ownsRow B e 1 v pre.length (mapN pre)) (hL : Left B' W W') : IntsAt W' v (toI pre) := by
  refine IntsAt.of_own (n := pre.length) (base := B) (e := e) ?_
  refine ⟨by simp, ?_⟩
  rcases h.2 with h1 | ⟨g, cap, cur, h1, h2, h3, h4, h5, h6, h7⟩
  · exact .inl h1
  · exact .inr ⟨g, cap, cur, h1, h2, hL.cells _ _ h3 rfl, h4, h5, h6, by rw [List.map_map]; exact h7⟩
theorem least_le {n : Int} {ls : List LkV} (hg : Gr n ls) {t s : Nat} (h : least ls t s ≠ -1) : s ≤ t := by
  by_cases e : s ≤ t
  · exact e
  · exact absurd (least_none hg.up (by omega)) h
theorem find_prefix {l : List Nat} {p : Nat → Bool} {q0 : List Nat} {i : Nat} (h1 : q0 ++ [i] <+: l) (h2 : ∀ j ∈ q0, p j = false) (h3 : p i = true) : l.find? p = some i := by
  obtain ⟨r, rfl⟩ := h1
  rw [List.append_assoc, List.find?_append, List.find?_eq_none.2 (fun j hj => by rw [h2 j hj]; simp)]
  simp [h3]

theorem wpListIn_append_lies {F : Fence} {n : Nat} {P : Program} (w : World) {ops : Array Oper} {rest : List Oper} {o : Oper} {a : Act} {Q : Exit → Act → World → Prop}
    (hg : o.guard = none) (s x : Operand) (t : TypeId) (hop : o.op = Op.call { callee := Callee.builtin Builtin.append, args := #[s, x], argTypes := #[t, t] })
    (base : Nat) (e : TypeId) (i : TypeInfo) (z : Value) (size bytes : Nat) (h1 : P.underlying t = some (.slice e)) (h2 : P.info? e = some i) (h3 : i.zero = some z) (h4 : i.size = size) (h5 : i.bytes = bytes) (h6 : z.cells.size = size) (h7 : 0 < size)
    (v : Value) (k : Nat) (xs : List Value) (hs : a.eval s = v) (hown : w.ownsRow base e size v k xs) (ad : Addr) (m c : Nat) (news : List Value) (hx : a.eval x = .slice (some ad) m c) (hn : news.length = m * size)
    (hc : ∀ j u, news[j]? = some u → w.cell? (ad.add j) = some u) (h1c : ∀ u ∈ news, u.oneCell' = true) (hm : 0 < m) (b1 : k + m ≤ maxLen) (b2 : (k + m) * bytes ≤ 140737488355328) (b3 : base ≤ w.heap.size) (H : Nat) (hH : w.heap.size = H)
    (hK : ∀ g cap w', w'.ownsRow base e size (.slice (some ⟨g, 0, none⟩) (k + m) cap) (k + m) (xs ++ news) → w.grownBy w' v.ownBlock → (v.ownBlock = some g ∨ g = H) → g < w'.heap.size → wpListIn F n P ops Q rest (a.put o.dst (.slice (some ⟨g, 0, none⟩) (k + m) cap)) w') :
    wpListIn F n P ops Q (o :: rest) a w := by
  refine wpListIn_plain hg fun K hK' => ?_
  obtain ⟨g, cap, w', hrun, r1, r2, r3, r4⟩ := run_append_lies (P := P) w t o.type base e i z size bytes h1 h2 h3 h4 h5 h6 h7 v k xs hown ad m c news hn hc h1c hm b1 b2 b3 H hH
  unfold Oper.wpIn
  refine ⟨?_, ?_⟩
  · simp [Oper.about, hop, resolve, Target.leads, Sem.run_pure]
  · rw [Oper.semAt_plain F _ _ (by rw [hop]; intro c hc'; cases hc')]
    simp [execOp, hop, resolve, invoke, builtin, hs, hx, hrun, Result.andThen]
    exact hK' _ _ (hK g cap w' r1 r2 r3 r4)
theorem PathX.linkKept {w0 W W1 : World} {BP BN B : Nat} {x f t c : Int} {pre : List Nat} {pv : Value} {o : Obj} (h : PathX w0 W BP BN x pre pv) (hk : W.heap[B]? = some (.cells #[intV f, intV t, intV c] 52 (0, 0))) (hgrow : (W.alloc o).grownBy W1 pv.ownBlock) (hne : B ≠ BP) (u : Value) :
    (W1.setCell ⟨BP, 0, none⟩ u).cell? ⟨B, 1, none⟩ = some (intV t) := by
  have hlt := (Array.getElem?_eq_some_iff.1 hk).1
  have e : (W1.setCell ⟨BP, 0, none⟩ u).heap[B]? = some (.cells #[intV f, intV t, intV c] 52 (0, 0)) := by
    rw [Below.heap_setCell _ _ _ _ (by exact hne), hgrow.block B (by simp; omega) (fun e => ?_), Below.heap_alloc _ _ _ hlt]
    · exact hk
    · rcases h.own.2 with ⟨rfl, _⟩ | ⟨g, cap, cur, rfl, _, hgb, _⟩
      · simp [Value.ownBlock] at e
      · obtain rfl : B = g := by simpa [Value.ownBlock] using e
        rw [hgb] at hk; cases hk
  simp [World.cell?, e]
/-- the path grows by a link, and the node goes on -/
theorem PathX.appended {w0 W W1 : World} {BP BN g cap i : Nat} {x t : Int} {pre : List Nat} {pv : Value} {o : Obj} (h : PathX w0 W BP BN x pre pv) (hBP : BP < w0.heap.size) (hBN : w0.heap.size ≤ BN)
    (hown : W1.ownsRow w0.heap.size 3 1 (.slice (some ⟨g, 0, none⟩) (pre.length + 1) cap) (pre.length + 1) (mapN pre ++ [intV i])) (hgrow : (W.alloc o).grownBy W1 pv.ownBlock) (hat : pv.ownBlock = some g ∨ g = (W.alloc o).heap.size) :
    Boxed W1 BP 23 pv ∧ Boxed (W1.setCell ⟨BP, 0, none⟩ (.slice (some ⟨g, 0, none⟩) (pre.length + 1) cap)) BN 3 (intV x) ∧
      (PathX w0 ((W1.setCell ⟨BP, 0, none⟩ (.slice (some ⟨g, 0, none⟩) (pre.length + 1) cap)).setCell ⟨BN, 0, none⟩ (intV t)) BP BN t (pre ++ [i]) (.slice (some ⟨g, 0, none⟩) (pre.length + 1) cap) ∧
        KeepsOthers W ((W1.setCell ⟨BP, 0, none⟩ (.slice (some ⟨g, 0, none⟩) (pre.length + 1) cap)).setCell ⟨BN, 0, none⟩ (intV t))) := by
  have hob : ∀ k, pv.ownBlock = some k → w0.heap.size ≤ k ∧ k < W.heap.size := h.own.lt
  have hlB := h.bn.lt
  have hlP := h.bp.lt
  have e1 : Boxed W1 BP 23 pv := (h.bp.alloc o).kept hgrow (fun e => by have := (hob BP e.symm).1; omega)
  have e2 : Boxed W1 BN 3 (intV x) := (h.bn.alloc o).kept hgrow (fun e => h.ne e.symm)
  have hgB : g ≠ BN := by
    rcases hat with h1 | h1
    · intro e; subst e; exact h.ne h1
    · intro e; subst e; simp at h1; omega
  have hgP : w0.heap.size ≤ g := (hown.lt g rfl).1
  have e3 : Boxed (W1.setCell ⟨BP, 0, none⟩ (.slice (some ⟨g, 0, none⟩) (pre.length + 1) cap)) BN 3 (intV x) := e2.other (by omega) _
  refine ⟨e1, e3, ⟨?_, (e1.set _).other (by omega) _, ?_, e3.set _, by simp [Value.ownBlock]; exact hgB⟩, ?_⟩
  · refine grown_far (grown_far (grown_far (grown_far h.gr (World.grownBy_alloc W o none) (by simp)) hgrow (fun r e => .inr (hob r e).1)) (grownBy_setCell' _ _ _) (fun r e => by cases e; exact .inl rfl)) (grownBy_setCell' _ _ _) (fun r e => by cases e; exact .inr hBN)
  · have hk : ∀ {Y : World} {b : Nat} (u : Value), Y.ownsRow w0.heap.size 3 1 (.slice (some ⟨g, 0, none⟩) (pre.length + 1) cap) (pre.length + 1) (mapN pre ++ [intV i]) → g ≠ b → (Y.setCell ⟨b, 0, none⟩ u).ownsRow w0.heap.size 3 1 (.slice (some ⟨g, 0, none⟩) (pre.length + 1) cap) (pre.length + 1) (mapN pre ++ [intV i]) := fun u hY hb =>
      hY.kept (grownBy_setCell' _ _ _) (.inr (by simp [Value.ownBlock]; exact hb))
    have := hk (b := BN) (intV t) (hk (b := BP) (.slice (some ⟨g, 0, none⟩) (pre.length + 1) cap) hown (by omega)) hgB
    simpa [mapN] using this
  · refine (((KeepsOthers.alloc W o).trans (KeepsOthers.of_grownBy hgrow fun j ob ej hj => ?_)).trans (KeepsOthers.setCell _ _ _)).trans (KeepsOthers.setCell _ _ _)
    rcases (h.own.alloc o).2 with ⟨rfl, _⟩ | ⟨g2, cap2, cur, rfl, _, hgb, _⟩
    · simp [Value.ownBlock] at ej
    · obtain rfl : g2 = j := by simpa [Value.ownBlock] using ej
      rw [hgb] at hj; cases hj; rfl

set_option maxHeartbeats 8000000 in
theorem leastPath_any (n : Nat) (ls : List LkV) (hg : Gr n ls) (n8 : n ≤ 8) (s t : Nat) (hs : s < n) (ht : t < n) (hl : least ls t s ≠ -1) (v u p : Value) (w : World) (hv : LinksAt w v ls) (hu : ListsAt w u (outs n ls)) (hp : IntsAt w p (tab n (least ls t))) :
    Calls Try.prog 42 #[.agg #[v, u], intV s, intV t, p] w fun e w' => ∃ r, e = .returned r ∧ (IntsAt w' r (toI (first ls t s)) ∧ CapOk r) ∧ Below w.heap.size w w' := by
  obtain ⟨i0, hi0, hz0, hz1, hz2⟩ := info_parts info_int
  have HV := Lib.hid hv
  have HU := Lib.hid hu
  have HP := Lib.hid hp
  obtain ⟨av, cv, rfl⟩ := hv.slice
  obtain ⟨au, cu, rfl, _⟩ := id hu
  obtain ⟨ap, cp, rfl⟩ := hp.slice
  have HG := Lib.hid hg
  have HL := Lib.hid hl
  clear hv hu hg hp hl
  rw [outs_len] at *
  rw [tab_len] at *
  refine (callsIn_wide (n := 9)).1 ?_
  refine callsIn_of_wp_marks Try.func42 rfl trivial ?_ rfl
  simp only [Try.ntmps42, List.size_toArray, List.length_cons, List.length_nil, Nat.reduceAdd, Nat.reduceSub, Array.replicate_succ, Array.replicate_zero, List.push_toArray, List.append_toArray, List.nil_append, List.cons_append]
  gi_wp2_with fail
  obtain ⟨H1, hH1⟩ : ∃ x, w.heap.size + 1 = x := ⟨_, rfl⟩
  obtain ⟨BP, hBP⟩ : ∃ x, H1 + 1 = x := ⟨_, rfl⟩
  obtain ⟨w0, hw0⟩ : ∃ x, ((w.alloc (.cells #[.slice av ls.length cv, .slice au n cu] tyG)).alloc (.cells #[.slice ap n cp] 23)).alloc (.cells #[.slice none 0 0] 23) = x := ⟨_, rfl⟩
  have F0 := Lib.hid (three_boxes w tyG 23 (.slice av ls.length cv) (.slice au n cu) (.slice ap n cp) (.slice none 0 0) w0 hw0 H1 BP hH1 hBP)
  rw [hw0, hH1, hBP]
  have hs0 : w0.heap.size = BP + 1 := F0.out.size
  have hBs : BP + 1 = w0.heap.size := hs0.symm
  have hord : w.heap.size < H1 ∧ H1 < BP := ⟨by omega, by omega⟩
  clear hw0 hH1 hBP
  rw [hBs]
  have hls := least_le HG.out HL.out
  refine wpIn_loop_down (fun m a W => ∃ (y : Nat → Value) (BN x : Nat) (l pre : List Nat) (pv : Value), a = { tmps := #[Value.agg #[Value.slice av ls.length cv, Value.slice au n cu], intV (s : Int), intV (t : Int), Value.slice ap n cp, Value.pointer (some ⟨w.heap.size, 0, none⟩), undef, undef, Value.pointer (some ⟨H1, 0, none⟩), Value.slice none 0 0, Value.pointer (some ⟨BP, 0, none⟩), Value.pointer (some ⟨BN, 0, none⟩), y 11, y 12, y 13, y 14, y 15, y 16, y 17, y 18, y 19, y 20, y 21, y 22, y 23, y 24, y 25, y 26, y 27, y 28, y 29, y 30, y 31, y 32, y 33, y 34, y 35, y 36, y 37, y 38, y 39, y 40, y 41, y 42, y 43, y 44, y 45, y 46, y 47, y 48], defers := l.map mark } ∧ m = t - x ∧ x ≤ t ∧ least ls t x ≠ -1 ∧ pre ++ first ls t x = first ls t s ∧ w0.heap.size ≤ BN ∧ PathW w0 W BP BN x pre pv ∧ pre.length ≤ x ∧ Marks w0.heap.size l W) (t - s) ?start ?round
  case start =>
    refine ⟨fun j => (#[undef, undef, undef, undef, undef, undef, undef, undef, undef, undef, undef, undef, undef, undef, intV (s : Int)] : Array Value).getD j undef, w0.heap.size, s, [], [], .slice none 0 0, rfl, rfl, hls, HL.out, rfl, Nat.le_refl _, ⟨World.grownBy_alloc _ _ _, F0.out.bp.alloc _, World.ownsRow_nil _ _ _ _, Boxed.new _ _ _, by simp [Value.ownBlock]⟩, Nat.zero_le _, Marks.nil _ _⟩
  case round =>
    rintro m a W ⟨y, BN, x, l, pre, pv, rfl, rfl, hxt, hlx, hfx, hle, hPW, hpl, hmk⟩
    have hF := F0.out.keep hs0 hord hPW.gr
    have hcn := hPW.bn.cell
    have hcp := hF.b1.cell
    have hcb := hPW.bp.cell
    have hg0 := hF.g0
    have hg1 := hF.g1
    have HFW := Lib.hid hF
    have HPW := Lib.hid hPW
    clear hF hPW
    by_cases hxe : x = t
    · subst hxe
      rw [first_end, List.append_nil] at hfx
      have hxx : ((x : Int) != (x : Int)) = false := by simp
      rcases ownsRow_forms' HPW.out.own with ⟨gq, cq, rfl⟩
      gi_wp2_with fail
      refine leaves_marks l W hmk fun W' hL => ?_
      refine ⟨_, results_tmp rfl _ _ _, _, rfl, ?_, HFW.out.below.trans (hL.below.mono (by have := F0.out.below.size; omega))⟩
      rw [← hfx]
      exact ⟨ints_left HPW.out.own hL, cap_own HPW.out.own⟩
    · have hxb : ((x : Int) != (t : Int)) = true := by rw [bne_iff_ne]; omega
      gi_wp2_with fail
      refine (callsIn_wide.2 (leaving_any (.slice av ls.length cv) (.slice au n cu) rfl rfl x W)).mono ?_
      rintro e w2 ⟨rfl, rfl⟩
      gi_wp2_with fail
      have hlW : w0.heap.size ≤ W.heap.size := HPW.out.gr.size
      have hlB := HPW.out.bn.lt
      have hw0s := F0.out.below.size
      obtain ⟨W3, hW3⟩ : ∃ z, (W.alloc (.cells #[.slice av ls.length cv, .slice au n cu] tyG)).alloc (.cells #[intV x] 3) = z := ⟨_, rfl⟩
      have hs3 : W3.heap.size = W.heap.size + 2 := by rw [← hW3]; simp
      have hg3 : W.grownBy W3 none := by rw [← hW3]; exact grown_trans (World.grownBy_alloc _ _ _) (World.grownBy_alloc _ _ _)
      have c30 : W3.cell? ⟨W.heap.size, 0, none⟩ = some (.slice av ls.length cv) := by rw [← hW3, World.cell?_alloc_lt _ _ _ (by simp), World.cell?_alloc_new]; rfl
      have c31 : W3.cell? ⟨W.heap.size, 1, none⟩ = some (.slice au n cu) := by rw [← hW3, World.cell?_alloc_lt _ _ _ (by simp), World.cell?_alloc_new]; rfl
      have c32 : W3.cell? ⟨W.heap.size + 1, 0, none⟩ = some (intV x) := by
        have := (Boxed.new (W.alloc (.cells #[.slice av ls.length cv, .slice au n cu] tyG)) 3 (intV x)).cell
        rw [hW3] at this; simpa using this
      have hb3 : Below w.heap.size w W3 := HFW.out.below.trans (grown_below hg3 (by omega) (by simp))
      have hlv := leaving_stops n ls HG.out x (by omega) (.slice av ls.length cv) (.slice au n cu) w HV.out HU.out w.heap.size W.heap.size (W.heap.size + 1) rfl W3 hb3 (by omega) (by omega) c30 c31 c32
      have hPW3 := HPW.out.step hg3
      have hm3 : Marks w0.heap.size l W3 := hmk.keep (KeepsOthers.of_grownBy hg3 (by simp))
      rw [hW3]
      refine wpIn_rangeFunc_ownH rfl (by omega) (gf := 59) (lb := #[.pointer (some ⟨W.heap.size, 0, none⟩), .pointer (some ⟨W.heap.size + 1, 0, none⟩)]) rfl trivial Try.call59
        hlv (fun h k => h.trans k) (keptK_b (by omega) (by omega) (by omega)) (Below.refl _ _) (fun _ => rfl)
        (fun q X => W3.grownBy X none ∧ ∀ i ∈ raw q, hit ls t x i = false)
        (fun c q X => c = .exit 2 ∧ ∃ (q0 : List Nat) (i : Nat) (pv' : Value), raw q = q0 ++ [i] ∧ (∀ j ∈ q0, hit ls t x j = false) ∧ hit ls t x i = true ∧ W3.heap.size ≤ X.heap.size ∧ Marks w0.heap.size l X ∧ PathX w0 X BP BN (lk ls i).t (pre ++ [i]) pv')
        (fun q X Y row h hg hr => ⟨grown_far h.1 hg (fun r e => .inr (hr r e).1), h.2⟩)
        (fun c q X Y row h hg hr => by
          obtain ⟨h1, q0, i, pv', h2, h3, h4, h5, h6, h7⟩ := h
          exact ⟨h1, q0, i, pv', h2, h3, h4, Nat.le_trans h5 hg.size, ⟨h6.nodup, fun D hD => ⟨(h6.each D hD).1, (hg.block D (h6.lt hD) (fun e => by have := (hr D e.symm).1; have := hm3.lt hD; omega)).trans (h6.each D hD).2⟩⟩, h7.abides (by omega) hg hr⟩)
        ⟨grown_refl _ _, by simp [raw]⟩
        (fun z a' X => ∃ B14 : Nat, W3.heap.size ≤ B14 ∧ X.heap[B14]? = some (.cells #[intV (lk ls z.1).f, intV (lk ls z.1).t, intV (lk ls z.1).c] 52 (0, 0)) ∧ a' = { tmps := #[Value.agg #[Value.slice av ls.length cv, Value.slice au n cu], intV (s : Int), intV (t : Int), Value.slice ap n cp, Value.pointer (some ⟨w.heap.size, 0, none⟩), undef, undef, Value.pointer (some ⟨H1, 0, none⟩), Value.slice none 0 0, Value.pointer (some ⟨BP, 0, none⟩), Value.pointer (some ⟨BN, 0, none⟩), intV (z.1 : Int), Value.pointer (some ⟨B14, 0, none⟩), y 13, y 14, intV (x : Int), intV (t : Int), Value.bool true, Value.agg #[Value.slice av ls.length cv, Value.slice au n cu], intV (x : Int), Value.func (Fn.func 59) #[] #[Value.pointer (some ⟨W.heap.size, 0, none⟩), Value.pointer (some ⟨W.heap.size + 1, 0, none⟩)], intV (z.1 : Int), lkV (lk ls z.1), y 23, y 24, y 25, y 26, y 27, y 28, y 29, y 30, y 31, y 32, y 33, y 34, y 35, y 36, y 37, y 38, y 39, y 40, y 41, y 42, y 43, y 44, y 45, y 46, y 47, y 48], defers := [] })
        (fun z a' _ X Y row h hg hr => by
          obtain ⟨B14, h1, h2, h3⟩ := h
          exact ⟨B14, h1, (hg.block B14 (Array.getElem?_eq_some_iff.1 h2).1 (fun e => by obtain ⟨_, o, ho, hc⟩ := hr B14 e.symm; rw [h2] at ho; cases ho; cases hc)).trans h2, h3⟩)
        ?assign ?body ?done ?stop
      case assign =>
        intro l1 q z X K hI hK
        have hX := hI.1.size
        gi_wp2
        exact hK _ _ ((KeepsOthers.alloc X _).from _) (Kept.of_below ((Below.refl _ X).alloc (Nat.le_refl _) _) (by have := hb3.size; omega) (by omega) (by omega)) ⟨grown_far hI.1 (World.grownBy_alloc X _ none) (by simp), hI.2⟩ ⟨X.heap.size, hX, blk_alloc_new _ _, rfl⟩
      case body =>
        rintro l1 q ⟨i, hio⟩ a' X hl1 hrec ⟨hgX, hno⟩ ⟨B14, hB14, hk14, rfl⟩ hlen
        have hX := hgX.size
        obtain ⟨hil, hif⟩ := mem_out.1 hio
        have hok := HG.out.lk hil
        obtain ⟨tt, htt⟩ : ∃ tt : Nat, (lk ls i).t = tt := ⟨(lk ls i).t.toNat, by have := hok.t0; omega⟩
        have hxtt : x < tt := by have := hok.lt; omega
        have htn : tt < n := by have := hok.t1; omega
        have hxn : x < n := by omega
        have hFX := (HFW.out.keep' (by omega) hord hg3).keep' (by omega) hord hgX
        have hPX := hPW3.step hgX
        have hbX : Below w.heap.size w X := hb3.trans (grown_below hgX (by omega) (by simp))
        have hcn := hPX.bn.cell
        have hcp := hFX.b1.cell
        have hl2 : X.cell? ⟨B14, 1, none⟩ = some (intV tt) := by simp [World.cell?, hk14, htt]
        have hl3 : X.cell? ⟨B14, 2, none⟩ = some (intV (lk ls i).c) := by simp [World.cell?, hk14]
        obtain ⟨bp, op, rfl, hbp, q1⟩ := HP.out.elem (j := tt) (by rw [tab_len]; exact htn)
        obtain ⟨_, _, e9, _, q2⟩ := HP.out.elem (j := x) (by rw [tab_len]; exact hxn)
        cases e9
        rw [tab_get] at q1 q2
        have p1 := (hbX.cell (p := ⟨bp, op + tt, none⟩) hbp).trans q1
        have p2 := (hbX.cell (p := ⟨bp, op + x, none⟩) hbp).trans q2
        have HI := Lib.hid hio
        have HT := Lib.hid htt
        have HX := Lib.hid (And.intro hgX hPX)
        have HNO := Lib.hid hno
        have HSI := Lib.hid (raw_snoc q ⟨i, hio⟩)
        have hlow : least ls t tt ≠ -1 → 0 ≤ least ls t tt ∧ least ls t tt ≤ 8796093022208 := fun h => by
          rcases low_high HG.out (t := t) (s := tt) with h1 | ⟨h1, h2, h3, h4, _⟩
          · exact absurd h1.1 h
          · exact ⟨h1, by omega⟩
        have hc0 := hok.c0
        have hc1 := hok.c1
        have HK14 := Lib.hid hk14
        clear hFX hPX hgX hok htt hno q1 q2 hbX hk14
        have hmiss : hit ls t x i = false → KeepsFrom W3.heap.size X X.drew ∧ Kept w.heap.size W.heap.size (W.heap.size + 1) X X.drew ∧ W3.grownBy X.drew none ∧ ∀ j ∈ raw (q ++ [⟨i, HI.out⟩]), hit ls t x j = false := fun h =>
          ⟨(KeepsOthers.drew X).from _, Kept.of_below (N := X.heap.size) ⟨rfl, rfl, rfl, Nat.le_refl _, fun _ _ => rfl⟩ (by have := hb3.size; omega) (by omega) (by omega), grown_trans HX.out.1 (grown_drew _ _), fun j hj => by
            rw [raw_snoc] at hj
            rcases List.mem_append.1 hj with h' | h'
            · exact HNO.out j h'
            · rw [List.mem_singleton.1 h']; exact h⟩
        have HM := Lib.hid hmiss
        clear hmiss
        by_cases hTn : least ls t tt = -1
        · have hh : hit ls t x i = false := by rw [hit, decide_eq_false_iff_not, HT.out, hTn]; simp
          rw [hTn] at p1
          gi_wp2_with fail
          refine wpIn_region_any (by kernel_rfl) ?_
          refine wpAnyIn_still (N := 13) (fun L => { tmps := #[Value.agg #[Value.slice av ls.length cv, Value.slice au n cu], intV (s : Int), intV (t : Int), Value.slice (some ⟨bp, op, none⟩) n cp, Value.pointer (some ⟨w.heap.size, 0, none⟩), undef, undef, Value.pointer (some ⟨H1, 0, none⟩), Value.slice none 0 0, Value.pointer (some ⟨BP, 0, none⟩), Value.pointer (some ⟨BN, 0, none⟩), intV (i : Int), Value.pointer (some ⟨B14, 0, none⟩), intV (-1), y 14, intV (x : Int), intV (t : Int), Value.bool true, Value.agg #[Value.slice av ls.length cv, Value.slice au n cu], intV (x : Int), Value.func (Fn.func 59) #[] #[Value.pointer (some ⟨W.heap.size, 0, none⟩), Value.pointer (some ⟨W.heap.size + 1, 0, none⟩)], intV (i : Int), lkV (lk ls i), Value.slice (some ⟨bp, op, none⟩) n cp, Value.pointer (some ⟨B14, 1, none⟩), intV (tt : Int), Value.pointer (some ⟨bp, op + tt, none⟩), intV (-1), cond (L 0) (intV (-1)) (y 28), cond (L 1) (Value.bool false) (y 29), cond (L 2) (Value.bool false) (y 30), cond (L 3) (undef) (y 31), cond (L 4) (undef) (y 32), cond (L 5) (undef) (y 33), cond (L 6) (undef) (y 34), cond (L 7) (undef) (y 35), cond (L 8) (undef) (y 36), cond (L 9) (undef) (y 37), cond (L 10) (undef) (y 38), cond (L 11) (undef) (y 39), cond (L 12) (Value.bool false) (y 40), y 41, y 42, y 43, y 44, y 45, y 46, y 47, y 48], defers := [] }) X.drew rfl (by kernel_rfl) ?step ?last 13 (Array.replicate 13 false) rfl rfl
          case step =>
            intro j hj L hdep K hK
            rcases (show j = 0 ∨ j = 1 ∨ j = 2 ∨ j = 3 ∨ j = 4 ∨ j = 5 ∨ j = 6 ∨ j = 7 ∨ j = 8 ∨ j = 9 ∨ j = 10 ∨ j = 11 ∨ j = 12 by omega) with rfl | rfl | rfl | rfl | rfl | rfl | rfl | rfl | rfl | rfl | rfl | rfl | rfl
            · refine wpOpIn_step rfl fun K' hK' => ?_
              go_simp
              exact hK' _ _ hK
            · have d0 : L 0 = true := hdep _ rfl { on := 0, ground := .data } (by simp) rfl
              refine wpOpIn_step rfl fun K' hK' => ?_
              go_simp
              simp only [show updL L 1 0 = true from d0, cond_true] at hK
              exact hK' _ _ hK
            · have d1 : L 1 = true := hdep _ rfl { on := 1, ground := .data } (by simp) rfl
              refine wpOpIn_step rfl fun K' hK' => ?_
              go_simp
              simp only [show updL L 2 1 = true from d1, cond_true] at hK
              exact hK' _ _ hK
            · have d2 : L 2 = true := hdep _ rfl { on := 2, ground := .guard } (by simp) rfl
              refine wpOpIn_step rfl fun K' hK' => ?_
              go_simp
              simp only [show updL L 3 2 = true from d2, cond_true] at hK
              exact hK' _ _ hK
            · have d2 : L 2 = true := hdep _ rfl { on := 2, ground := .guard } (by simp) rfl
              refine wpOpIn_step rfl fun K' hK' => ?_
              go_simp
              simp only [show updL L 4 2 = true from d2, cond_true] at hK
              exact hK' _ _ hK
            · have d2 : L 2 = true := hdep _ rfl { on := 2, ground := .guard } (by simp) rfl
              refine wpOpIn_step rfl fun K' hK' => ?_
              go_simp
              simp only [show updL L 5 2 = true from d2, cond_true] at hK
              exact hK' _ _ hK
            · have d2 : L 2 = true := hdep _ rfl { on := 2, ground := .guard } (by simp) rfl
              refine wpOpIn_step rfl fun K' hK' => ?_
              go_simp
              simp only [show updL L 6 2 = true from d2, cond_true] at hK
              exact hK' _ _ hK
            · have d2 : L 2 = true := hdep _ rfl { on := 2, ground := .guard } (by simp) rfl
              refine wpOpIn_step rfl fun K' hK' => ?_
              go_simp
              simp only [show updL L 7 2 = true from d2, cond_true] at hK
              exact hK' _ _ hK
            · have d2 : L 2 = true := hdep _ rfl { on := 2, ground := .guard } (by simp) rfl
              refine wpOpIn_step rfl fun K' hK' => ?_
              go_simp
              simp only [show updL L 8 2 = true from d2, cond_true] at hK
              exact hK' _ _ hK
            · have d2 : L 2 = true := hdep _ rfl { on := 2, ground := .guard } (by simp) rfl
              refine wpOpIn_step rfl fun K' hK' => ?_
              go_simp
              simp only [show updL L 9 2 = true from d2, cond_true] at hK
              exact hK' _ _ hK
            · have d2 : L 2 = true := hdep _ rfl { on := 2, ground := .guard } (by simp) rfl
              refine wpOpIn_step rfl fun K' hK' => ?_
              go_simp
              simp only [show updL L 10 2 = true from d2, cond_true] at hK
              exact hK' _ _ hK
            · have d2 : L 2 = true := hdep _ rfl { on := 2, ground := .guard } (by simp) rfl
              refine wpOpIn_step rfl fun K' hK' => ?_
              go_simp
              simp only [show updL L 11 2 = true from d2, cond_true] at hK
              exact hK' _ _ hK
            · have d2 : L 2 = true := hdep _ rfl { on := 2, ground := .data } (by simp) rfl
              refine wpOpIn_step rfl fun K' hK' => ?_
              go_simp
              simp only [show updL L 12 2 = true from d2, cond_true] at hK
              exact hK' _ _ hK
          case last =>
            gi_wp2_with fail
            exact HM.out hh
        · have hlo := hlow hTn
          have hTb : (least ls t tt != -1) = true := by rw [bne_iff_ne]; exact hTn
          have hw : IntKind.i64.wrap ((lk ls i).c + least ls t tt) = (lk ls i).c + least ls t tt := IntWalk.i64_in _ (by omega)
          by_cases hE : (lk ls i).c + least ls t tt = least ls t x
          · have hh : hit ls t x i = true := by rw [hit, decide_eq_true_eq, HT.out]; exact ⟨hTn, hE⟩
            have hEb : ((lk ls i).c + least ls t tt == least ls t x) = true := by simpa using hE
            have HHH := Lib.hid hh
            have HE := Lib.hid hE
            clear hh HM hE
            gi_wp2_with fail
            refine wpIn_region_any (by kernel_rfl) ?_
            refine wpAnyIn_still (N := 13) (fun L => { tmps := #[Value.agg #[Value.slice av ls.length cv, Value.slice au n cu], intV (s : Int), intV (t : Int), Value.slice (some ⟨bp, op, none⟩) n cp, Value.pointer (some ⟨w.heap.size, 0, none⟩), undef, undef, Value.pointer (some ⟨H1, 0, none⟩), Value.slice none 0 0, Value.pointer (some ⟨BP, 0, none⟩), Value.pointer (some ⟨BN, 0, none⟩), intV (i : Int), Value.pointer (some ⟨B14, 0, none⟩), intV (least ls t tt), y 14, intV (x : Int), intV (t : Int), Value.bool true, Value.agg #[Value.slice av ls.length cv, Value.slice au n cu], intV (x : Int), Value.func (Fn.func 59) #[] #[Value.pointer (some ⟨W.heap.size, 0, none⟩), Value.pointer (some ⟨W.heap.size + 1, 0, none⟩)], intV (i : Int), lkV (lk ls i), Value.slice (some ⟨bp, op, none⟩) n cp, Value.pointer (some ⟨B14, 1, none⟩), intV (tt : Int), Value.pointer (some ⟨bp, op + tt, none⟩), intV (least ls t tt), cond (L 0) (intV (least ls t tt)) (y 28), cond (L 1) (Value.bool true) (y 29), cond (L 2) (Value.bool true) (y 30), cond (L 3) (Value.pointer (some ⟨B14, 2, none⟩)) (y 31), cond (L 4) (intV (lk ls i).c) (y 32), cond (L 5) (intV (least ls t tt)) (y 33), cond (L 6) (intV ((lk ls i).c + least ls t tt)) (y 34), cond (L 7) (Value.slice (some ⟨bp, op, none⟩) n cp) (y 35), cond (L 8) (intV (x : Int)) (y 36), cond (L 9) (Value.pointer (some ⟨bp, op + x, none⟩)) (y 37), cond (L 10) (intV (least ls t x)) (y 38), cond (L 11) (Value.bool true) (y 39), cond (L 12) (Value.bool true) (y 40), y 41, y 42, y 43, y 44, y 45, y 46, y 47, y 48], defers := [] }) X.drew rfl (by kernel_rfl) ?step ?last 13 (Array.replicate 13 false) rfl rfl
            case step =>
              intro j hj L hdep K hK
              rcases (show j = 0 ∨ j = 1 ∨ j = 2 ∨ j = 3 ∨ j = 4 ∨ j = 5 ∨ j = 6 ∨ j = 7 ∨ j = 8 ∨ j = 9 ∨ j = 10 ∨ j = 11 ∨ j = 12 by omega) with rfl | rfl | rfl | rfl | rfl | rfl | rfl | rfl | rfl | rfl | rfl | rfl | rfl
              · refine wpOpIn_step rfl fun K' hK' => ?_
                go_simp
                exact hK' _ _ hK
              · have d0 : L 0 = true := hdep _ rfl { on := 0, ground := .data } (by simp) rfl
                refine wpOpIn_step rfl fun K' hK' => ?_
                go_simp
                simp only [show updL L 1 0 = true from d0, cond_true] at hK
                exact hK' _ _ hK
              · have d1 : L 1 = true := hdep _ rfl { on := 1, ground := .data } (by simp) rfl
                refine wpOpIn_step rfl fun K' hK' => ?_
                go_simp
                simp only [show updL L 2 1 = true from d1, cond_true] at hK
                exact hK' _ _ hK
              · have d2 : L 2 = true := hdep _ rfl { on := 2, ground := .guard } (by simp) rfl
                refine wpOpIn_step rfl fun K' hK' => ?_
                go_simp
                simp only [show updL L 3 2 = true from d2, cond_true] at hK
                exact hK' _ _ hK
              · have d3 : L 3 = true := hdep _ rfl { on := 3, ground := .data } (by simp) rfl
                have d2 : L 2 = true := hdep _ rfl { on := 2, ground := .guard } (by simp) rfl
                refine wpOpIn_step rfl fun K' hK' => ?_
                go_simp
                simp only [show updL L 4 3 = true from d3, show updL L 4 2 = true from d2, cond_true] at hK
                exact hK' _ _ hK
              · have d2 : L 2 = true := hdep _ rfl { on := 2, ground := .guard } (by simp) rfl
                refine wpOpIn_step rfl fun K' hK' => ?_
                go_simp
                simp only [show updL L 5 2 = true from d2, cond_true] at hK
                exact hK' _ _ hK
              · have d4 : L 4 = true := hdep _ rfl { on := 4, ground := .data } (by simp) rfl
                have d5 : L 5 = true := hdep _ rfl { on := 5, ground := .data } (by simp) rfl
                have d2 : L 2 = true := hdep _ rfl { on := 2, ground := .guard } (by simp) rfl
                refine wpOpIn_step rfl fun K' hK' => ?_
                go_simp
                simp only [show updL L 6 4 = true from d4, show updL L 6 5 = true from d5, show updL L 6 2 = true from d2, cond_true] at hK
                exact hK' _ _ hK
              · have d2 : L 2 = true := hdep _ rfl { on := 2, ground := .guard } (by simp) rfl
                refine wpOpIn_step rfl fun K' hK' => ?_
                go_simp
                simp only [show updL L 7 2 = true from d2, cond_true] at hK
                exact hK' _ _ hK
              · have d2 : L 2 = true := hdep _ rfl { on := 2, ground := .guard } (by simp) rfl
                refine wpOpIn_step rfl fun K' hK' => ?_
                go_simp
                simp only [show updL L 8 2 = true from d2, cond_true] at hK
                exact hK' _ _ hK
              · have d7 : L 7 = true := hdep _ rfl { on := 7, ground := .data } (by simp) rfl
                have d8 : L 8 = true := hdep _ rfl { on := 8, ground := .data } (by simp) rfl
                have d2 : L 2 = true := hdep _ rfl { on := 2, ground := .guard } (by simp) rfl
                refine wpOpIn_step rfl fun K' hK' => ?_
                go_simp
                simp only [show updL L 9 7 = true from d7, show updL L 9 8 = true from d8, show updL L 9 2 = true from d2, cond_true] at hK
                exact hK' _ _ hK
              · have d9 : L 9 = true := hdep _ rfl { on := 9, ground := .data } (by simp) rfl
                have d2 : L 2 = true := hdep _ rfl { on := 2, ground := .guard } (by simp) rfl
                refine wpOpIn_step rfl fun K' hK' => ?_
                go_simp
                simp only [show updL L 10 9 = true from d9, show updL L 10 2 = true from d2, cond_true] at hK
                exact hK' _ _ hK
              · have d6 : L 6 = true := hdep _ rfl { on := 6, ground := .data } (by simp) rfl
                have d10 : L 10 = true := hdep _ rfl { on := 10, ground := .data } (by simp) rfl
                have d2 : L 2 = true := hdep _ rfl { on := 2, ground := .guard } (by simp) rfl
                refine wpOpIn_step rfl fun K' hK' => ?_
                go_simp
                simp only [show updL L 11 6 = true from d6, show updL L 11 10 = true from d10, show updL L 11 2 = true from d2, cond_true] at hK
                exact hK' _ _ hK
              · have d2 : L 2 = true := hdep _ rfl { on := 2, ground := .data } (by simp) rfl
                have d11 : L 11 = true := hdep _ rfl { on := 11, ground := .data } (by simp) rfl
                refine wpOpIn_step rfl fun K' hK' => ?_
                go_simp
                simp only [show updL L 12 2 = true from d2, show updL L 12 11 = true from d11, cond_true] at hK
                exact hK' _ _ hK
            case last =>
              have hPD := HX.out.2.step (grown_drew X none)
              have hcbx := hPD.bp.cell
              have HPD := Lib.hid hPD
              have hpx : pre.length ≤ 4096 := by omega
              have hXs : w0.heap.size ≤ X.heap.size := by omega
              clear hPD
              gi_wp2_with (gi_at_builtin; refine wpListIn_append_lies _ rfl _ _ 23 rfl w0.heap.size 3 i0 (.int .i64 0) 1 8 Try.underlying23 hi0 hz0 hz1 hz2 rfl (by decide) _ _ _ rfl (HPD.out.own.alloc _) ⟨X.heap.size, 0, none⟩ 1 1 [intV i] rfl rfl (cell_one_new _ _ _) (by simp [Value.oneCell']) (by decide) (by unfold maxLen; omega) (by omega) (by simp; omega) _ rfl ?_; intro g' cap' w5 hown hgrow hat hlt5; obtain ⟨hA, hA2, hA3⟩ := HPD.out.appended (t := (tt : Int)) (by omega) hle hown hgrow hat; have hcl := HPD.out.linkKept HK14.out hgrow (by omega) (.slice (some ⟨g', 0, none⟩) (pre.length + 1) cap'); rw [HT.out] at hcl; have HA3 := Lib.hid (And.intro hA3 hA2.lt); clear hA3; have hc1 := hA.cell; have hf1 := hA.frozen; have hc2 := hA2.cell; have hf2 := hA2.frozen)
              have hKO := ((KeepsOthers.drew X).trans HA3.out.1.2)
              refine ⟨hKO.from _, rfl, raw q, i, .slice (some ⟨g', 0, none⟩) (pre.length + 1) cap', raw_snoc _ _, HNO.out, HHH.out, Nat.le_trans hX hKO.size, (hm3.keep (KeepsOthers.of_grownBy HX.out.1 (by simp))).keep hKO, ?_⟩
              rw [HT.out]
              exact HA3.out.1.1
          · have hh : hit ls t x i = false := by rw [hit, decide_eq_false_iff_not, HT.out]; exact fun h => hE h.2
            have hEb : ((lk ls i).c + least ls t tt == least ls t x) = false := by simpa using hE
            have HHH := Lib.hid hh
            clear hh
            gi_wp2_with fail
            refine wpIn_region_any (by kernel_rfl) ?_
            refine wpAnyIn_still (N := 13) (fun L => { tmps := #[Value.agg #[Value.slice av ls.length cv, Value.slice au n cu], intV (s : Int), intV (t : Int), Value.slice (some ⟨bp, op, none⟩) n cp, Value.pointer (some ⟨w.heap.size, 0, none⟩), undef, undef, Value.pointer (some ⟨H1, 0, none⟩), Value.slice none 0 0, Value.pointer (some ⟨BP, 0, none⟩), Value.pointer (some ⟨BN, 0, none⟩), intV (i : Int), Value.pointer (some ⟨B14, 0, none⟩), intV (least ls t tt), y 14, intV (x : Int), intV (t : Int), Value.bool true, Value.agg #[Value.slice av ls.length cv, Value.slice au n cu], intV (x : Int), Value.func (Fn.func 59) #[] #[Value.pointer (some ⟨W.heap.size, 0, none⟩), Value.pointer (some ⟨W.heap.size + 1, 0, none⟩)], intV (i : Int), lkV (lk ls i), Value.slice (some ⟨bp, op, none⟩) n cp, Value.pointer (some ⟨B14, 1, none⟩), intV (tt : Int), Value.pointer (some ⟨bp, op + tt, none⟩), intV (least ls t tt), cond (L 0) (intV (least ls t tt)) (y 28), cond (L 1) (Value.bool true) (y 29), cond (L 2) (Value.bool true) (y 30), cond (L 3) (Value.pointer (some ⟨B14, 2, none⟩)) (y 31), cond (L 4) (intV (lk ls i).c) (y 32), cond (L 5) (intV (least ls t tt)) (y 33), cond (L 6) (intV ((lk ls i).c + least ls t tt)) (y 34), cond (L 7) (Value.slice (some ⟨bp, op, none⟩) n cp) (y 35), cond (L 8) (intV (x : Int)) (y 36), cond (L 9) (Value.pointer (some ⟨bp, op + x, none⟩)) (y 37), cond (L 10) (intV (least ls t x)) (y 38), cond (L 11) (Value.bool false) (y 39), cond (L 12) (Value.bool false) (y 40), y 41, y 42, y 43, y 44, y 45, y 46, y 47, y 48], defers := [] }) X.drew rfl (by kernel_rfl) ?step ?last 13 (Array.replicate 13 false) rfl rfl
            case step =>
              intro j hj L hdep K hK
              rcases (show j = 0 ∨ j = 1 ∨ j = 2 ∨ j = 3 ∨ j = 4 ∨ j = 5 ∨ j = 6 ∨ j = 7 ∨ j = 8 ∨ j = 9 ∨ j = 10 ∨ j = 11 ∨ j = 12 by omega) with rfl | rfl | rfl | rfl | rfl | rfl | rfl | rfl | rfl | rfl | rfl | rfl | rfl
              · refine wpOpIn_step rfl fun K' hK' => ?_
                go_simp
                exact hK' _ _ hK
              · have d0 : L 0 = true := hdep _ rfl { on := 0, ground := .data } (by simp) rfl
                refine wpOpIn_step rfl fun K' hK' => ?_
                go_simp
                simp only [show updL L 1 0 = true from d0, cond_true] at hK
                exact hK' _ _ hK
              · have d1 : L 1 = true := hdep _ rfl { on := 1, ground := .data } (by simp) rfl
                refine wpOpIn_step rfl fun K' hK' => ?_
                go_simp
                simp only [show updL L 2 1 = true from d1, cond_true] at hK
                exact hK' _ _ hK
              · have d2 : L 2 = true := hdep _ rfl { on := 2, ground := .guard } (by simp) rfl
                refine wpOpIn_step rfl fun K' hK' => ?_
                go_simp
                simp only [show updL L 3 2 = true from d2, cond_true] at hK
                exact hK' _ _ hK
              · have d3 : L 3 = true := hdep _ rfl { on := 3, ground := .data } (by simp) rfl
                have d2 : L 2 = true := hdep _ rfl { on := 2, ground := .guard } (by simp) rfl
                refine wpOpIn_step rfl fun K' hK' => ?_
                go_simp
                simp only [show updL L 4 3 = true from d3, show updL L 4 2 = true from d2, cond_true] at hK
                exact hK' _ _ hK
              · have d2 : L 2 = true := hdep _ rfl { on := 2, ground := .guard } (by simp) rfl
                refine wpOpIn_step rfl fun K' hK' => ?_
                go_simp
                simp only [show updL L 5 2 = true from d2, cond_true] at hK
                exact hK' _ _ hK
              · have d4 : L 4 = true := hdep _ rfl { on := 4, ground := .data } (by simp) rfl
                have d5 : L 5 = true := hdep _ rfl { on := 5, ground := .data } (by simp) rfl
                have d2 : L 2 = true := hdep _ rfl { on := 2, ground := .guard } (by simp) rfl
                refine wpOpIn_step rfl fun K' hK' => ?_
                go_simp
                simp only [show updL L 6 4 = true from d4, show updL L 6 5 = true from d5, show updL L 6 2 = true from d2, cond_true] at hK
                exact hK' _ _ hK
              · have d2 : L 2 = true := hdep _ rfl { on := 2, ground := .guard } (by simp) rfl
                refine wpOpIn_step rfl fun K' hK' => ?_
                go_simp
                simp only [show updL L 7 2 = true from d2, cond_true] at hK
                exact hK' _ _ hK
              · have d2 : L 2 = true := hdep _ rfl { on := 2, ground := .guard } (by simp) rfl
                refine wpOpIn_step rfl fun K' hK' => ?_
                go_simp
                simp only [show updL L 8 2 = true from d2, cond_true] at hK
                exact hK' _ _ hK
              · have d7 : L 7 = true := hdep _ rfl { on := 7, ground := .data } (by simp) rfl
                have d8 : L 8 = true := hdep _ rfl { on := 8, ground := .data } (by simp) rfl
                have d2 : L 2 = true := hdep _ rfl { on := 2, ground := .guard } (by simp) rfl
                refine wpOpIn_step rfl fun K' hK' => ?_
                go_simp
                simp only [show updL L 9 7 = true from d7, show updL L 9 8 = true from d8, show updL L 9 2 = true from d2, cond_true] at hK
                exact hK' _ _ hK
              · have d9 : L 9 = true := hdep _ rfl { on := 9, ground := .data } (by simp) rfl
                have d2 : L 2 = true := hdep _ rfl { on := 2, ground := .guard } (by simp) rfl
                refine wpOpIn_step rfl fun K' hK' => ?_
                go_simp
                simp only [show updL L 10 9 = true from d9, show updL L 10 2 = true from d2, cond_true] at hK
                exact hK' _ _ hK
              · have d6 : L 6 = true := hdep _ rfl { on := 6, ground := .data } (by simp) rfl
                have d10 : L 10 = true := hdep _ rfl { on := 10, ground := .data } (by simp) rfl
                have d2 : L 2 = true := hdep _ rfl { on := 2, ground := .guard } (by simp) rfl
                refine wpOpIn_step rfl fun K' hK' => ?_
                go_simp
                simp only [show updL L 11 6 = true from d6, show updL L 11 10 = true from d10, show updL L 11 2 = true from d2, cond_true] at hK
                exact hK' _ _ hK
              · have d2 : L 2 = true := hdep _ rfl { on := 2, ground := .data } (by simp) rfl
                have d11 : L 11 = true := hdep _ rfl { on := 11, ground := .data } (by simp) rfl
                refine wpOpIn_step rfl fun K' hK' => ?_
                go_simp
                simp only [show updL L 12 2 = true from d2, show updL L 12 11 = true from d11, cond_true] at hK
                exact hK' _ _ hK
            case last =>
              gi_wp2_with fail
              exact HM.out HHH.out
      case done =>
        rintro D ys X hD hys ⟨hgX, hno⟩ hKD
        exfalso
        obtain ⟨i, hi⟩ := hit_some HG.out (show (x : Int) ≠ t by omega) hlx
        have h1 := List.find?_some hi
        have h2 := List.mem_of_find?_eq_some hi
        rw [← hys] at h2
        rw [hno i h2] at h1; cases h1
      case stop =>
        rintro D c q X hD hq ⟨rfl, q0, i, pv', h2, h3, h4, h5, h6, h7⟩ hKD
        rw [h2] at hq
        have hfind := find_prefix hq h3 h4
        have hio := List.mem_of_find?_eq_some hfind
        obtain ⟨hil, hif⟩ := mem_out.1 hio
        have hok := HG.out.lk hil
        obtain ⟨tt, htt⟩ : ∃ tt : Nat, (lk ls i).t = tt := ⟨(lk ls i).t.toNat, by have := hok.t0; omega⟩
        have hxtt : x < tt := by have := hok.lt; omega
        have hne : least ls t tt ≠ -1 := by rw [hit, decide_eq_true_eq, htt] at h4; exact h4.1
        have hlt := least_le HG.out hne
        have hfst : (pre ++ [i]) ++ first ls t tt = first ls t s := by
          rw [← hfx, first_rec HG.out.up (by omega) hfind, htt]; simp
        rw [htt] at h7
        have hcn := h7.bn.cell
        have H7 := Lib.hid h7
        have H6 := Lib.hid (h6.cons (by omega) hKD (fun h => by have := hm3.lt h; omega))
        clear h7 h6 hok htt
        gi_wp2_with fail
        refine ⟨t - tt, by omega, fun j => (#[undef, undef, undef, undef, undef, undef, undef, undef, undef, undef, undef, y 11, y 12, y 13, y 14, intV (x : Int), intV (t : Int), Value.bool true, Value.agg #[Value.slice av ls.length cv, Value.slice au n cu], intV (x : Int), Value.func (Fn.func 59) #[] #[Value.pointer (some ⟨W.heap.size, 0, none⟩), Value.pointer (some ⟨W.heap.size + 1, 0, none⟩)], y 21, y 22, y 23, y 24, y 25, y 26, y 27, y 28, y 29, y 30, y 31, y 32, y 33, y 34, y 35, y 36, y 37, y 38, y 39, y 40, y 41, y 42, y 43, y 44, y 45, y 46, intV (tt : Int), y 48] : Array Value).getD j undef, X.heap.size, tt, D :: l, pre ++ [i], pv', rfl, rfl, hlt, hne, hfst, by omega, ?_, by simp; omega, H6.out.keep (KeepsOthers.alloc _ _)⟩
        exact ⟨grown_far H7.out.gr (World.grownBy_alloc X _ none) (by simp), H7.out.bp.alloc _, H7.out.own.alloc _, Boxed.new _ _ _, fun e => by have := (H7.out.own.lt _ e).2; omega⟩
end Go.Proofs.Ytipcelgoachjjaa
