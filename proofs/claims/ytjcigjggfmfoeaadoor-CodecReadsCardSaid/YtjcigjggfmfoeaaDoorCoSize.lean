/- values, Size and Check of the program. -/
import Derived.Test.YtjcigjggfmfoeaaDoorCoIter
import Derived.BigRegionIn
namespace Go.Proofs.YtjcigjggfmfoeaaDoor
set_option linter.unusedSimpArgs false
set_option linter.unusedVariables false
set_option maxRecDepth 100000
open Go.RowKit Go.Shelf Go.Deep
attribute [local go_sem] Oper.semAt_some wide_fn

set_option maxHeartbeats 1000000 in
theorem values1_in (w0 : World) (P : Nat → Prop) (x : Val) (k n : Int) (t : ByteArray) (a : Option Addr) (m c : Nat) (hv : VAt w0 P (.agg #[intV k, intV n, .string t, .slice a m c]) x) (ht : tot x ≤ 99999) (B l : Nat) (J Jx : List (El w0 P) → World → Prop) (hJ : ∀ s W o, J s W → J s (W.alloc o)) (m' : Nat)
    (hY : ∀ pre p W, J pre W → (pre ++ [p]).map El.pr <+: vals 1 x → YieldAt Fence.wide m' Tryd.prog l (encE p) W fun e W' =>
      (e = .returned (.bool true) ∧ J (pre ++ [p]) W' ∧ KpV w0.heap.size W W') ∨ (e = .returned (.bool false) ∧ Jx (pre ++ [p]) W'))
    (W : World) (hK : KpV w0.heap.size w0 W) (hB : W.heap[B]? = some (.cells #[intV k, intV n, .string t, .slice a m c] 24 (0, 0))) (h0 : J [] W) :
    CallsIn Fence.wide 8 Tryd.prog 50 #[.func (.yield l) #[] #[], .pointer (some ⟨B, 0, none⟩)] W fun e W' => (∃ v, e = .returned v) ∧
      ((∃ ys : List (El w0 P), ys.map El.pr = vals 1 x ∧ J ys W') ∨ (∃ pre : List (El w0 P), pre.map El.pr <+: vals 1 x ∧ Jx pre W')) := by
  obtain ⟨q0, q1, q2, q3⟩ := heap4 hB
  have HW := Lib.hid (walk_in l (vals 1 x) w0 P w0.heap.size rfl J Jx hJ (fun m pre p W h1 h2 => yield_any m (hY pre p W h1 h2)) x 7 1 _ [] W hv hK h0 (List.prefix_refl _) (by omega))
  clear hY hv hK h0 hB
  refine callsIn_of_wp Tryd.func50 rfl trivial ?_ rfl
  simp only [Tryd.ntmps50, List.size_toArray, List.length_cons, List.length_nil, Nat.reduceAdd, Nat.reduceSub, Array.replicate_succ, Array.replicate_zero, List.push_toArray, List.append_toArray, List.nil_append, List.cons_append]
  gi_wp2_with fail
  refine HW.out.mono ?_
  clear HW q0 q1 q2 q3
  rintro e w3 (⟨rfl, ps, hps, hJ3, hK3⟩ | ⟨rfl, ps, hps, hJx3⟩)
  · gi_wp2
    go_end0
    exact ⟨⟨_, rfl⟩, .inl ⟨ps, hps, by simpa using hJ3⟩⟩
  · gi_wp2
    go_end0
    exact ⟨⟨_, rfl⟩, .inr ⟨ps, hps, by simpa using hJx3⟩⟩
set_option maxHeartbeats 1000000 in
theorem values_any (k n : Int) (t : ByteArray) (a : Option Addr) (m c : Nat) (w : World) :
    Calls Tryd.prog 33 #[.agg #[intV k, intV n, .string t, .slice a m c]] w fun e w' => e = .returned (.func (.func 50) #[] #[.pointer (some ⟨w.heap.size, 0, none⟩)]) ∧ w' = w.alloc (.cells #[intV k, intV n, .string t, .slice a m c] 24) := by
  go_enter Tryd.func33, Tryd.ntmps33
  go_wp2
  go_ret
  exact ⟨rfl, rfl⟩
theorem values_stops (w0 : World) (P : Nat → Prop) (x : Val) (k n : Int) (t : ByteArray) (a : Option Addr) (m c : Nat) (hv : VAt w0 P (.agg #[intV k, intV n, .string t, .slice a m c]) x) (ht : tot x ≤ 99999) (B : Nat) (w : World) (hK : KpV w0.heap.size w0 w) (hB : w.heap[B]? = some (.cells #[intV k, intV n, .string t, .slice a m c] 24 (0, 0))) :
    SeqStopsK Fence.wide 8 Tryd.prog 50 #[.pointer (some ⟨B, 0, none⟩)] (encE (w0 := w0) (P := P)) (KpV w0.heap.size) (fun ys => ys.map El.pr = vals 1 x) (fun pre => pre.map El.pr <+: vals 1 x) (cnt x) w := fun l J Jx W hW hJ _ hY h0 =>
  values1_in w0 P x k n t a m c hv ht B l J Jx (fun s W o h => hJ s W _ none h (World.grownBy_alloc W o none) (fun r e => by cases e)) _ (fun pre p W1 h1 h2 => hY pre p W1 h1 (by have := h2.length_le; rw [List.length_map, List.length_append, vals_len] at this; simp at this; omega)) W
    (hK.trans ⟨hW.mono hK.1.size, fun b cs hb => hW.block b (heap_lt hb)⟩) ((hW.block B (heap_lt hB)).trans hB) h0

theorem vat_of' {W : World} {P : Nat → Prop} {x : Val} {v : Value} (h : VAt W P v x) : x.tx.size ≤ 9223372036854775807 ∧ x.its.length ≤ 9223372036854775807 := by
  obtain ⟨k, n, t, l⟩ := x
  obtain ⟨_, _, h3, h4, _⟩ := vat_of h
  exact ⟨h3, h4⟩
theorem ty_iv : (3 : TypeId) ≠ 24 := by decide
theorem ty_ev : (27 : TypeId) ≠ 24 := by decide
theorem KpV.set {n₀ B : Nat} {W : World} {t : TypeId} {v : Value} (hb : Boxed W B t v) (ht : t ≠ 24) (h : n₀ ≤ B) (u : Value) : KpV n₀ W (W.setCell ⟨B, 0, none⟩ u) :=
  ⟨(Below.refl _ _).setCell (p := ⟨B, 0, none⟩) h u, fun b c hc => Below.heap_setCell _ _ _ _ (fun e => by
    subst e
    rw [show W.heap[_]? = _ from hb] at hc
    simp only [Option.some.injEq, Obj.cells.injEq] at hc
    exact ht hc.2.1)⟩
theorem KpV.of_below {n₀ : Nat} {A B : World} (h : Below A.heap.size A B) (hn : n₀ ≤ A.heap.size) : KpV n₀ A B := ⟨h.mono hn, fun b c hc => h.block b (heap_lt hc)⟩
theorem keeps_below {A B : World} (h : Below A.heap.size A B) : KeepsOthers A B := ⟨h.size, fun k o hk ho => (h.block k (heap_lt hk)).trans hk⟩
theorem boxed_below {A B : World} {b : Nat} {t : TypeId} {v : Value} (hb : Boxed A b t v) (h : Below A.heap.size A B) : Boxed B b t v := (h.block b hb.lt).trans hb
theorem heap_push (w : World) (o : Obj) : (w.alloc o).heap = w.heap.push o := rfl
theorem blocks6 (w : World) (o0 o1 o2 o3 o4 o5 : Obj) {W : World} (hW : (((((w.alloc o0).alloc o1).alloc o2).alloc o3).alloc o4).alloc o5 = W) :
    W.heap.size = w.heap.size + 6 ∧ W.heap[w.heap.size]? = some o0 ∧ W.heap[w.heap.size + 1]? = some o1 ∧ W.heap[w.heap.size + 1 + 1]? = some o2 ∧ W.heap[w.heap.size + 1 + 1 + 1]? = some o3 ∧ W.heap[w.heap.size + 1 + 1 + 1 + 1]? = some o4 ∧ W.heap[w.heap.size + 1 + 1 + 1 + 1 + 1]? = some o5 ∧ Below w.heap.size w W := by
  subst hW
  have hp : ∀ (A : Array Obj) (o : Obj) (i : Nat), (A.push o)[i]? = if i = A.size then some o else A[i]? := fun A o i => by rw [Array.getElem?_push]
  refine ⟨by simp, ?_, ?_, ?_, ?_, ?_, ?_, ?_⟩
  iterate 6
    · simp only [heap_push, hp, Array.size_push]
      repeat (first | rw [if_pos trivial] | rw [if_neg (by omega)])
  · exact ((((((Below.refl _ w).alloc (Nat.le_refl _) _).alloc (by simp) _).alloc (by simp; omega) _).alloc (by simp; omega) _).alloc (by simp; omega) _).alloc (by simp; omega) _
theorem kpv_of_alloc6 {w W : World} (h : Below w.heap.size w W) : KpV w.heap.size w W := KpV.of_below h (Nat.le_refl _)
theorem fin_cell {W : World} {D B : Nat} {t : TypeId} {v : Value} (hb : Boxed W B t v) (hK : W.heap[D]? = some (.deferred (some []))) : (W.putObj D (.deferred none)).cell? ⟨B, 0, none⟩ = some v :=
  cell_kept hb.cell (grownBy_putObj' _ D (.deferred none)) (fun r e => by cases e; exact ⟨_, hK, rfl⟩)
theorem fin_store {W : World} {D B : Nat} (v : Value) (hK : W.heap[D]? = some (.deferred (some []))) : (W.setCell ⟨B, 0, none⟩ v).heap[D]? = some (.deferred (some [])) :=
  (KeepsOthers.setCell W ⟨B, 0, none⟩ v).same D _ hK rfl
theorem fin_below {w W0 W : World} {n D : Nat} (hB : Below n w W) (hn : n ≤ W0.heap.size) (hD : W0.heap.size ≤ D) (hK : W.heap[D]? = some (.deferred (some []))) : Below n w (W.putObj D (.deferred none)) :=
  hB.trans (belowK_b (w := W0) hn W D _ _ hD hK rfl rfl)

set_option maxHeartbeats 4000000 in
theorem size_any (x : Val) (v : Value) (P : Nat → Prop) (w : World) (hv : VAt w P v x) (ht : tot x ≤ 65536) :
    Calls Tryd.prog 14 #[v] w fun e w' => e = .returned (.tuple #[intV (if chk x = 0 then cnt x else 0), intV (chk x)]) ∧ Below w.heap.size w w' := by
  obtain ⟨sa, sc, rfl, hs⟩ := hv.agg
  have HV := Lib.hid hv
  have HT := Lib.hid ht
  have hcx := cnt_le.1 x
  obtain ⟨cx, hcx'⟩ : ∃ cx, cnt x = cx := ⟨_, rfl⟩
  have HCX := Lib.hid hcx'
  have hcb : cx ≤ 65536 := by omega
  obtain ⟨nr, hnr⟩ : ∃ nr : Int, (if chk x = 0 then (cnt x : Int) else 0) = nr := ⟨_, rfl⟩
  obtain ⟨r, hr⟩ : ∃ r, chk x = r := ⟨_, rfl⟩
  rw [hnr, hr]
  rw [hr, hcx'] at hnr
  have HR := Lib.hid hr
  have HNR := Lib.hid hnr
  clear hv hs hcx hcx' hr hnr
  refine (callsIn_wide (n := 9)).1 ?_
  refine callsIn_of_wp_marks Tryd.func14 rfl trivial ?_ rfl
  simp only [Tryd.ntmps14, List.size_toArray, List.length_cons, List.length_nil, Nat.reduceAdd, Nat.reduceSub, Array.replicate_succ, Array.replicate_zero, List.push_toArray, List.append_toArray, List.nil_append, List.cons_append]
  gi_wp2_with (gi_at_call 33; refine (callsIn_wide.2 (values_any _ _ _ _ _ _ _)).mono ?_; rintro e w' ⟨rfl, rfl⟩)
  obtain ⟨w6, hw6⟩ : ∃ X, (((((w.alloc (.cells #[intV x.kd, intV x.nm, .string x.tx, .slice sa x.its.length sc] 24)).alloc (.cells #[.int .i64 0] 3)).alloc (.cells #[.int .i64 0] 27)).alloc (.cells #[.int .i64 0] 3)).alloc (.cells #[.int .i64 0] 27)).alloc (.cells #[intV x.kd, intV x.nm, .string x.tx, .slice sa x.its.length sc] 24) = X := ⟨_, rfl⟩
  rw [hw6]
  obtain ⟨s6, k0, k1, k2, k3, k4, k5, kb⟩ := blocks6 w _ _ _ _ _ _ hw6
  clear hw6
  have HSTOP := values_stops w P x x.kd x.nm x.tx sa x.its.length sc HV.out (by have := HT.out; omega) (w.heap.size + 1 + 1 + 1 + 1 + 1) w6 (kpv_of_alloc6 kb) k5
  refine wpIn_rangeFunc_ownH rfl (by omega) (gf := 50) (lb := #[.pointer (some ⟨w.heap.size + 1 + 1 + 1 + 1 + 1, 0, none⟩)]) rfl trivial Tryd.call50
    HSTOP (fun h k => h.trans k) (fun W l o o' hl ho hc _ => KpV.put W l o o' (by omega) ho hc) (Below.refl _ _) (fun _ => rfl)
    (fun pre W => (Boxed W (w.heap.size + 1) 3 (.int .i64 0) ∧ Boxed W (w.heap.size + 1 + 1) 27 (.int .i64 0) ∧ Boxed W (w.heap.size + 1 + 1 + 1) 3 (.int .i64 pre.length) ∧ Boxed W (w.heap.size + 1 + 1 + 1 + 1) 27 (.int .i64 ((pre.map El.pr).foldl firstE 0)) ∧ ∀ p ∈ pre, p.lv ≤ 64) ∧ Below w.heap.size w6 W)
    (fun c pre W => (Boxed W (w.heap.size + 1) 3 (.int .i64 0) ∧ Boxed W (w.heap.size + 1 + 1) 27 (.int .i64 4) ∧ c = .ret ∧ ∃ p ∈ pre, 64 < p.lv) ∧ Below w.heap.size w6 W)
    (OwnFrom.and (OwnFrom.and (Own.from (boxed_own _ _ _) _) (OwnFrom.and (Own.from (boxed_own _ _ _) _) (OwnFrom.and (Own.from (boxed_own _ _ _) _) (OwnFrom.and (Own.from (boxed_own _ _ _) _) (ownFrom_pure _ _))))) (ownFrom_below (by omega) (by omega)))
    (fun c => OwnFrom.and (OwnFrom.and (Own.from (boxed_own _ _ _) _) (OwnFrom.and (Own.from (boxed_own _ _ _) _) (ownFrom_pure _ _))) (ownFrom_below (by omega) (by omega)))
    ⟨⟨k1, k2, k3, k4, by simp⟩, Below.refl _ _⟩
    (fun p a' X => ∃ B7 : Nat, w6.heap.size ≤ B7 ∧ X.heap[B7]? = some (.cells #[intV p.x.kd, intV p.x.nm, .string p.x.tx, .slice p.sa p.x.its.length p.sc] 24 (0, 0)) ∧ a' = { tmps := #[Value.agg #[intV x.kd, intV x.nm, .string x.tx, .slice sa x.its.length sc], .pointer (some ⟨w.heap.size, 0, none⟩), .pointer (some ⟨w.heap.size + 1, 0, none⟩), .pointer (some ⟨w.heap.size + 1 + 1, 0, none⟩), .pointer (some ⟨w.heap.size + 1 + 1 + 1, 0, none⟩), .pointer (some ⟨w.heap.size + 1 + 1 + 1 + 1, 0, none⟩), intV p.lv, .pointer (some ⟨B7, 0, none⟩), .agg #[intV x.kd, intV x.nm, .string x.tx, .slice sa x.its.length sc], .func (.func 50) #[] #[.pointer (some ⟨w.heap.size + 1 + 1 + 1 + 1 + 1, 0, none⟩)], intV p.lv, .agg #[intV p.x.kd, intV p.x.nm, .string p.x.tx, .slice p.sa p.x.its.length p.sc], undef, undef, undef, undef, undef, undef, undef, undef, undef, undef, undef, undef, undef, undef, undef, undef], defers := [] })
    (fun p a' _ X Y row h hg hr => by
      obtain ⟨B7, h1, h2, h3⟩ := h
      exact ⟨B7, h1, (hg.block B7 (heap_lt h2) (fun e => by obtain ⟨_, o, ho, hc⟩ := hr B7 e.symm; rw [h2] at ho; cases ho; cases hc)).trans h2, h3⟩)
    ?assign ?body ?done ?stop
  case assign =>
    intro l pre p X K hI hK
    have hX := hI.2.size
    gi_wp2
    exact hK _ _ ((KeepsOthers.alloc X _).from _) (KpV.alloc (by omega) _) ⟨⟨hI.1.1.alloc _, hI.1.2.1.alloc _, hI.1.2.2.1.alloc _, hI.1.2.2.2.1.alloc _, hI.1.2.2.2.2⟩, hI.2.alloc (by omega) _⟩ ⟨X.heap.size, hX, World.alloc_heap_new _ _, rfl⟩
  case body =>
    rintro l pre p a' X hl hrec ⟨⟨b1, b2, b3, b4, hlv⟩, hB⟩ ⟨B7, hB7, hk7, rfl⟩ hlen
    have hX := hB.size
    have c1 := b1.cell
    have f1 := b1.frozen
    have c2 := b2.cell
    have f2 := b2.frozen
    have c3 := b3.cell
    have f3 := b3.frozen
    have c4 := b4.cell
    have f4 := b4.frozen
    obtain ⟨q0, q1, q2, q3⟩ := heap4 hk7
    obtain ⟨fe, hfe⟩ : ∃ fe, (pre.map El.pr).foldl firstE 0 = fe := ⟨_, rfl⟩
    rw [hfe] at b4 c4
    have hpl : (pre.length : Int) < cx := by have := HCX.out; omega
    have HI := Lib.hid (And.intro (And.intro b1 (And.intro b2 (And.intro b3 b4))) (And.intro hlv hB))
    have HFE := Lib.hid hfe
    have HK7 := Lib.hid hk7
    have HLEN := Lib.hid hlen
    clear b1 b2 b3 b4 hlv hB hfe hk7 hlen hrec
    by_cases h64 : (64 : Int) < p.lv
    · gi_wp2_with fail
      obtain ⟨⟨b1, b2, b3, b4⟩, hlv, hB⟩ := HI.out
      refine ⟨(((KeepsOthers.setCell _ _ _).trans (KeepsOthers.setCell _ _ _)).trans (KeepsOthers.setCell _ _ _)).from _, ⟨((b1.other (by omega) _).set _).other (by omega) _, ((b2.other (by omega) _).other (by omega) _).set _, rfl, p, by simp, by omega⟩,
        ((hB.setCell (p := ⟨_, 0, none⟩) (by simp; omega) _).setCell (p := ⟨_, 0, none⟩) (by simp) _).setCell (p := ⟨_, 0, none⟩) (by simp; omega) _⟩
    · have hg1 : decide ((64 : Int) < p.lv) = false := by simpa using h64
      have hg2 : decide ((65536 : Int) < (pre.length : Int) + 1) = false := by simp; omega
      have H64 := Lib.hid h64
      clear h64
      have hlen' : ((pre.length : Int) + 1) = (((pre ++ [p]).length : Nat) : Int) := by simp
      have hfold : ((pre ++ [p]).map El.pr).foldl firstE 0 = firstE fe p.pr := by rw [List.map_append, List.foldl_append, HFE.out]; rfl
      have HLN := Lib.hid hlen'
      have HFD := Lib.hid hfold
      clear hlen' hfold
      by_cases hf0 : fe = 0
      · subst hf0
        have hkv := vat_of' p.ok
        obtain ⟨r1, hr⟩ : ∃ r1, single p.x.kd p.x.nm p.x.tx p.x.its.length = r1 := ⟨_, rfl⟩
        have HC := Lib.hid (fun W => alone_at p.x.kd p.x.nm p.x.tx p.sa p.x.its.length p.sc hkv.2 hkv.1 r1 hr W)
        have HR1 := Lib.hid (show firstE 0 p.pr = r1 by rw [firstE, if_pos rfl, ← hr]; show aloneV p.x = _; obtain ⟨_, _, _, _⟩ := p.x; rfl)
        clear hkv hr
        gi_wp2_with fail
        refine (CallsIn.inRound l (callsIn_wide.2 (HC.out _))).mono ?_
        rintro e w1 ⟨rfl, h1⟩
        obtain ⟨⟨b1, b2, b3, b4⟩, hlv, hB⟩ := HI.out
        have d1 := boxed_below (b1.other (show w.heap.size + 1 ≠ w.heap.size + 1 + 1 + 1 by omega) (.int .i64 ((pre.length : Int) + 1))) h1
        have d2 := boxed_below (b2.other (show w.heap.size + 1 + 1 ≠ w.heap.size + 1 + 1 + 1 by omega) (.int .i64 ((pre.length : Int) + 1))) h1
        have d3 := boxed_below (b3.set (.int .i64 ((pre.length : Int) + 1))) h1
        have d4 := boxed_below (b4.other (show w.heap.size + 1 + 1 + 1 + 1 ≠ w.heap.size + 1 + 1 + 1 by omega) (.int .i64 ((pre.length : Int) + 1))) h1
        have e4 := d4.cell
        have g4 := d4.frozen
        have HD := Lib.hid (And.intro d1 (And.intro d2 (And.intro d3 d4)))
        have HB1 := Lib.hid (And.intro h1 (And.intro b3 hB))
        have HLV := Lib.hid hlv
        clear h1 b1 b2 b3 b4 d1 d2 d3 d4 hlv hB c1 f1 c2 f2 c3 f3 c4 f4 q0 q1 q2 q3
        gi_wp2
        obtain ⟨d1, d2, d3, d4⟩ := HD.out
        obtain ⟨h1, b3, hB⟩ := HB1.out
        have hsz : w.heap.size ≤ (X.setCell ⟨w.heap.size + 1 + 1 + 1, 0, none⟩ (.int .i64 ((pre.length : Int) + 1))).heap.size := by have := (hB.setCell (p := ⟨w.heap.size + 1 + 1 + 1, 0, none⟩) (by simp; omega) (.int .i64 ((pre.length : Int) + 1))).size; omega
        refine ⟨(((KeepsOthers.setCell _ _ _).trans (keeps_below h1)).trans (KeepsOthers.setCell _ _ _)).from _, ?_, ⟨d1.other (by omega) _, d2.other (by omega) _, ?_, ?_, fun q hq => ?_⟩, ?_⟩
        · exact ((KpV.set b3 ty_iv (by omega) _).trans (KpV.of_below h1 hsz)).trans (KpV.set d4 ty_ev (by omega) _)
        · rw [← HLN.out]; exact d3.other (by omega) _
        · rw [HFD.out, HR1.out]; exact d4.set _
        rotate_left
        · exact ((hB.setCell (p := ⟨_, 0, none⟩) (by simp; omega) _).trans (h1.mono hsz)).setCell (p := ⟨_, 0, none⟩) (by simp; omega) _
        rcases List.mem_append.1 hq with hq | hq
        · exact HLV.out q hq
        · rw [List.mem_singleton] at hq; subst hq; have := H64.out; omega
      · have hfb : (fe == 0) = false := by simpa using hf0
        gi_wp2_with fail
        obtain ⟨⟨b1, b2, b3, b4⟩, hlv, hB⟩ := HI.out
        refine ⟨(KeepsOthers.setCell _ _ _).from _, KpV.set b3 ty_iv (by omega) _, ⟨b1.other (by omega) _, b2.other (by omega) _, ?_, ?_, fun q hq => ?_⟩, hB.setCell (p := ⟨_, 0, none⟩) (by simp; omega) _⟩
        · rw [← HLN.out]; exact b3.set _
        · rw [HFD.out, firstE, if_neg hf0]; exact b4.other (by omega) _
        rcases List.mem_append.1 hq with hq | hq
        · exact hlv q hq
        · rw [List.mem_singleton] at hq; subst hq; have := H64.out; omega
  case done =>
    rintro D xs W hD hxs ⟨⟨b1, b2, b3, b4, hlv⟩, hB⟩ hK
    have hdep : dep x ≤ 64 := by
      obtain ⟨q, hq, e⟩ := (vals_dep.1 x 1).2
      rw [← hxs] at hq
      obtain ⟨p, hp, rfl⟩ := List.mem_map.1 hq
      have := hlv p hp
      have e' : p.lv = 1 + dep x - 1 := e
      omega
    have hall : (xs.map El.pr).foldl firstE 0 = chk x := by rw [hxs, firstE_all.1, chk, if_pos hdep]
    have hlen : xs.length = cx := by have := congrArg List.length hxs; rw [List.length_map, vals_len] at this; have := HCX.out; omega
    rw [hall] at b4
    rw [hlen] at b3
    rw [HR.out] at b4
    have c1 := b1.cell
    have f1 := b1.frozen
    have c2 := b2.cell
    have f2 := b2.frozen
    have c3 := b3.cell
    have c4 := b4.cell
    have HI := Lib.hid (And.intro b1 (And.intro b2 (And.intro b3 (And.intro b4 hB))))
    have HKD := Lib.hid hK
    clear b1 b2 b3 b4 hlv hB hdep hall hlen hxs hK
    by_cases hr0 : r = 0
    · subst hr0
      gi_wp2_with fail
      obtain ⟨b1, b2, b3, b4, hB⟩ := HI.out
      have hb' := (b1.set (.int .i64 (cx : Int))).other (B' := w.heap.size + 1 + 1) (by omega) (.int .i64 0)
      have hb2' := (b2.other (B' := w.heap.size + 1) (by omega) (.int .i64 (cx : Int))).set (.int .i64 0)
      have hK' := fin_store (B := w.heap.size + 1 + 1) (.int .i64 0) (fin_store (B := w.heap.size + 1) (.int .i64 (cx : Int)) HKD.out)
      have hc5 := fin_cell hb' hK'
      have hc6 := fin_cell hb2' hK'
      have hnr : (cx : Int) = nr := by have := HNR.out; simpa using this
      refine ⟨by simp, .inl ⟨_, _, rfl, run_takeDeferred hK', ?_⟩⟩
      refine ⟨.tuple #[intV cx, intV 0], by simp [results, Tryd.f14, go_sem, hc5, hc6], by rw [hnr], fin_below (W0 := w6) (kb.trans ((hB.setCell (p := ⟨_, 0, none⟩) (by simp) _).setCell (p := ⟨_, 0, none⟩) (by simp; omega) _)) (by omega) hD hK'⟩
    · have hrb : (r != 0) = true := by simpa using hr0
      gi_wp2_with fail
      gi_region
      all_goals
        gi_wp2
        obtain ⟨b1, b2, b3, b4, hB⟩ := HI.out
        have hb' : Boxed ((W.setCell ⟨w.heap.size + 1, 0, none⟩ (.int .i64 0)).setCell ⟨w.heap.size + 1 + 1, 0, none⟩ (.int .i64 r)).drew (w.heap.size + 1) 3 (.int .i64 0) := (b1.set (.int .i64 0)).other (B' := w.heap.size + 1 + 1) (by omega) (.int .i64 r)
        have hb2' : Boxed ((W.setCell ⟨w.heap.size + 1, 0, none⟩ (.int .i64 0)).setCell ⟨w.heap.size + 1 + 1, 0, none⟩ (.int .i64 r)).drew (w.heap.size + 1 + 1) 27 (.int .i64 r) := (b2.other (B' := w.heap.size + 1) (by omega) (.int .i64 0)).set (.int .i64 r)
        have hK' : ((W.setCell ⟨w.heap.size + 1, 0, none⟩ (.int .i64 0)).setCell ⟨w.heap.size + 1 + 1, 0, none⟩ (.int .i64 r)).drew.heap[D]? = some (.deferred (some [])) := fin_store (B := w.heap.size + 1 + 1) (.int .i64 r) (fin_store (B := w.heap.size + 1) (.int .i64 0) HKD.out)
        have hc5 := fin_cell hb' hK'
        have hc6 := fin_cell hb2' hK'
        have hnr : nr = 0 := by have := HNR.out; rw [if_neg hr0] at this; exact this.symm
        refine ⟨by simp, .inl ⟨_, _, rfl, run_takeDeferred hK', ?_⟩⟩
        refine ⟨.tuple #[intV 0, intV r], by simp [results, Tryd.f14, go_sem, hc5, hc6], by rw [hnr], fin_below (W0 := w6) (kb.trans ((hB.setCell (p := ⟨_, 0, none⟩) (by simp) _).setCell (p := ⟨_, 0, none⟩) (by simp; omega) _).drew) (by omega) hD hK'⟩
  case stop =>
    rintro D c pre W hD hpre ⟨⟨b1, b2, rfl, q, hq, hq64⟩, hB⟩ hK
    have hr4 : r = 4 := by
      rw [← HR.out, chk, if_neg]
      have hm : q.pr ∈ vals 1 x := hpre.subset (List.mem_map_of_mem hq)
      have := (vals_dep.1 x 1).1 _ hm
      have e' : q.pr.1 = q.lv := rfl
      omega
    have hnr : nr = 0 := by rw [← HNR.out, hr4]; rfl
    subst hr4 hnr
    gi_wp2
    have hc5 := fin_cell b1 hK
    have hc6 := fin_cell b2 hK
    refine ⟨by simp, .inl ⟨_, _, rfl, run_takeDeferred hK, ?_⟩⟩
    refine ⟨.tuple #[intV 0, intV 4], by simp [results, Tryd.f14, go_sem, hc5, hc6], rfl, fin_below (W0 := w6) (kb.trans hB) (by omega) hD hK⟩

theorem size_at (x : Val) (v : Value) (P : Nat → Prop) (w : World) (hv : VAt w P v x) (ht : tot x ≤ 65536) (n r : Int) (hr : chk x = r) (hn : (if chk x = 0 then (cnt x : Int) else 0) = n) :
    Calls Tryd.prog 14 #[v] w fun e w' => e = .returned (.tuple #[intV n, intV r]) ∧ Below w.heap.size w w' := by subst hn hr; exact size_any x v P w hv ht
set_option maxHeartbeats 1000000 in
theorem check_at (x : Val) (v : Value) (P : Nat → Prop) (w : World) (hv : VAt w P v x) (ht : tot x ≤ 65536) (r : Int) (hr : chk x = r) :
    Calls Tryd.prog 16 #[v] w fun e w' => e = .returned (intV r) ∧ Below w.heap.size w w' := by
  obtain ⟨sa, sc, rfl, _⟩ := hv.agg
  obtain ⟨n, hn⟩ : ∃ n : Int, (if chk x = 0 then (cnt x : Int) else 0) = n := ⟨_, rfl⟩
  have HS := Lib.hid (fun W' hb => size_at x _ P W' (hv.below hb) ht n r hr hn)
  clear hv hr hn
  go_enter Tryd.func16, Tryd.ntmps16
  go_wp2_with fail
  refine (HS.out _ (below_box0 w _)).mono ?_
  rintro e w1 ⟨rfl, h1⟩
  have H1 := Lib.hid h1
  clear h1
  go_wp2_with fail
  go_ret
  exact ⟨rfl, below_then (below_box0 w _) H1.out⟩
end Go.Proofs.YtjcigjggfmfoeaaDoor
