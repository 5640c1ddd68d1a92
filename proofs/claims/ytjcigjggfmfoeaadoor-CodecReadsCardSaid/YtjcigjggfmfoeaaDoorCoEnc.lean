/- Encode of the program. -/
import Derived.Test.YtjcigjggfmfoeaaDoorCoBuild
import Derived.Test.YtjcigjggfmfoeaaDoorCoStr
import Derived.Test.YtjcigjggfmfoeaaDoorCoEncM
import Derived.OrdersIn
namespace Go.Proofs.YtjcigjggfmfoeaaDoor
set_option linter.unusedSimpArgs false
set_option linter.unusedVariables false
set_option maxRecDepth 100000
open Go.RowKit Go.Shelf Go.Deep
attribute [local go_sem] Oper.semAt_some wide_fn

theorem kpv_keep {n₀ B : Nat} {A C : World} (hB : Below B A C) (hn : n₀ ≤ B) (hk : Keep A C) : KpV n₀ A C :=
  ⟨hB.mono hn, fun b c h => (hk b c _ h (by decide) (by decide)).trans h.symm⟩
theorem boxed_keep {A C : World} {b : Nat} {t : TypeId} {v : Value} (h : Boxed A b t v) (hk : Keep A C) (h1 : t ≠ 5) (h2 : t ≠ 50) : Boxed C b t v := hk b _ _ h h1 h2
theorem isB_grown {B b : Nat} {bs : List Value} {w w' : World} {row : Option Nat} (h : IsB B b bs w) (hg : w.grownBy w' row) (hr : ∀ r, row = some r → ∃ o : Obj, w.heap[r]? = some o ∧ ∀ c, o ≠ .cells c 5 (0, 0) ∧ o ≠ .cells c 50 (0, 0)) : IsB B b bs w' := by
  have key : ∀ p, Lib.BuilderAt 50 5 B b p bs w → Lib.BuilderAt 50 5 B b p bs w' := by
    rintro p ⟨hB, v, hb, ho, hne⟩
    refine ⟨hB, v, (hg.block b (lt_of_heap hb) (fun e => ?_)).trans hb, ho.kept hg ?_, hne⟩
    · obtain ⟨o, h1, h2⟩ := hr b e.symm
      rw [hb] at h1; cases h1
      exact (h2 _).2 rfl
    · rcases ho.2 with ⟨rfl, _⟩ | ⟨g, cap, cur, rfl, _, hgg, _⟩
      · exact .inl rfl
      · refine .inr fun e => ?_
        obtain ⟨o, h1, h2⟩ := hr g (by rw [← e]; rfl)
        rw [hgg] at h1; cases h1
        exact (h2 _).1 rfl
  exact h.imp (key _) (key _)
/-- a store into a box of another type -/
theorem isB_set {B b c : Nat} {bs : List Value} {w : World} {t : TypeId} {v : Value} (h : IsB B b bs w) (hb : Boxed w c t v) (h1 : t ≠ 5) (h2 : t ≠ 50) (u : Value) : IsB B b bs (w.setCell ⟨c, 0, none⟩ u) :=
  isB_grown h (grownBy_setCell' w c u) (fun r e => by cases e; exact ⟨_, hb, fun x => ⟨fun e => by cases e; exact h1 rfl, fun e => by cases e; exact h2 rfl⟩⟩)
theorem isB_own {B b M : Nat} {α : Type} (f : α → List Value) : OwnFrom M (fun (s : α) W => IsB B b (f s) W) := fun s X Y row hs hg hr =>
  isB_grown hs hg (fun r e => by
    obtain ⟨_, o, h1, h2⟩ := hr r e
    exact ⟨o, h1, fun c => ⟨(fun e => by subst e; cases h2), (fun e => by subst e; cases h2)⟩⟩)
/-- a fresh builder -/
theorem isB_new (w : World) (B : Nat) (hB : B ≤ w.heap.size) : IsB B w.heap.size [] (w.alloc (.cells #[.pointer none, .slice none 0 0] 50)) :=
  .inl ⟨hB, .slice none 0 0, World.alloc_heap_new _ _, World.ownsRow_nil _ _ _ _, by simp [Value.ownBlock]⟩

theorem blocks3 (w : World) (o0 o1 o2 : Obj) {W : World} (hW : ((w.alloc o0).alloc o1).alloc o2 = W) :
    W.heap.size = w.heap.size + 3 ∧ W.heap[w.heap.size]? = some o0 ∧ W.heap[w.heap.size + 1]? = some o1 ∧ W.heap[w.heap.size + 1 + 1]? = some o2 ∧ Below w.heap.size w W := by
  subst hW
  have hp : ∀ (A : Array Obj) (o : Obj) (i : Nat), (A.push o)[i]? = if i = A.size then some o else A[i]? := fun A o i => by rw [Array.getElem?_push]
  refine ⟨by simp, ?_, ?_, ?_, ?_⟩
  iterate 3
    · simp only [heap_push, hp, Array.size_push]
      repeat (first | rw [if_pos trivial] | rw [if_neg (by omega)])
  · exact (((Below.refl _ w).alloc (Nat.le_refl _) _).alloc (by simp) _).alloc (by simp; omega) _
theorem any_step {F : Fence} {n : Nat} {P : Program} {ops : Array Oper} {Q : Exit → Act → World → Prop} {fuel : Nat} {listed : Array Bool} {a : Act} {w : World} (l : List Nat) (hr : Region.ready .any ops listed = l) (hne : l ≠ [])
    (h : ∀ i ∈ l, wpOpIn F n P ops Q i (wpAnyIn F n P .any ops Q fuel (listed.setIfInBounds i true)) a w) : wpAnyIn F n P .any ops Q (fuel + 1) listed a w :=
  ⟨fun e => absurd (hr.symm.trans e) hne, fun i hi => h i (by rw [← hr]; exact hi)⟩
/-- what Encode's own variables hold -/
structure EW (N M : Nat) (W : World) (bs : List UInt8) (op : Int) : Prop where
  r : Boxed W (N + 1) 9 (.string ⟨#[]⟩)
  e : Boxed W (N + 1 + 1) 27 (.int .i64 0)
  b : IsB N M (Lib.byteCells bs) W
  o : Boxed W (M + 1) 3 (.int .i64 op)
theorem below_grown {A B : World} (h : Below A.heap.size A B) : A.grownBy B none := ⟨h.os, h.tape, h.output, h.size, fun k hk _ => h.block k hk⟩
theorem EW.below {N M : Nat} {W W' : World} {bs : List UInt8} {op : Int} (h : EW N M W bs op) (hb : Below W.heap.size W W') : EW N M W' bs op :=
  ⟨boxed_below h.r hb, boxed_below h.e hb, isB_grown h.b (below_grown hb) (fun r e => by cases e), boxed_below h.o hb⟩
theorem EW.write {N M : Nat} {W W' : World} {bs : List UInt8} {op : Int} {z : ByteArray} (h : EW N M W bs op) (hu : UsedB N M (Lib.byteCells bs ++ Lib.strCells z) W') (hk : Keep W W') : EW N M W' (bs ++ z.data.toList) op :=
  ⟨boxed_keep h.r hk (by decide) (by decide), boxed_keep h.e hk (by decide) (by decide), by rw [Lib.byteCells_append, ← Lib.strCells_eq]; exact .inr hu, boxed_keep h.o hk (by decide) (by decide)⟩
theorem EW.set {N M : Nat} {W : World} {bs : List UInt8} {op : Int} (h : EW N M W bs op) (hNM : N + 2 < M + 1) (op' : Int) : EW N M (W.setCell ⟨M + 1, 0, none⟩ (.int .i64 op')) bs op' :=
  ⟨h.r.other (by omega) _, h.e.other (by omega) _, isB_set h.b h.o (by decide) (by decide) _, h.o.set _⟩
/-- what Encode gives -/
def EncPost (l : List UInt8) (r : Int) (w : World) (e : Ending) (w' : World) : Prop := ∃ st : ByteArray, e = .returned (.tuple #[.string st, intV r]) ∧ st.data.toList = l ∧ Below w.heap.size w w'
set_option maxHeartbeats 4000000 in
theorem encode_good (x : Val) (v : Value) (P : Nat → Prop) (w : World) (hv : VAt w P v x) (ht : tot x ≤ 65536) (h0 : chk x = 0) (hl : (enc x).length ≤ 1048576) (hT : Tab w) :
    Calls Tryd.prog 12 #[v] w (EncPost (enc x) 0 w) := by
  obtain ⟨sa, sc, rfl, hs⟩ := hv.agg
  have HV := Lib.hid hv
  have HTT := Lib.hid ht
  have HTB := Lib.hid hT
  have hd : dep x ≤ 64 ∧ allV x = 0 := by
    unfold chk at h0
    by_cases hd : dep x ≤ 64
    · rw [if_pos hd] at h0; exact ⟨hd, h0⟩
    · rw [if_neg hd] at h0; cases h0
  have HD := Lib.hid hd
  have HL := Lib.hid hl
  have HCK := Lib.hid (fun W hb => check_at x _ P W (hv.below hb) ht 0 h0)
  clear hv hs ht hT hd hl h0
  refine (callsIn_wide (n := 9)).1 ?_
  refine callsIn_of_wp_marks Tryd.func12 rfl trivial ?_ rfl
  simp only [Tryd.ntmps12, List.size_toArray, List.length_cons, List.length_nil, Nat.reduceAdd, Nat.reduceSub, Array.replicate_succ, Array.replicate_zero, List.push_toArray, List.append_toArray, List.nil_append, List.cons_append]
  gi_wp2_with fail
  refine (callsIn_wide.2 (HCK.out _ ?_)).mono ?_
  · exact ((Below.refl _ w).alloc (Nat.le_refl _) _).alloc (by simp) _ |>.alloc (by simp; omega) _
  rintro e w1 ⟨rfl, h1⟩
  obtain ⟨w3, hw3⟩ : ∃ X, ((w.alloc (.cells #[intV x.kd, intV x.nm, .string x.tx, .slice sa x.its.length sc] 24)).alloc (.cells #[.string ⟨#[]⟩] 9)).alloc (.cells #[.int .i64 0] 27) = X := ⟨_, rfl⟩
  rw [hw3] at h1
  obtain ⟨s3, k0, k1, k2, kb⟩ := blocks3 w _ _ _ hw3
  have hs1 := h1.size
  have j0 := (h1.block _ (heap_lt k0)).trans k0
  have j1 : Boxed w1 (w.heap.size + 1) 9 (.string ⟨#[]⟩) := (h1.block _ (heap_lt k1)).trans k1
  have j2 : Boxed w1 (w.heap.size + 1 + 1) 27 (.int .i64 0) := (h1.block _ (heap_lt k2)).trans k2
  have hbw1 : Below w.heap.size w w1 := below_seq kb h1 (by omega)
  have hlt : w.heap.size < w1.heap.size := by omega
  have hlt3 : w.heap.size + 3 ≤ w1.heap.size := by omega
  clear hw3 k0 k1 k2 kb h1 HCK hs1 s3
  obtain ⟨c0, c1, c2, c3⟩ := heap4 j0
  have HJ := Lib.hid (And.intro j0 (And.intro j1 (And.intro j2 hbw1)))
  clear j0 j1 j2 hbw1
  gi_wp2_with (gi_at_call 33; refine (callsIn_wide.2 (values_any _ _ _ _ _ _ _)).mono ?_; rintro e w' ⟨rfl, rfl⟩)
  obtain ⟨w6, hw6⟩ : ∃ X, ((w1.alloc (.cells #[.pointer none, .slice none 0 0] 50)).alloc (.cells #[.int .i64 0] 3)).alloc (.cells #[intV x.kd, intV x.nm, .string x.tx, .slice sa x.its.length sc] 24) = X := ⟨_, rfl⟩
  rw [hw6]
  obtain ⟨s6, m0, m1, m2, mb⟩ := blocks3 w1 _ _ _ hw6
  clear c0 c1 c2 c3
  obtain ⟨j0, j1, j2, hbw1⟩ := HJ.out
  have hbw6 : Below w.heap.size w w6 := below_seq hbw1 mb (by omega)
  have hf : w6.grownBy w6 none := ⟨rfl, rfl, rfl, Nat.le_refl _, fun _ _ _ => rfl⟩
  have hB0 : IsB w.heap.size w1.heap.size (Lib.byteCells ([], 0).1) w6 := by
    have := isB_new w1 w.heap.size (by omega)
    rw [← hw6]
    exact isB_alloc (isB_alloc this _) _
  have hbr : Boxed w6 (w.heap.size + 1) 9 (.string ⟨#[]⟩) := boxed_below j1 mb
  have hbe : Boxed w6 (w.heap.size + 1 + 1) 27 (.int .i64 0) := boxed_below j2 mb
  refine range_ord (n := 9) (gf := 50) (lb := #[.pointer (some ⟨w1.heap.size + 1 + 1, 0, none⟩)]) rfl Tryd.call50
    (encs := encE (w0 := w) (P := P)) (Kp := KpV w.heap.size) (S := fun ys => ys.map El.pr = vals 1 x) (Ok := fun pre p => (pre ++ [p]).map El.pr <+: vals 1 x)
    ?seq (fun h k => h.trans k) (fun W l o o' hl ho hc => KpV.put W l o o' (by omega) ho hc) (fun _ => rfl)
    (fun pre W => (Boxed W (w.heap.size + 1) 9 (.string ⟨#[]⟩) ∧ Boxed W (w.heap.size + 1 + 1) 27 (.int .i64 0) ∧ IsB w.heap.size w1.heap.size (Lib.byteCells ((pre.map El.pr).foldl stE ([], 0)).1) W ∧ Boxed W (w1.heap.size + 1) 3 (.int .i64 (((pre.map El.pr).foldl stE ([], 0)).2 : Nat))) ∧ Below w.heap.size w6 W)
    (OwnFrom.and (OwnFrom.and (Own.from (boxed_own _ _ _) _) (OwnFrom.and (Own.from (boxed_own _ _ _) _) (OwnFrom.and (isB_own _) (Own.from (boxed_own _ _ _) _)))) (ownFrom_below (by omega) (by omega)))
    ⟨⟨hbr, hbe, hB0, m1⟩, Below.refl _ _⟩
    (fun _ p a' X => ∃ B8 : Nat, w6.heap.size ≤ B8 ∧ X.heap[B8]? = some (.cells #[intV p.x.kd, intV p.x.nm, .string p.x.tx, .slice p.sa p.x.its.length p.sc] 24 (0, 0)) ∧ a' = { tmps := #[Value.agg #[intV x.kd, intV x.nm, .string x.tx, .slice sa x.its.length sc], .pointer (some ⟨w.heap.size, 0, none⟩), .pointer (some ⟨w.heap.size + 1, 0, none⟩), .pointer (some ⟨w.heap.size + 1 + 1, 0, none⟩), intV 0, .pointer (some ⟨w1.heap.size, 0, none⟩), .pointer (some ⟨w1.heap.size + 1, 0, none⟩), intV p.lv, .pointer (some ⟨B8, 0, none⟩), .agg #[intV x.kd, intV x.nm, .string x.tx, .slice sa x.its.length sc], intV 0, intV 0, .bool false, undef, .agg #[intV x.kd, intV x.nm, .string x.tx, .slice sa x.its.length sc], .func (.func 50) #[] #[.pointer (some ⟨w1.heap.size + 1 + 1, 0, none⟩)], intV p.lv, .agg #[intV p.x.kd, intV p.x.nm, .string p.x.tx, .slice p.sa p.x.its.length p.sc], undef, undef, undef, undef, undef, undef, undef, undef, undef, undef, undef, undef, undef, undef, undef, undef, undef, undef, undef, undef, undef, undef, undef], defers := [] })
    (fun _ p a' _ X Y row h hg hr => by
      obtain ⟨B8, h1, h2, h3⟩ := h
      exact ⟨B8, h1, (hg.block B8 (heap_lt h2) (fun e => by obtain ⟨_, o, ho, hc⟩ := hr B8 e.symm; rw [h2] at ho; cases ho; cases hc)).trans h2, h3⟩)
    ?assign ?body ?done
  case seq =>
    intro l J W hW hJ hY h0
    refine (values1_in w P x x.kd x.nm x.tx sa x.its.length sc HV.out (by have := HTT.out; omega) (w1.heap.size + 1 + 1) l J (fun _ _ => False) hJ 7 (fun pre p X g1 g2 => YieldAt.mono (hY pre p X g1 g2) fun e X' h => .inl h) W ?_ ?_ h0).mono ?_
    · exact (kpv_of_alloc6 hbw6).trans ⟨hW.mono (by omega), fun b cs hb => hW.block b (heap_lt hb)⟩
    · exact (hW.block _ (heap_lt m2)).trans m2
    · rintro e X ⟨hv, (h | ⟨_, _, h⟩)⟩
      · exact ⟨hv, h⟩
      · exact h.elim
  case assign =>
    intro l pre p X K hI hok hK
    have hX := hI.2.size
    gi_wp2
    exact hK _ _ ((KeepsOthers.alloc X _).from _) (KpV.alloc (by omega) _) ⟨⟨hI.1.1.alloc _, hI.1.2.1.alloc _, isB_alloc hI.1.2.2.1 _, hI.1.2.2.2.alloc _⟩, hI.2.alloc (by omega) _⟩ ⟨X.heap.size, hX, World.alloc_heap_new _ _, rfl⟩
  case body =>
    rintro l pre p a' X hl hrec ⟨⟨br, be, bB, bo⟩, hB⟩ ⟨B8, hB8, hk8, rfl⟩ hok
    have hX := hB.size
    rw [List.map_append, List.map_cons, List.map_nil] at hok
    obtain ⟨⟨out, op⟩, ho⟩ : ∃ o, (pre.map El.pr).foldl stE ([], 0) = o := ⟨_, rfl⟩
    rw [ho] at bB bo
    obtain ⟨g1, g2, g3⟩ := enc_step HD.out.2 hok
    rw [ho] at g2
    rw [List.foldl_append, ho, List.foldl_cons, List.foldl_nil] at g3
    have hfold : ((pre ++ [p]).map El.pr).foldl stE ([], 0) = stE (out, op) p.pr := by rw [List.map_append, List.foldl_append, ho]; rfl
    have hmem : p.pr ∈ vals 1 x := hok.subset (by simp)
    have hal := alone_of_all HD.out.2 hmem
    have hlv64 := (vals_dep.1 x 1).1 _ hmem
    have hdp := HD.out.1
    have e1 : p.pr.1 = p.lv := rfl
    have e2 : p.pr.2 = p.x := rfl
    rw [e1] at g1 g2 hlv64
    rw [e2] at hal
    have hlen := HL.out
    have hst : stE (out, op) p.pr = (out ++ List.replicate (op - (p.lv - 1)) 101 ++ begV p.x, if p.x.kd = 3 then p.lv else p.lv - 1) := rfl
    rw [hst] at g3 hfold
    simp only [List.length_append, List.length_replicate] at g3
    obtain ⟨lm, hlm⟩ : ∃ lm, p.lv - 1 = lm := ⟨_, rfl⟩
    obtain ⟨d, hd⟩ : ∃ d, op - (p.lv - 1) = d := ⟨_, rfl⟩
    obtain ⟨z, hz⟩ : ∃ z : ByteArray, z.data.toList = List.replicate d 101 := ⟨⟨(List.replicate d 101).toArray⟩, by simp⟩
    rw [hd] at g3 hfold
    have hzs : z.size = d := by rw [← size_list, hz, List.length_replicate]
    have r1 : (p.lv : Int) - 1 = (lm : Int) := by omega
    have r2 : (op : Int) - (lm : Int) = (d : Int) := by omega
    have hlv9 : p.lv ≤ 64 := by omega
    have hop9 : op ≤ 1048576 + 64 := by omega
    have co := bo.cell
    have fo := bo.frozen
    have HF := Lib.hid hfold
    have HG := Lib.hid (And.intro g2 g3)
    have HI := Lib.hid (show EW w.heap.size w1.heap.size X out op from ⟨br, be, bB, bo⟩)
    have HBX := Lib.hid hB
    have HK8 := Lib.hid hk8
    have HZ := Lib.hid hz
    have HZS := Lib.hid hzs
    have HLM := Lib.hid hlm
    have HDD := Lib.hid hd
    have HAL := Lib.hid hal
    clear hfold g2 g3 br be bB bo hB hk8 hz hzs hlm hd hal hst e1 e2 hlv64 hmem hok ho hrec hdp hlen
    gi_wp2_with fail
    refine (CallsIn.inRound l (callsIn_wide.2 (repeat_at d z HZ.out (by have := HG.out; have := HL.out; omega) _))).mono ?_
    rintro e w2 ⟨rfl, h2⟩
    have HE2 := Lib.hid (HI.out.below h2)
    have HK2 := Lib.hid ((h2.block _ (heap_lt HK8.out)).trans HK8.out)
    have hsX : w.heap.size ≤ X.heap.size := by omega
    have HB2 := Lib.hid (HBX.out.trans (h2.mono hsX))
    have HP2 := Lib.hid (KpV.of_below h2 hsX)
    have HO2 := Lib.hid (keeps_below h2)
    have hs2 : w6.heap.size ≤ w2.heap.size := HB2.out.size
    clear h2 co fo
    gi_wp2_with fail
    refine (CallsIn.inRound l (callsIn_wide.2 (writeString_any w.heap.size w1.heap.size (Lib.byteCells out) z w2 HE2.out.b (by rw [Lib.byteCells_length]; have := HG.out; have := HL.out; have := HZS.out; omega) (by omega)))).mono ?_
    rintro e w3' ⟨rfl, hu, hb, hk, hko⟩
    have HE3 := Lib.hid (HE2.out.write hu hk)
    have hk3 := hk _ _ _ HK2.out (by decide) (by decide)
    obtain ⟨q0, q1, q2, q3⟩ := heap4 hk3
    have HK3 := Lib.hid hk3
    have HB3 := Lib.hid (HB2.out.trans hb)
    have HP3 := Lib.hid (HP2.out.trans (kpv_keep hb (Nat.le_refl _) hk))
    have HO3 := Lib.hid (HO2.out.trans hko)
    clear hu hb hk hko hk3 HE2 HK2 HB2 HP2 HO2 hs2
    have hbx : ∃ txs : Nat, p.x.tx.size ≤ 1048576 ∧ -9223372036854775808 ≤ p.x.nm ∧ p.x.nm ≤ 9223372036854775807 := by
      have h1 := HAL.out
      have h2 := p.ok
      generalize p.x = y at h1 h2
      obtain ⟨yk, yn, yt, yl⟩ := y
      obtain ⟨i1, i2, _⟩ := vat_of h2
      exact ⟨0, (single_zero h1).2.1, i1, i2⟩
    obtain ⟨_, hx1, hx2, hx3⟩ := hbx
    gi_wp2_with fail
    refine (CallsIn.inRound l (callsIn_wide.2 (beginning_any p.x.kd p.x.nm p.x.tx p.sa p.x.its.length p.sc hx2 hx3 hx1 w3' (HTB.out.below (hbw6.trans HB3.out))))).mono ?_
    rintro e w4 ⟨st, rfl, hst, h4⟩
    have hs3 : w.heap.size ≤ w3'.heap.size := by have := HB3.out.size; omega
    have HST := Lib.hid (show st.data.toList = begV p.x by rw [hst, ← begV_eq])
    have HE4 := Lib.hid (HE3.out.below h4)
    have HK4 := Lib.hid ((h4.block _ (heap_lt HK3.out)).trans HK3.out)
    have HB4 := Lib.hid (HB3.out.trans (h4.mono hs3))
    have HP4 := Lib.hid (HP3.out.trans (KpV.of_below h4 hs3))
    have HO4 := Lib.hid (HO3.out.trans (keeps_below h4))
    clear hst h4 HE3 HK3 HB3 HP3 HO3 q0 q1 q2 q3
    gi_wp2_with fail
    refine (CallsIn.inRound l (callsIn_wide.2 (writeString_any w.heap.size w1.heap.size (Lib.byteCells (out ++ z.data.toList)) st w4 HE4.out.b (by rw [Lib.byteCells_length, List.length_append, HZ.out, List.length_replicate, ← size_list, HST.out]; have := HG.out; have := HL.out; omega) (by have := HB4.out.size; omega)))).mono ?_
    rintro e w5 ⟨rfl, hu, hb, hk, hko⟩
    have HE5 := Lib.hid (HE4.out.write hu hk)
    have hk5 := hk _ _ _ HK4.out (by decide) (by decide)
    obtain ⟨q0, q1, q2, q3⟩ := heap4 hk5
    have HB5 := Lib.hid (HB4.out.trans hb)
    have HP5 := Lib.hid (HP4.out.trans (kpv_keep hb (Nat.le_refl _) hk))
    have HO5 := Lib.hid (HO4.out.trans hko)
    have HBB5 := Lib.hid hk5
    have co := HE5.out.o.cell
    have fo := HE5.out.o.frozen
    clear hu hb hk hko hk5 HE4 HK4 HB4 HP4 HO4 hs3
    by_cases hkd : p.x.kd = 3
    · have hkb : (p.x.kd == 3) = true := by simpa using hkd
      gi_wp2_with fail
      obtain ⟨w7, hw7⟩ : ∃ X, (w5.setCell ⟨w1.heap.size + 1, 0, none⟩ (.int .i64 (lm : Int))).setCell ⟨w1.heap.size + 1, 0, none⟩ (.int .i64 (p.lv : Int)) = X := ⟨_, rfl⟩
      have HE6 := Lib.hid (show EW w.heap.size w1.heap.size w7 (out ++ List.replicate d 101 ++ begV p.x) ((p.lv : Nat) : Int) by
        have h := ((HE5.out.set (by omega) (lm : Int)).set (by omega) (p.lv : Int))
        rw [HZ.out, HST.out] at h
        rw [← hw7]; exact h)
      have HFIN := Lib.hid (show KeepsOthers X w7 ∧ KpV w.heap.size X w7 ∧ EW w.heap.size w1.heap.size w7 (out ++ List.replicate d 101 ++ begV p.x) ((if p.x.kd = 3 then p.lv else p.lv - 1 : Nat) : Int) ∧ Below w.heap.size w6 w7 by
        refine ⟨?_, ?_, ?_, ?_⟩
        · rw [← hw7]; exact ((HO5.out.trans (KeepsOthers.setCell _ _ _)).trans (KeepsOthers.setCell _ _ _))
        · rw [← hw7]; exact ((HP5.out.trans (KpV.set HE5.out.o ty_iv (by omega) _)).trans (KpV.set (HE5.out.o.set _) ty_iv (by omega) _))
        · rw [if_pos hkd]; exact HE6.out
        · rw [← hw7]; exact ((HB5.out.setCell (p := ⟨_, 0, none⟩) (by simp; omega) _).setCell (p := ⟨_, 0, none⟩) (by simp; omega) _))
      rw [hw7]
      obtain ⟨len, hln⟩ : ∃ len, (Lib.byteCells (out ++ List.replicate d 101 ++ begV p.x)).length = len := ⟨_, rfl⟩
      have HLEN := Lib.hid (show len = out.length + d + (begV p.x).length by rw [← hln, Lib.byteCells_length, List.length_append, List.length_append, List.length_replicate])
      have HBL := Lib.hid (show Calls Tryd.prog 37 #[.pointer (some ⟨w1.heap.size, 0, none⟩)] w7.drew fun e w' => e = .returned (.int .i64 len) ∧ w' = w7.drew by
        rw [← hln]
        exact Tryd.Builder_Len w.heap.size w1.heap.size _ w7.drew HE6.out.b)
      have co7 := HE6.out.o.cell
      have hb9 : len + p.lv ≤ 1048576 := by
        have h1 := HG.out
        have h2 := HL.out
        have h3 := HLEN.out
        rw [if_pos hkd] at h1
        have h4 := HLM.out
        omega
      have hsum : IntKind.i64.wrap ((len : Int) + (p.lv : Int)) = (len : Int) + (p.lv : Int) := IntWalk.i64_in _ (by omega)
      have hcmp : decide ((1048576 : Int) < (len : Int) + (p.lv : Int)) = false := by simp; omega
      clear hln hw7 co fo q0 q1 q2 q3 hb9
      refine wpIn_region_any (by kernel_rfl) ?_
      refine any_step [0, 1] (by kernel_rfl) (by simp) ?_
      intro i hi
      simp only [List.mem_cons, List.mem_nil_iff, or_false] at hi
      rcases hi with rfl | rfl
      · skip
        refine wpOpIn_step rfl fun K' hK' => ?_
        go_simp
        refine (CallsIn.inRound l (callsIn_wide.2 HBL.out)).mono ?_
        rintro e w' ⟨rfl, rfl⟩
        refine hK' _ _ ?_
        clear hK' K'
        refine any_step [1] (by kernel_rfl) (by simp) ?_
        intro i hi
        obtain rfl := List.mem_singleton.1 hi
        clear hi
        refine wpOpIn_step rfl fun K' hK' => ?_
        go_simp
        refine hK' _ _ ?_
        clear hK' K'
        refine any_step [2] (by kernel_rfl) (by simp) ?_
        intro i hi
        obtain rfl := List.mem_singleton.1 hi
        clear hi
        refine wpOpIn_step rfl fun K' hK' => ?_
        go_simp
        refine hK' _ _ ?_
        clear hK' K'
        refine any_step [3] (by kernel_rfl) (by simp) ?_
        intro i hi
        obtain rfl := List.mem_singleton.1 hi
        clear hi
        refine wpOpIn_step rfl fun K' hK' => ?_
        go_simp
        refine hK' _ _ ?_
        clear hK' K'
        refine ⟨by kernel_rfl, ?_⟩
        gi_wp2
        obtain ⟨i1, i2, i3, i4⟩ := HFIN.out
        refine ⟨(i1.trans (KeepsOthers.drew _)).from _, ⟨i2.1.drew, i2.2⟩, ?_, i4.drew⟩
        rw [HF.out]
        exact ⟨i3.r, i3.e, i3.b, i3.o⟩
      · skip
        refine wpOpIn_step rfl fun K' hK' => ?_
        go_simp
        refine hK' _ _ ?_
        clear hK' K'
        refine any_step [0] (by kernel_rfl) (by simp) ?_
        intro i hi
        obtain rfl := List.mem_singleton.1 hi
        clear hi
        refine wpOpIn_step rfl fun K' hK' => ?_
        go_simp
        refine (CallsIn.inRound l (callsIn_wide.2 HBL.out)).mono ?_
        rintro e w' ⟨rfl, rfl⟩
        refine hK' _ _ ?_
        clear hK' K'
        refine any_step [2] (by kernel_rfl) (by simp) ?_
        intro i hi
        obtain rfl := List.mem_singleton.1 hi
        clear hi
        refine wpOpIn_step rfl fun K' hK' => ?_
        go_simp
        refine hK' _ _ ?_
        clear hK' K'
        refine any_step [3] (by kernel_rfl) (by simp) ?_
        intro i hi
        obtain rfl := List.mem_singleton.1 hi
        clear hi
        refine wpOpIn_step rfl fun K' hK' => ?_
        go_simp
        refine hK' _ _ ?_
        clear hK' K'
        refine ⟨by kernel_rfl, ?_⟩
        gi_wp2
        obtain ⟨i1, i2, i3, i4⟩ := HFIN.out
        refine ⟨(i1.trans (KeepsOthers.drew _)).from _, ⟨i2.1.drew, i2.2⟩, ?_, i4.drew⟩
        rw [HF.out]
        exact ⟨i3.r, i3.e, i3.b, i3.o⟩
    · have hkb : (p.x.kd == 3) = false := by simpa using hkd
      gi_wp2_with fail
      obtain ⟨w7, hw7⟩ : ∃ X, w5.setCell ⟨w1.heap.size + 1, 0, none⟩ (.int .i64 (lm : Int)) = X := ⟨_, rfl⟩
      have HE6 := Lib.hid (show EW w.heap.size w1.heap.size w7 (out ++ List.replicate d 101 ++ begV p.x) ((lm : Nat) : Int) by
        have h := (HE5.out.set (by omega) (lm : Int))
        rw [HZ.out, HST.out] at h
        rw [← hw7]; exact h)
      have HFIN := Lib.hid (show KeepsOthers X w7 ∧ KpV w.heap.size X w7 ∧ EW w.heap.size w1.heap.size w7 (out ++ List.replicate d 101 ++ begV p.x) ((if p.x.kd = 3 then p.lv else p.lv - 1 : Nat) : Int) ∧ Below w.heap.size w6 w7 by
        refine ⟨?_, ?_, ?_, ?_⟩
        · rw [← hw7]; exact (HO5.out.trans (KeepsOthers.setCell _ _ _))
        · rw [← hw7]; exact (HP5.out.trans (KpV.set HE5.out.o ty_iv (by omega) _))
        · rw [if_neg hkd, HLM.out]; exact HE6.out
        · rw [← hw7]; exact (HB5.out.setCell (p := ⟨_, 0, none⟩) (by simp; omega) _))
      rw [hw7]
      obtain ⟨len, hln⟩ : ∃ len, (Lib.byteCells (out ++ List.replicate d 101 ++ begV p.x)).length = len := ⟨_, rfl⟩
      have HLEN := Lib.hid (show len = out.length + d + (begV p.x).length by rw [← hln, Lib.byteCells_length, List.length_append, List.length_append, List.length_replicate])
      have HBL := Lib.hid (show Calls Tryd.prog 37 #[.pointer (some ⟨w1.heap.size, 0, none⟩)] w7.drew fun e w' => e = .returned (.int .i64 len) ∧ w' = w7.drew by
        rw [← hln]
        exact Tryd.Builder_Len w.heap.size w1.heap.size _ w7.drew HE6.out.b)
      have co7 := HE6.out.o.cell
      have hb9 : len + lm ≤ 1048576 := by
        have h1 := HG.out
        have h2 := HL.out
        have h3 := HLEN.out
        rw [if_neg hkd] at h1
        have h4 := HLM.out
        omega
      have hsum : IntKind.i64.wrap ((len : Int) + (lm : Int)) = (len : Int) + (lm : Int) := IntWalk.i64_in _ (by omega)
      have hcmp : decide ((1048576 : Int) < (len : Int) + (lm : Int)) = false := by simp; omega
      clear hln hw7 co fo q0 q1 q2 q3 hb9
      refine wpIn_region_any (by kernel_rfl) ?_
      refine any_step [0, 1] (by kernel_rfl) (by simp) ?_
      intro i hi
      simp only [List.mem_cons, List.mem_nil_iff, or_false] at hi
      rcases hi with rfl | rfl
      · skip
        refine wpOpIn_step rfl fun K' hK' => ?_
        go_simp
        refine (CallsIn.inRound l (callsIn_wide.2 HBL.out)).mono ?_
        rintro e w' ⟨rfl, rfl⟩
        refine hK' _ _ ?_
        clear hK' K'
        refine any_step [1] (by kernel_rfl) (by simp) ?_
        intro i hi
        obtain rfl := List.mem_singleton.1 hi
        clear hi
        refine wpOpIn_step rfl fun K' hK' => ?_
        go_simp
        refine hK' _ _ ?_
        clear hK' K'
        refine any_step [2] (by kernel_rfl) (by simp) ?_
        intro i hi
        obtain rfl := List.mem_singleton.1 hi
        clear hi
        refine wpOpIn_step rfl fun K' hK' => ?_
        go_simp
        refine hK' _ _ ?_
        clear hK' K'
        refine any_step [3] (by kernel_rfl) (by simp) ?_
        intro i hi
        obtain rfl := List.mem_singleton.1 hi
        clear hi
        refine wpOpIn_step rfl fun K' hK' => ?_
        go_simp
        refine hK' _ _ ?_
        clear hK' K'
        refine ⟨by kernel_rfl, ?_⟩
        gi_wp2
        obtain ⟨i1, i2, i3, i4⟩ := HFIN.out
        refine ⟨(i1.trans (KeepsOthers.drew _)).from _, ⟨i2.1.drew, i2.2⟩, ?_, i4.drew⟩
        rw [HF.out]
        exact ⟨i3.r, i3.e, i3.b, i3.o⟩
      · skip
        refine wpOpIn_step rfl fun K' hK' => ?_
        go_simp
        refine hK' _ _ ?_
        clear hK' K'
        refine any_step [0] (by kernel_rfl) (by simp) ?_
        intro i hi
        obtain rfl := List.mem_singleton.1 hi
        clear hi
        refine wpOpIn_step rfl fun K' hK' => ?_
        go_simp
        refine (CallsIn.inRound l (callsIn_wide.2 HBL.out)).mono ?_
        rintro e w' ⟨rfl, rfl⟩
        refine hK' _ _ ?_
        clear hK' K'
        refine any_step [2] (by kernel_rfl) (by simp) ?_
        intro i hi
        obtain rfl := List.mem_singleton.1 hi
        clear hi
        refine wpOpIn_step rfl fun K' hK' => ?_
        go_simp
        refine hK' _ _ ?_
        clear hK' K'
        refine any_step [3] (by kernel_rfl) (by simp) ?_
        intro i hi
        obtain rfl := List.mem_singleton.1 hi
        clear hi
        refine wpOpIn_step rfl fun K' hK' => ?_
        go_simp
        refine hK' _ _ ?_
        clear hK' K'
        refine ⟨by kernel_rfl, ?_⟩
        gi_wp2
        obtain ⟨i1, i2, i3, i4⟩ := HFIN.out
        refine ⟨(i1.trans (KeepsOthers.drew _)).from _, ⟨i2.1.drew, i2.2⟩, ?_, i4.drew⟩
        rw [HF.out]
        exact ⟨i3.r, i3.e, i3.b, i3.o⟩
  case done =>
    rintro D xs W hD hxs ⟨⟨br, be, bB, bo⟩, hB⟩ hK
    rw [hxs] at bB bo
    obtain ⟨⟨out, op⟩, ho⟩ : ∃ o, (vals 1 x).foldl stE ([], 0) = o := ⟨_, rfl⟩
    have hend := enc_end HD.out.2
    rw [ho] at bB bo hend
    have hend : out ++ List.replicate op 101 = enc x := hend
    have hlen : out.length + op ≤ 1048576 := by
      have := congrArg List.length hend
      have := HL.out
      simp only [List.length_append, List.length_replicate] at *
      omega
    obtain ⟨z, hz⟩ : ∃ z : ByteArray, z.data.toList = List.replicate op 101 := ⟨⟨(List.replicate op 101).toArray⟩, by simp⟩
    have hzs : z.size = op := by rw [← size_list, hz, List.length_replicate]
    have co := bo.cell
    have fo := bo.frozen
    have hWs := hB.size
    have HI := Lib.hid (show EW w.heap.size w1.heap.size W out op from ⟨br, be, bB, bo⟩)
    have HBX := Lib.hid hB
    have HKD := Lib.hid hK
    have HZ := Lib.hid hz
    have HEND := Lib.hid hend
    clear br be bB bo hB hK hz hend ho
    gi_wp2_with fail
    refine (callsIn_wide.2 (repeat_at op z HZ.out (by omega) _)).mono ?_
    rintro e w2 ⟨rfl, h2⟩
    have HE2 := Lib.hid (HI.out.below h2)
    have HKD2 := Lib.hid ((keeps_below h2).same D _ HKD.out rfl)
    have hsX : w.heap.size ≤ W.heap.size := by omega
    have HB2 := Lib.hid (HBX.out.trans (h2.mono hsX))
    have hs2 : w6.heap.size ≤ w2.heap.size := HB2.out.size
    clear h2 co fo
    gi_wp2_with fail
    refine (callsIn_wide.2 (writeString_any w.heap.size w1.heap.size (Lib.byteCells out) z w2 HE2.out.b (by rw [Lib.byteCells_length]; omega) (by omega))).mono ?_
    rintro e w3' ⟨rfl, hu, hb, hk, hko⟩
    have hu' : UsedB w.heap.size w1.heap.size (Lib.byteCells (enc x)) w3' := by
      rw [← HEND.out, Lib.byteCells_append, ← HZ.out, ← Lib.strCells_eq]; exact hu
    have HU := Lib.hid hu'
    have HBR := Lib.hid (And.intro (boxed_keep HE2.out.r hk (by decide) (by decide)) (boxed_keep HE2.out.e hk (by decide) (by decide)))
    have HB3 := Lib.hid (HB2.out.trans hb)
    have HKD3 := Lib.hid (hko.same D _ HKD2.out rfl)
    clear hu hu' hb hk hko HE2 HB2 HKD2 HI HBX HKD
    gi_wp2_with fail
    refine (callsIn_wide.2 (string_any w.heap.size w1.heap.size (enc x) w3' HU.out (enc_ne x))).mono ?_
    rintro e w4 ⟨rfl, hb, hk, hko⟩
    obtain ⟨r1, r2⟩ := HBR.out
    have r1 := boxed_keep r1 hk (by decide) (by decide)
    have r2 := boxed_keep r2 hk (by decide) (by decide)
    have hB4 := HB3.out.trans hb
    have hK4 := hko.same D _ HKD3.out rfl
    have c1 := r1.cell
    have f1 := r1.frozen
    have c2 := r2.cell
    have f2 := r2.frozen
    have HR := Lib.hid (And.intro r1 (And.intro r2 (And.intro hB4 hK4)))
    clear r1 r2 hB4 hK4 hb hk hko HU HBR HB3 HKD3
    gi_wp2_with fail
    obtain ⟨r1, r2, hB4, hK4⟩ := HR.out
    have hb' := (r1.set (.string ⟨(enc x).toArray⟩)).other (B' := w.heap.size + 1 + 1) (by omega) (.int .i64 0)
    have hb2' := (r2.other (B' := w.heap.size + 1) (by omega) (.string ⟨(enc x).toArray⟩)).set (.int .i64 0)
    have hK' := fin_store (B := w.heap.size + 1 + 1) (.int .i64 0) (fin_store (B := w.heap.size + 1) (.string ⟨(enc x).toArray⟩) hK4)
    have hc5 := fin_cell hb' hK'
    have hc6 := fin_cell hb2' hK'
    refine ⟨by simp, .inl ⟨_, _, rfl, run_takeDeferred hK', ?_⟩⟩
    refine ⟨.tuple #[.string ⟨(enc x).toArray⟩, intV 0], by simp [results, Tryd.f12, go_sem, hc5, hc6], _, rfl, by simp, fin_below (W0 := w6) (hbw6.trans ((hB4.setCell (p := ⟨_, 0, none⟩) (by simp) _).setCell (p := ⟨_, 0, none⟩) (by simp; omega) _)) (by omega) hD hK'⟩
set_option maxHeartbeats 4000000 in
theorem encode_bad (x : Val) (v : Value) (P : Nat → Prop) (w : World) (hv : VAt w P v x) (ht : tot x ≤ 65536) (r : Int) (hr : chk x = r) (h0 : r ≠ 0) :
    Calls Tryd.prog 12 #[v] w fun e w' => e = .returned (.tuple #[.string ⟨#[]⟩, intV r]) ∧ Below w.heap.size w w' := by
  obtain ⟨sa, sc, rfl, hs⟩ := hv.agg
  have HCK := Lib.hid (fun W hb => check_at x _ P W (hv.below hb) ht r hr)
  have hrb : (r != 0) = true := by simpa using h0
  clear hv hs ht hr h0
  go_enter Tryd.func12, Tryd.ntmps12
  go_wp2_with fail
  refine (HCK.out _ ?_).mono ?_
  · exact ((Below.refl _ w).alloc (Nat.le_refl _) _).alloc (by simp) _ |>.alloc (by simp; omega) _
  rintro e w1 ⟨rfl, h1⟩
  obtain ⟨w3, hw3⟩ : ∃ X, ((w.alloc (.cells #[intV x.kd, intV x.nm, .string x.tx, .slice sa x.its.length sc] 24)).alloc (.cells #[.string ⟨#[]⟩] 9)).alloc (.cells #[.int .i64 0] 27) = X := ⟨_, rfl⟩
  rw [hw3] at h1
  obtain ⟨s3, k0, k1, k2, kb⟩ := blocks3 w _ _ _ hw3
  have j1 : Boxed w1 (w.heap.size + 1) 9 (.string ⟨#[]⟩) := (h1.block _ (heap_lt k1)).trans k1
  have j2 : Boxed w1 (w.heap.size + 1 + 1) 27 (.int .i64 0) := (h1.block _ (heap_lt k2)).trans k2
  have HB := Lib.hid (show Below w.heap.size w w1 from below_seq kb h1 (by omega))
  have c1 := j1.cell
  have f1 := j1.frozen
  have c2 := j2.cell
  have f2 := j2.frozen
  have HJ := Lib.hid (And.intro j1 j2)
  clear hw3 k0 k1 k2 kb h1 s3 j1 j2 HCK
  go_wp2_with fail
  obtain ⟨j1, j2⟩ := HJ.out
  have hc5 := ((j1.set (.string ⟨#[]⟩)).other (B' := w.heap.size + 1 + 1) (by omega) (.int .i64 r)).cell
  have hc6 := ((j2.other (B' := w.heap.size + 1) (by omega) (.string ⟨#[]⟩)).set (.int .i64 r)).cell
  (try simp only [Exit.inBlock, Exit.then])
  refine bodyPost_ret (v := .tuple #[.string ⟨#[]⟩, intV r]) (by simp [results, Tryd.f12, go_sem, hc5, hc6]) rfl ?_
  exact ⟨rfl, (HB.out.setCell (p := ⟨_, 0, none⟩) (by simp) _).setCell (p := ⟨_, 0, none⟩) (by simp; omega) _⟩
/-- Encode: of what is not longer than a file -/
theorem encode_at (x : Val) (v : Value) (P : Nat → Prop) (w : World) (hv : VAt w P v x) (ht : tot x ≤ 65536) (hl : (enc x).length ≤ 1048576) (hT : Tab w) (r : Int) (hr : chk x = r) (s : ByteArray) (hs : s = if r = 0 then ⟨(enc x).toArray⟩ else ⟨#[]⟩) :
    Calls Tryd.prog 12 #[v] w fun e w' => e = .returned (.tuple #[.string s, intV r]) ∧ Below w.heap.size w w' := by
  subst hs
  by_cases h0 : r = 0
  · rw [if_pos h0]
    refine (encode_good x v P w hv ht (hr.trans h0) hl hT).mono ?_
    rintro e w' ⟨st, rfl, h1, h2⟩
    refine ⟨?_, h2⟩
    rw [h0, ba_of (a := st) (b := ⟨(enc x).toArray⟩) (by rw [h1])]
  · rw [if_neg h0]
    exact encode_bad x v P w hv ht r hr h0
end Go.Proofs.YtjcigjggfmfoeaaDoor
