/- Stage 10 (transcript): TpIter TpNodes TpLarge, put together by merge10.py. -/
import Derived.Test.YtmfcepfagbkceaaGreatDoorOi
import Derived.Test.YtmfcepfagbkceaaGreatDoorOb
import Derived.Test.YtmfcepfagbkceaaGreatDoorOj3
import Derived.RangeFuncNested
import Derived.RangeFuncBound
import Derived.RangeFuncCalls
import Derived.RangeFuncLeaves
import Derived.RangeFuncBox
import Derived.Shelf.Abstract
import Derived.Shelf.RegionOpen
import Derived.OwnWalkIn
import Derived.TacticsInMore
import Derived.LoopNIn
import Derived.LoopIn
import Derived.Maps.AppendAt
import Derived.Laws.EntriesVeiled
import Derived.BigRegionIn
namespace Go.Proofs.YtmfcepfagbkceaaGreatDoor
set_option linter.unusedSimpArgs false
set_option linter.unusedVariables false
set_option maxRecDepth 100000
open Go.RowKit Go.Shelf Go.Deep
theorem wide_fnT (k : FuncId) : Fence.wide.fn k = True := rfl
attribute [local go_sem] Oper.semAt_some wide_fnT
theorem wide_roomT (k : Nat) : Fence.wide.room k := fun d h => by cases h
theorem round_anyT {m m' : Nat} {P : Program} {l : Nat} {f : FuncId} {tmps : Array Value} {assign body : Code} {w : World} {R : Ending → World → Prop}
    (h : RoundIn Fence.wide m P l f tmps assign body w R) : RoundIn Fence.wide m' P l f tmps assign body w R := ⟨h.1, fun c cs _ => h.2 c cs (wide_roomT _)⟩
theorem yield_anyT {m : Nat} (m' : Nat) {P : Program} {l : Nat} {args : Array Value} {W : World} {R : Ending → World → Prop} (h : YieldAt Fence.wide m P l args W R) : YieldAt Fence.wide m' P l args W R := by
  obtain ⟨fn, tmps, assign, body, hy, hR⟩ := h
  exact ⟨fn, tmps, assign, body, hy, round_anyT hR⟩
theorem heap_ltT {w : World} {k : Nat} {o : Obj} (h : w.heap[k]? = some o) : k < w.heap.size := (Array.getElem?_eq_some_iff.1 h).1
def ownN (r : Option Nat) (W : World) (b : Nat) : Prop := ∃ R, r = some R ∧ ∃ n c, W.cell? ⟨R, 0, none⟩ = some (.slice (some ⟨b, 0, none⟩) n c)
structure KpN (n₀ M : Nat) (r : Option Nat) (A B : World) : Prop where
  below : Below n₀ A B
  box : ∀ b c t, M ≤ b → ¬ ownN r A b → A.heap[b]? = some (.cells c t (0, 0)) → B.heap[b]? = some (.cells c t (0, 0))
  old : ∀ b, b < A.heap.size → ownN r B b → ownN r A b
structure GN (n₀ M : Nat) (r : Option Nat) (W : World) : Prop where
  lo : n₀ ≤ M
  size : M ≤ W.heap.size
  row : ∀ R, r = some R → R < M
  own : ∀ b, ownN r W b → b < W.heap.size
theorem KpN.refl (n₀ M : Nat) (r : Option Nat) (A : World) : KpN n₀ M r A A := ⟨Below.refl _ _, fun _ _ _ _ _ h => h, fun _ _ h => h⟩
theorem KpN.trans {n₀ M : Nat} {r : Option Nat} {A B C : World} (h : KpN n₀ M r A B) (k : KpN n₀ M r B C) : KpN n₀ M r A C :=
  ⟨h.below.trans k.below, fun b c t hb ho hA => k.box b c t hb (fun e => ho (h.old b (heap_ltT hA) e)) (h.box b c t hb ho hA),
    fun b hb ho => h.old b hb (k.old b (Nat.lt_of_lt_of_le hb h.below.size) ho)⟩
theorem ownN_alloc {n₀ M : Nat} {r : Option Nat} {W : World} (g : GN n₀ M r W) (o : Obj) {b : Nat} (h : ownN r (W.alloc o) b) : ownN r W b := by
  obtain ⟨R, hr, n, c, hc⟩ := h
  refine ⟨R, hr, n, c, ?_⟩
  rw [← hc]
  exact (World.cell?_of_block (a := ⟨R, 0, none⟩) (Below.heap_alloc _ _ _ (Nat.lt_of_lt_of_le (g.row R hr) g.size))).symm
theorem KpN.alloc {n₀ M : Nat} {r : Option Nat} {A : World} (g : GN n₀ M r A) (o : Obj) : KpN n₀ M r A (A.alloc o) :=
  ⟨(Below.refl _ _).alloc (Nat.le_trans g.lo g.size) o, fun b c t _ _ h => (Below.heap_alloc _ _ _ (heap_ltT h)).trans h, fun b _ h => ownN_alloc g o h⟩
theorem KpN.fresh {n₀ M : Nat} {r : Option Nat} {A B : World} {c : Array Value} {t : TypeId} (g : GN n₀ M r A) (h : KpN n₀ M r (A.alloc (.cells c t (0, 0))) B) : B.heap[A.heap.size]? = some (.cells c t (0, 0)) :=
  h.box _ _ _ g.size (fun e => Nat.lt_irrefl _ (g.own _ (ownN_alloc g _ e))) (World.alloc_heap_new _ _)
theorem KpN.put {n₀ M : Nat} {r : Option Nat} (hM : n₀ ≤ M) (hr : ∀ R, r = some R → R < M) (W : World) (l : Nat) (o o' : Obj) (h : M ≤ l) (ho : W.heap[l]? = some o) (hc : o.isCells = false) : KpN n₀ M r W (W.putObj l o') :=
  ⟨(Below.refl _ _).grown (grownBy_putObj' W l o') (Nat.le_trans hM (Nat.le_trans h (Nat.le_of_lt (heap_ltT ho)))) (fun k e => by cases e; exact Nat.le_trans hM h),
    fun b c t _ _ hb => (World.putObj_heap_other (fun e => by subst e; rw [hb] at ho; cases ho; cases hc)).trans hb,
    fun b _ hw => by
      obtain ⟨R, e, n, c, hc'⟩ := hw
      refine ⟨R, e, n, c, ?_⟩
      rw [← hc']
      exact (World.cell?_of_block (a := ⟨R, 0, none⟩) (World.putObj_heap_other (fun e2 => by have h3 := hr R e; have e2 : R = l := e2; omega))).symm⟩
theorem KpN.keepBox {n₀ M : Nat} {r : Option Nat} {A B : World} (h : KpN n₀ M r A B) {b : Nat} {c : Array Value} {t : TypeId} (hb : M ≤ b) (ho : ¬ ownN r A b) (hA : A.heap[b]? = some (.cells c t (0, 0))) : B.heap[b]? = some (.cells c t (0, 0)) ∧ ¬ ownN r B b :=
  ⟨h.box b c t hb ho hA, fun e => ho (h.old b (heap_ltT hA) e)⟩
abbrev ndV (k : Int) (t : Bs) (n : Int) (s : Value) : Value := .agg #[intV k, sV t, intV n, s]
structure El (w0 : World) (P : Nat → Prop) (T : List (Nat × Nd)) where
  lv : Nat
  x : Nd
  sa : Option Addr
  sc : Nat
  ok : VAt w0 P (.agg #[intV x.kd, sV x.tx, intV x.nm, .slice sa x.ps.length sc]) x
  mem : (lv, x) ∈ T
def El.pr {w0 : World} {P : Nat → Prop} {T : List (Nat × Nd)} (p : El w0 P T) : Nat × Nd := (p.lv, p.x)
abbrev encE {w0 : World} {P : Nat → Prop} {T : List (Nat × Nd)} (p : El w0 P T) : Array Value := #[intV p.lv, .agg #[intV p.x.kd, sV p.x.tx, intV p.x.nm, .slice p.sa p.x.ps.length p.sc]]
abbrev yT : TypeId := 105
abbrev zT : TypeId := 106
abbrev nT : TypeId := 42
abbrev walkF (Y Z : Nat) : Value := .func (.func 82) #[] #[.pointer (some ⟨Y, 0, none⟩), .pointer (some ⟨Z, 0, none⟩)]
theorem pre_takeT {α : Type} {A B : List α} (h : A <+: B) (n : Nat) : A.take n <+: B.take n := by
  obtain ⟨R, rfl⟩ := h
  rw [List.take_append]
  exact List.prefix_append _ _
theorem take_midT {α : Type} {A B : List α} {x : α} {b a : Nat} (hA : A.length = a) (h : a < b) : (A ++ x :: B).take b = A ++ x :: B.take (b - a - 1) := by
  rw [List.take_append, hA, List.take_of_length_le (by omega)]
  obtain ⟨k, hk⟩ : ∃ k, b - a = k + 1 := ⟨b - a - 1, by omega⟩
  rw [hk, List.take_succ_cons]
  rfl
theorem box1T {W : World} {b : Nat} {v : Value} {t : TypeId} (h : W.heap[b]? = some (.cells #[v] t (0, 0))) : W.cell? ⟨b, 0, none⟩ = some v := by unfold World.cell?; rw [h]; rfl
theorem box4T {W : World} {b : Nat} {v0 v1 v2 v3 : Value} {t : TypeId} (h : W.heap[b]? = some (.cells #[v0, v1, v2, v3] t (0, 0))) :
    W.cell? ⟨b, 0, none⟩ = some v0 ∧ W.cell? ⟨b, 1, none⟩ = some v1 ∧ W.cell? ⟨b, 2, none⟩ = some v2 ∧ W.cell? ⟨b, 3, none⟩ = some v3 := by
  unfold World.cell?; rw [h]; exact ⟨rfl, rfl, rfl, rfl⟩
def WalkPost {w0 : World} {P : Nat → Prop} {T : List (Nat × Nd)} (M : Nat) (r : Option Nat) (J Jx : List (El w0 P T) → World → Prop) (pre : List (El w0 P T)) (b c : Nat) (L : List (Nat × Nd)) (W : World) (e : Ending) (W' : World) : Prop :=
  (e = .returned (intV (b - c : Nat)) ∧ ∃ ps : List (El w0 P T), ps.map El.pr = L ∧ J (pre ++ ps) W' ∧ KpN w0.heap.size M r W W') ∨ (e = .returned (intV 0) ∧ ∃ ps : List (El w0 P T), ps.map El.pr <+: L ∧ Jx (pre ++ ps) W')
set_option maxHeartbeats 4000000 in
theorem walk_in (l : Nat) (T : List (Nat × Nd)) (w0 : World) (P : Nat → Prop) (M : Nat) (r : Option Nat) (J Jx : List (El w0 P T) → World → Prop) (hJ : ∀ s W o, J s W → J s (W.alloc o)) (hJx : ∀ s W o, Jx s W → Jx s (W.alloc o))
    (hG : ∀ s W, J s W → GN w0.heap.size M r W) (hGx : ∀ s W, Jx s W → Below w0.heap.size w0 W)
    (hY : ∀ m pre p W, J pre W → (pre ++ [p]).map El.pr <+: T → YieldAt Fence.wide m Tryz.prog l (encE p) W fun e W' =>
      (e = .returned (.bool true) ∧ J (pre ++ [p]) W' ∧ KpN w0.heap.size M r W W') ∨ (e = .returned (.bool false) ∧ Jx (pre ++ [p]) W')) (Y Z : Nat) (hYM : M ≤ Y) (hZM : M ≤ Z) :
    ∀ (N : Nat) (L : List Nd), tots L ≤ N → tots L ≤ 100000 → ∀ (n d b : Nat) (v : Value) (pre : List (El w0 P T)) (W : World), VsAt w0 P v L → Below w0.heap.size w0 W →
      W.heap[Y]? = some (.cells #[.func (.yield l) #[] #[]] yT (0, 0)) → W.heap[Z]? = some (.cells #[walkF Y Z] zT (0, 0)) → ¬ ownN r W Y → ¬ ownN r W Z →
      J pre W → pre.map El.pr ++ (preL d L).take b <+: T → d + b ≤ 100000 →
      CallsIn Fence.wide n Tryz.prog 82 #[v, intV d, intV b, .pointer (some ⟨Y, 0, none⟩), .pointer (some ⟨Z, 0, none⟩)] W (WalkPost M r J Jx pre b (tots L) ((preL d L).take b) W) := by
  intro N
  induction N using Nat.strongRecOn with
  | _ N ih =>
    intro L hN hMx n d b v pre W hv hB hYb hZb hYo hZo hj hT hdb
    have HV := Lib.hid hv
    obtain ⟨a, c, rfl, _⟩ := hv
    have hll := len_tots L
    have hdd : ∀ k : Nat, (Fence.wide.depth.isSome = true → 1 ≤ k) := fun k h => by cases h
    have IH := Lib.hid ih
    have HY := Lib.hid hY
    have HB0 := Lib.hid hB
    have HYZ := Lib.hid (And.intro hYb (And.intro hZb (And.intro hYo hZo)))
    have HJ := Lib.hid hJ
    have HJX := Lib.hid hJx
    have HG := Lib.hid hG
    have HGX := Lib.hid hGx
    have HJ0 := Lib.hid hj
    have HT := Lib.hid hT
    clear ih hY hB hYb hZb hYo hZo hJ hJx hG hGx hj hT
    refine callsIn_of_wp Tryz.func82 rfl trivial ?_ rfl
    simp only [Tryz.ntmps82, List.size_toArray, List.length_cons, List.length_nil, Nat.reduceAdd, Nat.reduceSub, Array.replicate_succ, Array.replicate_zero, List.push_toArray, List.append_toArray, List.nil_append, List.cons_append]
    gi_wp2
    gi_loopw [2, 13] (fun bv iv wr => ∃ j : Nat, j ≤ L.length ∧ iv = .int .i64 j ∧
        ((∃ (b' : Nat) (ps : List (El w0 P T)), bv = .int .i64 b' ∧ b' = b - tots (L.take j) ∧ ps.map El.pr = (preL d (L.take j)).take b ∧ J (pre ++ ps) wr ∧ KpN w0.heap.size M r W wr) ∨
         (bv = .int .i64 0 ∧ ∃ ps : List (El w0 P T), ps.map El.pr <+: (preL d L).take b ∧ Jx (pre ++ ps) wr))) (fun _ iv _ => L.length - (intOf iv).toNat)
    case atStart => exact ⟨0, Nat.zero_le _, rfl, .inl ⟨b, [], rfl, by simp [tots], by simp [preL], by simpa using HJ0.out, KpN.refl _ _ _ _⟩⟩
    case round =>
      obtain ⟨j, hj, rfl, ways⟩ := hrel
      obtain ⟨wk, rfl⟩ : ∃ x, x = wr := ⟨_, rfl⟩
      by_cases hlt : j < L.length
      · obtain ⟨bb, off, sa, sc, rfl, _, hbb, c1, c2, c3, c4, hx⟩ := HV.out.elem' hlt
        have i0 : (0 : Int) ≤ (j : Int) := by omega
        have i1 : (j : Int) < (L.length : Int) := by omega
        have hBk : Below w0.heap.size w0 wk := by
          rcases ways with ⟨_, ps, _, _, _, _, hK⟩ | ⟨_, ps, _, hJx⟩
          · exact HB0.out.trans hK.below
          · exact HGX.out _ _ hJx
        have d1 := (hBk.cell (p := ⟨bb, off + j * 4, none⟩) hbb).trans c1
        have d2 := (hBk.cell (p := ⟨bb, off + j * 4 + 1, none⟩) hbb).trans c2
        have d3 := (hBk.cell (p := ⟨bb, off + j * 4 + 2, none⟩) hbb).trans c3
        have d4 := (hBk.cell (p := ⟨bb, off + j * 4 + 3, none⟩) hbb).trans c4
        clear c1 c2 c3 c4 hBk hbb
        rcases ways with ⟨b', ps, rfl, hb', hps, hJk, hK⟩ | ⟨rfl, ps, hps, hJk⟩
        · have hGk := HG.out _ _ hJk
          have hJa := HJ.out _ _ (.cells #[intV L[j].kd, sV L[j].tx, intV L[j].nm, .slice sa L[j].ps.length sc] nT (0, 0)) hJk
          have hKa := hK.trans (KpN.alloc hGk (.cells #[intV L[j].kd, sV L[j].tx, intV L[j].nm, .slice sa L[j].ps.length sc] nT (0, 0)))
          obtain ⟨q1, q2, q3, q4⟩ := HYZ.out
          obtain ⟨y1, y2⟩ := hKa.keepBox hYM q3 q1
          obtain ⟨z1, z2⟩ := hKa.keepBox hZM q4 q2
          have yc := box1T y1
          have HSTEP := Lib.hid (preL_step d hlt)
          obtain ⟨hs1, _⟩ := tots_at hlt
          have hlen : (preL d (L.take j)).length = tots (L.take j) := pre_len.2 _ _
          have hxt := tot_ps L[j]
          have hle := (tots_le (l := L) (j + 1)).1
          have hle0 := (tots_le (l := L) j).1
          by_cases hb0 : b' = 0
          · have g0 : ((b' : Int) == 0) = true := by simp [hb0]
            have HE := Lib.hid (show WalkPost M r J Jx pre b (tots L) ((preL d L).take b) W (.returned (intV 0)) (wk.alloc (.cells #[intV L[j].kd, sV L[j].tx, intV L[j].nm, .slice sa L[j].ps.length sc] nT (0, 0))) from by
              refine .inl ⟨by rw [show b - tots L = 0 by omega]; rfl, ps, ?_, hJa, hKa⟩
              rw [hps]
              obtain ⟨R, hR⟩ := preL_pre d L j
              rw [← hR, List.take_append_of_le_length (by omega)])
            clear hJa hKa hGk hJk hK y1 y2 z1 z2 yc hlen hs1 hxt hle hle0 hps hb' hx hb0
            gi_wp2
            go_ret
            exact HE.out
          · have g0 : ((b' : Int) == 0) = false := by rw [beq_eq_false_iff_ne]; omega
            obtain ⟨x, hxe⟩ : ∃ x, L[j] = x := ⟨_, rfl⟩
            have hfst : ps.map El.pr = preL d (L.take j) := by rw [hps, List.take_of_length_le (by omega)]
            have hmid : (preL d (L.take (j + 1))).take b = preL d (L.take j) ++ (d, x) :: (preL (d + 1) x.ps).take (b' - 1) := by
              rw [HSTEP.out, hxe, take_midT hlen (by omega)]
              congr 3
              omega
            have hpre : (preL d (L.take (j + 1))).take b <+: (preL d L).take b := pre_takeT (preL_pre d L (j + 1)) b
            rw [hxe] at hx d1 d2 d3 d4 hJa hKa y1 y2 z1 z2 yc hs1 hxt
            have hTn : (pre ++ ps).map El.pr ++ (d, x) :: (preL (d + 1) x.ps).take (b' - 1) <+: T := by
              rw [List.map_append, hfst, List.append_assoc, ← hmid]
              exact List.IsPrefix.trans (List.prefix_append_right_inj _ |>.2 hpre) HT.out
            have HEL := Lib.hid (show ∃ p : El w0 P T, p.lv = d ∧ p.x = x ∧ p.sa = sa ∧ p.sc = sc from ⟨⟨d, x, sa, sc, hx, hTn.subset (by simp)⟩, rfl, rfl, rfl, rfl⟩)
            obtain ⟨p, hp1, hp2, hp3, hp4⟩ := HEL.out
            have hpr : p.pr = (d, x) := by rw [El.pr, hp1, hp2]
            obtain ⟨fn, tmps, assign, body, hy, hR⟩ := HY.out (n - 1) (pre ++ ps) p (wk.alloc (.cells #[intV x.kd, sV x.tx, intV x.nm, .slice sa x.ps.length sc] nT (0, 0))) hJa (by
              rw [List.map_append, List.map_cons, List.map_nil, hpr]
              exact List.IsPrefix.trans ⟨_, by rw [List.append_assoc]; rfl⟩ hTn)
            simp only [encE, hp1, hp2, hp3, hp4] at hy
            have hvs : VsAt w0 P (.slice sa x.ps.length sc) x.ps := parts_at hx (Below.refl _ _)
            obtain ⟨xk, hxk⟩ : ∃ z, x.kd = z := ⟨_, rfl⟩
            obtain ⟨xt, hxtt⟩ : ∃ z, x.tx = z := ⟨_, rfl⟩
            obtain ⟨xn, hxn⟩ : ∃ z, x.nm = z := ⟨_, rfl⟩
            obtain ⟨xp, hxp⟩ : ∃ z, x.ps = z := ⟨_, rfl⟩
            rw [hxk, hxtt, hxn, hxp] at hy hR hKa y1 z1 y2 z2 yc
            rw [hxk] at d1
            rw [hxtt] at d2
            rw [hxn] at d3
            rw [hxp] at d4 hvs hTn hmid hxt
            have HPR := Lib.hid hpr
            have HFS := Lib.hid hfst
            have HKA := Lib.hid hKa
            have HTN := Lib.hid hTn
            have HMID := Lib.hid hmid
            have HHPRE := Lib.hid hpre
            have HVS := Lib.hid hvs
            have HYA := Lib.hid (And.intro y1 (And.intro z1 (And.intro y2 z2)))
            have HGK := Lib.hid hGk
            have HNUM := Lib.hid (show tots (L.take (j + 1)) = tots (L.take j) + (1 + tots xp) ∧ b' = b - tots (L.take j) ∧ 1 ≤ b' ∧ b' ≤ b ∧ tots xp < tots L ∧ tots (L.take (j + 1)) ≤ tots L from ⟨by omega, hb', by omega, by omega, by omega, hle⟩)
            have hfresh := fun (B : World) (h : KpN w0.heap.size M r (wk.alloc (.cells #[intV xk, sV xt, intV xn, .slice sa xp.length sc] nT (0, 0))) B) => KpN.fresh hGk h
            have HFR := Lib.hid hfresh
            clear hfresh hpr hfst hKa hTn hmid hpre hvs y1 y2 z1 z2 hGk hJa hJk hK hx hxk hxtt hxn hxp hxe hp1 hp2 hp3 hp4 HEL hlen hs1 hxt hle hle0 hps hb' hb0
            have hb1 : 1 ≤ b' := HNUM.out.2.2.1
            have w1 : IntKind.i64.wrap ((d : Int) + 1) = ((d + 1 : Nat) : Int) := by rw [show (d : Int) + 1 = ((d + 1 : Nat) : Int) by omega]; exact IntWalk.i64_in _ (by omega)
            have w2 : IntKind.i64.wrap ((b' : Int) - 1) = ((b' - 1 : Nat) : Int) := by rw [show (b' : Int) - 1 = ((b' - 1 : Nat) : Int) by omega]; exact IntWalk.i64_in _ (by have := HNUM.out.2.2.2.1; omega)
            gi_wp2
            refine ⟨hdd _, hR.mono ?_⟩
            rintro e W2 (⟨rfl, hJ2, hk2⟩ | ⟨rfl, hJx2⟩)
            · have hbx := HFR.out _ hk2
              obtain ⟨_, _, _, e4⟩ := box4T hbx
              obtain ⟨q1, q2, q3, q4⟩ := HYA.out
              obtain ⟨y1, y2⟩ := hk2.keepBox hYM q3 q1
              obtain ⟨z1, z2⟩ := hk2.keepBox hZM q4 q2
              have zc := box1T z1
              have HKW := Lib.hid (HKA.out.trans hk2)
              have HREC := Lib.hid (IH.out (tots xp) (by have := HNUM.out.2.2.2.2.1; omega) xp (Nat.le_refl _) (by have := HNUM.out.2.2.2.2.1; omega) (n - 1) (d + 1) (b' - 1) _ (pre ++ ps ++ [p]) W2 HVS.out (HB0.out.trans HKW.out.below) y1 z1 y2 z2 hJ2
                (by rw [List.map_append, List.map_cons, List.map_nil, HPR.out, List.append_assoc]; exact HTN.out) (by have := HNUM.out.2.2.2.1; omega))
              clear hbx q1 q2 q3 q4 y1 y2 z1 z2 hJ2 hk2 hy hR
              gi_wp2_with fail
              refine ⟨hdd _, HREC.out.mono ?_⟩
              clear HREC
              rintro e w3 (⟨rfl, qs, hqs, hJ3, hK3⟩ | ⟨rfl, qs, hqs, hJx3⟩)
              · have HJ3 := Lib.hid hJ3
                have HK3 := Lib.hid hK3
                have HQ := Lib.hid hqs
                obtain ⟨b2, hb2⟩ : ∃ b2, b' - 1 - tots xp = b2 := ⟨_, rfl⟩
                rw [hb2]
                have HB2 := Lib.hid hb2
                clear hJ3 hK3 hqs e4 zc hb2
                gi_wp2
                go_roundw
                case rel =>
                  refine ⟨j + 1, by omega, by go_num, .inl ⟨b2, ps ++ [p] ++ qs, rfl, ?_, ?_, ?_, HKW.out.trans HK3.out⟩⟩
                  · have := HNUM.out
                    have := HB2.out
                    omega
                  · rw [HMID.out, List.map_append, List.map_append, List.map_cons, List.map_nil, HFS.out, HPR.out, HQ.out, List.append_assoc]
                    rfl
                  · have := HJ3.out
                    rw [← List.append_assoc, ← List.append_assoc]
                    exact this
                case measure => simp [intOf]; omega
              · have HJ3 := Lib.hid hJx3
                have HQ := Lib.hid hqs
                clear hJx3 hqs e4 zc
                gi_wp2
                go_roundw
                case rel =>
                  refine ⟨j + 1, by omega, by go_num, .inr ⟨rfl, ps ++ [p] ++ qs, ?_, ?_⟩⟩
                  · refine List.IsPrefix.trans ?_ HHPRE.out
                    rw [HMID.out, List.map_append, List.map_append, List.map_cons, List.map_nil, HFS.out, HPR.out, List.append_assoc]
                    exact List.prefix_append_right_inj _ |>.2 (List.prefix_append_right_inj [(d, x)] |>.2 HQ.out)
                  · have := HJ3.out
                    rw [← List.append_assoc, ← List.append_assoc]
                    exact this
                case measure => simp [intOf]; omega
            · have HJ3 := Lib.hid hJx2
              clear hJx2
              gi_wp2
              go_ret
              refine .inr ⟨rfl, ps ++ [p], ?_, by rw [← List.append_assoc]; exact HJ3.out⟩
              refine List.IsPrefix.trans ?_ HHPRE.out
              rw [HMID.out, List.map_append, List.map_cons, List.map_nil, HFS.out, HPR.out]
              exact List.prefix_append_right_inj _ |>.2 (List.prefix_append_right_inj [(d, x)] |>.2 (List.nil_prefix))
        · have HE := Lib.hid (show WalkPost M r J Jx pre b (tots L) ((preL d L).take b) W (.returned (intV 0)) (wk.alloc (.cells #[intV L[j].kd, sV L[j].tx, intV L[j].nm, .slice sa L[j].ps.length sc] nT (0, 0))) from .inr ⟨rfl, ps, hps, HJX.out _ _ _ hJk⟩)
          clear hJk hps hx
          gi_wp2
          go_ret
          exact HE.out
      · obtain rfl : j = L.length := by omega
        rcases ways with ⟨b', ps, rfl, hb', hps, hJk, hK⟩ | ⟨rfl, ps, hps, hJk⟩
        · rw [List.take_length] at hb' hps
          have HE := Lib.hid (show WalkPost M r J Jx pre b (tots L) ((preL d L).take b) W (.returned (intV b')) wk from .inl ⟨by rw [hb'], ps, hps, hJk, hK⟩)
          clear hJk hK hps hb'
          gi_wp2
          go_ret
          exact HE.out
        · have HE := Lib.hid (show WalkPost M r J Jx pre b (tots L) ((preL d L).take b) W (.returned (intV 0)) wk from .inr ⟨rfl, ps, hps, hJk⟩)
          clear hJk hps
          gi_wp2
          go_ret
          exact HE.out
end Go.Proofs.YtmfcepfagbkceaaGreatDoor
namespace Go.Proofs.YtmfcepfagbkceaaGreatDoor
set_option linter.unusedSimpArgs false
set_option linter.unusedVariables false
set_option maxRecDepth 100000
open Go.RowKit Go.Shelf Go.Deep
attribute [local go_sem] Oper.semAt_some wide_fnT
theorem below_grownT {A B : World} (h : Below A.heap.size A B) : A.grownBy B none := ⟨h.os, h.tape, h.output, h.size, fun k hk _ => h.block k hk⟩
abbrev lT : TypeId := 24
theorem nodes_any (a : Option Addr) (n c : Nat) (w : World) :
    Calls Tryz.prog 51 #[.slice a n c] w fun e w' => e = .returned (.func (.func 81) #[] #[.pointer (some ⟨w.heap.size, 0, none⟩)]) ∧ w' = w.alloc (.cells #[.slice a n c] lT (0, 0)) := by
  go_enter Tryz.func51, Tryz.ntmps51
  go_wp2
  go_ret
  exact ⟨rfl, rfl⟩
theorem boxesT (W : World) (v1 v0 v2 : Value) (t1 t2 : TypeId) {X : World} (hX : ((W.alloc (.cells #[v1] t1 (0, 0))).alloc (.cells #[v0] t2 (0, 0))).setCell ⟨W.heap.size + 1, 0, none⟩ v2 = X) :
    X.heap.size = W.heap.size + 2 ∧ X.heap[W.heap.size]? = some (.cells #[v1] t1 (0, 0)) ∧ X.heap[W.heap.size + 1]? = some (.cells #[v2] t2 (0, 0)) ∧ Below W.heap.size W X := by
  subst hX
  have hb : Below W.heap.size W ((W.alloc (.cells #[v1] t1 (0, 0))).alloc (.cells #[v0] t2 (0, 0))) := ((Below.refl _ W).alloc (Nat.le_refl _) _).alloc (by simp) _
  have h1 : ((W.alloc (.cells #[v1] t1 (0, 0))).alloc (.cells #[v0] t2 (0, 0))).heap[W.heap.size]? = some (.cells #[v1] t1 (0, 0)) := (Below.heap_alloc _ _ _ (by simp)).trans (World.alloc_heap_new _ _)
  have h2 : ((W.alloc (.cells #[v1] t1 (0, 0))).alloc (.cells #[v0] t2 (0, 0))).heap[W.heap.size + 1]? = some (.cells #[v0] t2 (0, 0)) := by
    have := World.alloc_heap_new (W.alloc (.cells #[v1] t1 (0, 0))) (.cells #[v0] t2 (0, 0))
    rwa [World.size_alloc] at this
  refine ⟨?_, ?_, ?_, hb.setCell (p := ⟨W.heap.size + 1, 0, none⟩) (by show W.heap.size ≤ W.heap.size + 1; omega) _⟩
  · simp
  · rw [Below.heap_setCell _ _ _ _ (by show W.heap.size ≠ W.heap.size + 1; omega)]; exact h1
  · exact Boxed.set v2 h2
theorem nodes1_in (w0 : World) (P : Nat → Prop) (L : List Nd) (v : Value) (hv : VsAt w0 P v L) (ht : tots L ≤ 90000) (M : Nat) (r : Option Nat) (B l : Nat) (J Jx : List (El w0 P ((preL 0 L).take 4097)) → World → Prop) (hJ : ∀ s A C, J s A → A.grownBy C none → J s C) (hJx : ∀ s A C, Jx s A → A.grownBy C none → Jx s C)
    (hG : ∀ s W, J s W → GN w0.heap.size M r W) (hGx : ∀ s W, Jx s W → Below w0.heap.size w0 W) (m' : Nat)
    (hY : ∀ pre p W, J pre W → (pre ++ [p]).map El.pr <+: (preL 0 L).take 4097 → YieldAt Fence.wide m' Tryz.prog l (encE p) W fun e W' =>
      (e = .returned (.bool true) ∧ J (pre ++ [p]) W' ∧ KpN w0.heap.size M r W W') ∨ (e = .returned (.bool false) ∧ Jx (pre ++ [p]) W'))
    (W : World) (hW : Below w0.heap.size w0 W) (hB : W.heap[B]? = some (.cells #[v] lT (0, 0))) (h0 : J [] W) :
    CallsIn Fence.wide 8 Tryz.prog 81 #[.func (.yield l) #[] #[], .pointer (some ⟨B, 0, none⟩)] W fun e W' => (∃ v, e = .returned v) ∧
      ((∃ ys : List (El w0 P ((preL 0 L).take 4097)), ys.map El.pr = (preL 0 L).take 4097 ∧ J ys W') ∨ (∃ pre : List (El w0 P ((preL 0 L).take 4097)), pre.map El.pr <+: (preL 0 L).take 4097 ∧ Jx pre W')) := by
  obtain ⟨a, c, rfl, hvi⟩ := id hv
  clear hvi
  have bc := box1T hB
  have hg := hG _ _ h0
  have HB := Lib.hid hB
  have HJ0 := Lib.hid h0
  have HW := Lib.hid hW
  have HWK := Lib.hid (fun W' q1 q2 q3 q4 q5 q6 q7 => walk_in l ((preL 0 L).take 4097) w0 P M r J Jx (fun s A o h => hJ s A _ h (World.grownBy_alloc A o none)) (fun s A o h => hJx s A _ h (World.grownBy_alloc A o none)) hG hGx (fun m pre p W h1 h2 => yield_anyT m (hY pre p W h1 h2)) W.heap.size (W.heap.size + 1) hg.size (by have := hg.size; omega)
    (tots L) L (Nat.le_refl _) (by omega) 7 0 4097 _ [] W' hv q1 q2 q3 q4 q5 q6 q7 (by omega))
  have HG := Lib.hid hg
  have HJ := Lib.hid hJ
  have hBl := heap_ltT hB
  obtain ⟨X, hX⟩ : ∃ X, (W.alloc (.cells #[.func (.yield l) #[] #[]] 105 (0, 0))).alloc (.cells #[walkF W.heap.size (W.heap.size + 1)] 106 (0, 0)) = X := ⟨_, rfl⟩
  have hXB : Below W.heap.size W X := by rw [← hX]; exact ((Below.refl _ W).alloc (Nat.le_refl _) _).alloc (by simp) _
  have hX1 : X.heap[W.heap.size]? = some (.cells #[.func (.yield l) #[] #[]] yT (0, 0)) := by rw [← hX]; exact (Below.heap_alloc _ _ _ (by simp)).trans (World.alloc_heap_new _ _)
  have hX2 : X.heap[W.heap.size + 1]? = some (.cells #[walkF W.heap.size (W.heap.size + 1)] zT (0, 0)) := by
    rw [← hX]
    have := World.alloc_heap_new (W.alloc (.cells #[.func (.yield l) #[] #[]] 105 (0, 0))) (.cells #[walkF W.heap.size (W.heap.size + 1)] 106 (0, 0))
    rwa [World.size_alloc] at this
  have hown : ∀ b, ownN r X b → b < W.heap.size := fun b hb => by
    rw [← hX] at hb
    have h1 := hG _ _ h0
    have h2 : ownN r (W.alloc (.cells #[.func (.yield l) #[] #[]] 105 (0, 0))) b := ownN_alloc ⟨h1.lo, by have := h1.size; simp; omega, h1.row, fun b h => by have := h1.own b (ownN_alloc h1 _ h); simp; omega⟩ _ hb
    exact h1.own b (ownN_alloc h1 _ h2)
  have HX := Lib.hid hX
  have bc2 : X.cell? ⟨B, 0, none⟩ = some (.slice a L.length c) := (hXB.cell (p := ⟨B, 0, none⟩) hBl).trans bc
  have HC := Lib.hid (HWK.out X (hW.trans (hXB.mono hW.size)) hX1 hX2 (fun e => Nat.lt_irrefl _ (hown _ e)) (fun e => by have := hown _ e; omega) (hJ _ _ _ h0 (below_grownT hXB)) (by simp))
  rw [← hX] at bc2
  clear HWK hY hv hG hGx hJ hJx h0 hg hW hB hown hX1 hX2 hXB hBl hX
  refine callsIn_of_wp Tryz.func81 rfl trivial ?_ rfl
  simp only [Tryz.ntmps81, List.size_toArray, List.length_cons, List.length_nil, Nat.reduceAdd, Nat.reduceSub, Array.replicate_succ, Array.replicate_zero, List.push_toArray, List.append_toArray, List.nil_append, List.cons_append]
  gi_wp2_with fail
  rw [HX.out]
  refine HC.out.mono ?_
  clear HC bc bc2
  rintro e w3 (⟨rfl, ps, hps, hJ3, hK3⟩ | ⟨rfl, ps, hps, hJx3⟩)
  · gi_wp2
    go_end0
    exact ⟨⟨_, rfl⟩, .inl ⟨ps, hps, by simpa using hJ3⟩⟩
  · gi_wp2
    go_end0
    exact ⟨⟨_, rfl⟩, .inr ⟨ps, hps, by simpa using hJx3⟩⟩
theorem nodes_stops (w0 : World) (P : Nat → Prop) (L : List Nd) (v : Value) (hv : VsAt w0 P v L) (ht : tots L ≤ 90000) (M : Nat) (r : Option Nat) (B : Nat) (w : World) (hW : Below w0.heap.size w0 w) (hB : w.heap[B]? = some (.cells #[v] lT (0, 0))) :
    StopsB Fence.wide 8 Tryz.prog 81 #[.pointer (some ⟨B, 0, none⟩)] (encE (w0 := w0) (P := P) (T := (preL 0 L).take 4097)) (KpN w0.heap.size M r) (fun ys => ys.map El.pr = (preL 0 L).take 4097) (fun pre => pre.map El.pr <+: (preL 0 L).take 4097) 4097 (GN w0.heap.size M r) (Below w0.heap.size w0) w := fun l J Jx W hw hJ hJx hG hGx hY h0 =>
  nodes1_in w0 P L v hv ht M r B l J Jx (fun s A C h hg => hJ s A C none h hg (fun r e => by cases e)) (fun s A C h hg => hJx s A C none h hg (fun r e => by cases e)) hG hGx _
    (fun pre p W1 h1 h2 => hY pre p W1 h1 (by have h3 := h2.length_le; rw [List.length_map, List.length_append, List.length_take] at h3; simp at h3; omega)) W
    (hW.trans (hw.mono hW.size)) ((hw.block B (heap_ltT hB)).trans hB) h0
end Go.Proofs.YtmfcepfagbkceaaGreatDoor
namespace Go.Proofs.YtmfcepfagbkceaaGreatDoor
set_option linter.unusedSimpArgs false
set_option linter.unusedVariables false
set_option maxRecDepth 100000
open Go.RowKit Go.Shelf Go.Deep
attribute [local go_sem] Oper.semAt_some wide_fnT
theorem KpN.set {n₀ M : Nat} {r : Option Nat} {W : World} {b i : Nat} (h1 : n₀ ≤ b) (h2 : b < M) (hr : ∀ R, r = some R → R ≠ b) (v : Value) : KpN n₀ M r W (W.setCell ⟨b, i, none⟩ v) :=
  ⟨(Below.refl _ _).setCell (p := ⟨b, i, none⟩) h1 v, fun b' c t hb _ h => (Below.heap_setCell _ _ _ _ (by show b' ≠ b; omega)).trans h, fun b' _ hw => by
    obtain ⟨R, e, n, c, hc⟩ := hw
    refine ⟨R, e, n, c, ?_⟩
    rw [← hc]
    exact (World.cell?_of_block (a := ⟨R, 0, none⟩) (Below.heap_setCell _ _ _ _ (hr R e))).symm⟩
theorem KpN.of_below {n₀ M : Nat} {r : Option Nat} {A B : World} (h : Below A.heap.size A B) (hn : n₀ ≤ A.heap.size) (hr : ∀ R, r = some R → R < A.heap.size) : KpN n₀ M r A B :=
  ⟨h.mono hn, fun b c t _ _ hA => (h.block b (heap_ltT hA)).trans hA, fun b _ hw => by
    obtain ⟨R, e, n, c, hc⟩ := hw
    refine ⟨R, e, n, c, ?_⟩
    rw [← hc]
    exact (World.cell?_of_block (a := ⟨R, 0, none⟩) (h.block R (hr R e))).symm⟩
theorem GN.of {n₀ M : Nat} {W : World} (h1 : n₀ ≤ M) (h2 : M ≤ W.heap.size) : GN n₀ M none W := ⟨h1, h2, fun R e => (nomatch e), fun b h => by obtain ⟨R, e, _⟩ := h; cases e⟩
theorem keeps_belowT {A B : World} (h : Below A.heap.size A B) : KeepsOthers A B := ⟨h.size, fun k o hk ho => (h.block k (heap_ltT hk)).trans hk⟩
theorem boxed_belowT {A B : World} {b : Nat} {t : TypeId} {v : Value} (hb : Boxed A b t v) (h : Below A.heap.size A B) : Boxed B b t v := (h.block b hb.lt).trans hb
theorem fin_cellT {W : World} {D B : Nat} {t : TypeId} {v : Value} (hb : Boxed W B t v) (hK : W.heap[D]? = some (.deferred (some []))) : (W.putObj D (.deferred none)).cell? ⟨B, 0, none⟩ = some v :=
  cell_kept hb.cell (grownBy_putObj' _ D (.deferred none)) (fun r e => by cases e; exact ⟨_, hK, rfl⟩)
theorem fin_storeT {W : World} {D B : Nat} (v : Value) (hK : W.heap[D]? = some (.deferred (some []))) : (W.setCell ⟨B, 0, none⟩ v).heap[D]? = some (.deferred (some [])) :=
  (KeepsOthers.setCell W ⟨B, 0, none⟩ v).same D _ hK rfl
theorem fin_belowT {w W0 W : World} {n D : Nat} (hB : Below n w W) (hn : n ≤ W0.heap.size) (hD : W0.heap.size ≤ D) (hK : W.heap[D]? = some (.deferred (some []))) : Below n w (W.putObj D (.deferred none)) :=
  hB.trans (belowK_b (w := W0) hn W D _ _ hD hK rfl rfl)
theorem heap_pushT (w : World) (o : Obj) : (w.alloc o).heap = w.heap.push o := rfl
theorem blocks3T (w : World) (o0 o1 o2 : Obj) {W : World} (hW : ((w.alloc o0).alloc o1).alloc o2 = W) :
    W.heap.size = w.heap.size + 3 ∧ W.heap[w.heap.size]? = some o0 ∧ W.heap[w.heap.size + 1]? = some o1 ∧ W.heap[w.heap.size + 1 + 1]? = some o2 ∧ Below w.heap.size w W := by
  subst hW
  have hp : ∀ (A : Array Obj) (o : Obj) (i : Nat), (A.push o)[i]? = if i = A.size then some o else A[i]? := fun A o i => by rw [Array.getElem?_push]
  refine ⟨by simp, ?_, ?_, ?_, ?_⟩
  iterate 3
    · simp only [heap_pushT, hp, Array.size_push]
      repeat (first | rw [if_pos trivial] | rw [if_neg (by omega)])
  · exact (((Below.refl _ w).alloc (Nat.le_refl _) _).alloc (by simp) _).alloc (by simp; omega) _
theorem topD_le : ∀ (L : List (Nat × Nd)) (m c : Nat), m ≤ c → (∀ p ∈ L, p.1 ≤ c) → topD m L ≤ c
  | [], m, c, h, _ => h
  | p :: L, m, c, h, hp => topD_le L (max m p.1) c (by have := hp p List.mem_cons_self; omega) (fun q hq => hp q (List.mem_cons_of_mem _ hq))
theorem pre_lv : (∀ x, ∀ d, ∀ p ∈ preN d x, p.1 + 1 ≤ d + tot x) ∧ ∀ l, ∀ d, ∀ p ∈ preL d l, p.1 + 1 ≤ d + tots l := by
  refine Nd.both (fun k t n p ih d q hq => ?_) (fun d q hq => by rw [preL] at hq; cases hq) (fun x l h1 h2 d q hq => ?_)
  · rw [preN] at hq
    rw [tot]
    rcases List.mem_cons.1 hq with rfl | hq
    · show d + 1 ≤ _; omega
    · have := ih _ q hq; omega
  · rw [preL] at hq
    rw [tots]
    rcases List.mem_append.1 hq with hq | hq
    · have := h1 _ q hq; omega
    · have := h2 _ q hq; omega
set_option maxHeartbeats 4000000 in
theorem isTooLarge_any (L : List Nd) (v : Value) (P : Nat → Prop) (w : World) (hv : VsAt w P v L) (ht : tots L ≤ 90000) :
    Calls Tryz.prog 57 #[v] w fun e w' => e = .returned (.bool (largeB L)) ∧ Below w.heap.size w w' := by
  have HV := Lib.hid hv
  obtain ⟨a, c, rfl, hvi⟩ := id hv
  clear hvi
  obtain ⟨r, hr⟩ : ∃ r, largeB L = r := ⟨_, rfl⟩
  rw [hr]
  have HR := Lib.hid hr
  have HT := Lib.hid ht
  clear hr hv ht
  refine (callsIn_wide (n := 9)).1 ?_
  refine callsIn_of_wp_marks Tryz.func57 rfl trivial ?_ rfl
  simp only [Tryz.ntmps57, List.size_toArray, List.length_cons, List.length_nil, Nat.reduceAdd, Nat.reduceSub, Array.replicate_succ, Array.replicate_zero, List.push_toArray, List.append_toArray, List.nil_append, List.cons_append]
  gi_wp2_with (gi_at_call 51; refine (callsIn_wide.2 (nodes_any _ _ _ _)).mono ?_; rintro e w' ⟨rfl, rfl⟩)
  obtain ⟨w3, hw3⟩ : ∃ X, (((w.alloc (.cells #[.int .i64 0] 3)).alloc (.cells #[.int .i64 0] 3)).alloc (.cells #[.slice a L.length c] lT (0, 0))) = X := ⟨_, rfl⟩
  rw [hw3]
  obtain ⟨s3, k0, k1, k2, kb⟩ := blocks3T w _ _ _ hw3
  clear hw3
  refine wpIn_range_ret rfl (by omega) (gf := 81) (lb := #[.pointer (some ⟨w.heap.size + 1 + 1, 0, none⟩)]) rfl trivial Tryz.call81
    (nodes_stops w P L _ HV.out HT.out w3.heap.size none (w.heap.size + 1 + 1) w3 kb k2) (fun h k => h.trans k) (fun W l o o' hl ho hc _ => KpN.put (r := none) (by omega) (fun R e => by cases e) W l o o' hl ho hc) (fun _ => rfl)
    (fun pre W => (Boxed W w.heap.size 3 (.int .i64 pre.length) ∧ Boxed W (w.heap.size + 1) 3 (.int .i64 (topD 0 (pre.map El.pr)))) ∧ Below w.heap.size w3 W)
    (fun _ _ => False)
    (OwnFrom.and (OwnFrom.and (Own.from (boxed_own _ _ _) _) (Own.from (boxed_own _ _ _) _)) (ownFrom_below (by omega) (by omega)))
    (fun _ _ _ _ h _ _ => h)
    (fun pre W h => GN.of (by omega) h.2.size) (fun pre W h => h.elim)
    ⟨⟨k0, k1⟩, Below.refl _ _⟩
    (fun p a' X => a' = { tmps := #[Value.slice a L.length c, undef, .bool false, .pointer (some ⟨w.heap.size, 0, none⟩), .pointer (some ⟨w.heap.size + 1, 0, none⟩), intV p.lv, Value.slice a L.length c, .func (.func 81) #[] #[.pointer (some ⟨w.heap.size + 1 + 1, 0, none⟩)], intV p.lv, .agg #[intV p.x.kd, sV p.x.tx, intV p.x.nm, .slice p.sa p.x.ps.length p.sc], undef, undef, undef, undef, undef, undef, undef, undef, undef, undef, undef], defers := [] })
    (fun p a' _ X Y row h hg hr => h)
    ?assign ?body ?done ?stop
  case assign =>
    intro l pre p X K hI hK
    gi_wp2
    exact hK _ _ (KeepsFrom.refl _ _) (KpN.refl _ _ _ _) hI rfl
  case body =>
    intro l pre p a' X hl hI hA hN
    obtain ⟨⟨b1, b2⟩, hB⟩ := hI
    subst hA
    obtain ⟨tD, htD⟩ : ∃ tD, topD 0 (pre.map El.pr) = tD := ⟨_, rfl⟩
    obtain ⟨n1, hn1⟩ : ∃ n1, pre.length + 1 = n1 := ⟨_, rfl⟩
    rw [htD] at b2
    have c1 := b1.cell
    have f1 := b1.frozen
    have c2 := b2.cell
    have f2 := b2.frozen
    have HI := Lib.hid (And.intro b1 (And.intro b2 hB))
    have w1 : IntKind.i64.wrap ((pre.length : Int) + 1) = (n1 : Int) := by
      rw [show (pre.length : Int) + 1 = (n1 : Int) by omega]; exact IntWalk.i64_in _ (by omega)
    have HW := Lib.hid (show ∀ m : Nat, m = max tD p.lv → topD 0 ((pre ++ [p]).map El.pr) = m from fun m hm => by
      rw [List.map_append, topD_append, htD, hm]; rfl)
    have HL := Lib.hid (show (pre ++ [p]).length = n1 by simp; omega)
    clear b1 b2 hB htD hn1
    gi_wp2
    all_goals
      obtain ⟨b1, b2, hB⟩ := HI.out
      refine ⟨((KeepsOthers.setCell _ _ _).trans (KeepsOthers.setCell _ _ _)).from _, (KpN.set (by omega) (by omega) (fun R e => by cases e) _).trans (KpN.set (by omega) (by omega) (fun R e => by cases e) _), ⟨?_, ?_⟩, (hB.setCell (p := ⟨_, 0, none⟩) (by simp) _).setCell (p := ⟨_, 0, none⟩) (by simp) _⟩
      · show Boxed _ _ _ (.int .i64 ((pre ++ [p]).length : Int))
        rw [HL.out]
        exact (b1.set _).other (by omega) _
      · show Boxed _ _ _ (.int .i64 ((topD 0 ((pre ++ [p]).map El.pr) : Nat) : Int))
        rw [HW.out _ rfl]
        first
          | (rw [show max tD p.lv = p.lv by omega]; exact (b2.other (by omega) _).set _)
          | (rw [show max tD p.lv = tD by omega]; exact (b2.other (by omega) _).set _)
  case done =>
    rintro D xs W hD hxs ⟨⟨b1, b2⟩, hB⟩ hK
    have hr := HR.out
    unfold largeB at hr
    rw [← hxs, List.length_map] at hr
    obtain ⟨n1, hn1⟩ : ∃ n1, xs.length = n1 := ⟨_, rfl⟩
    obtain ⟨tD, htD⟩ : ∃ tD, topD 0 (xs.map El.pr) = tD := ⟨_, rfl⟩
    rw [hn1] at hr b1
    rw [htD] at hr b2
    have c1 := b1.cell
    have c2 := b2.cell
    have HI := Lib.hid (And.intro b1 (And.intro b2 hB))
    have HKD := Lib.hid hK
    obtain ⟨t1, ht1⟩ : ∃ t, decide (4096 < n1) = t := ⟨_, rfl⟩
    obtain ⟨t2, ht2⟩ : ∃ t, decide (16 < tD) = t := ⟨_, rfl⟩
    rw [ht1, ht2] at hr
    have g1 : decide ((4096 : Int) < (n1 : Int)) = t1 := by rw [← ht1]; apply decide_eq_decide.2; omega
    have g2 : decide ((16 : Int) < (tD : Int)) = t2 := by rw [← ht2]; apply decide_eq_decide.2; omega
    subst hr
    clear b1 b2 hB hxs hK hn1 htD ht1 ht2 HR
    cases t1 <;> cases t2
    all_goals
      gi_wp2
      obtain ⟨b1, b2, hB⟩ := HI.out
      refine ⟨by simp, .inl ⟨_, _, rfl, run_takeDeferred HKD.out, ?_⟩⟩
      exact ⟨_, by simp [results, Tryz.f57, go_sem], rfl, fin_belowT (W0 := w3) (kb.trans hB) (by omega) hD HKD.out⟩
  case stop => exact fun _ _ _ _ _ h _ => h.elim
end Go.Proofs.YtmfcepfagbkceaaGreatDoor
