/- The iterator values: walk passes a value and those in it to yield. -/
import Derived.RangeFuncNested
import Derived.RangeFuncBound
import Derived.RangeFuncCalls
import Derived.RangeFuncLeaves
import Derived.RangeFuncBox
import Derived.Shelf.Abstract
import Derived.Shelf.RegionOpen
import Derived.OwnWalkIn
import Derived.TacticsInMore
import Derived.LoopNIn
import Derived.LoopIn
import Derived.Maps.AppendAt
import Derived.Test.YtjcigjggfmfoeaaDoorCoMeas
import Derived.Test.YtjcigjggfmfoeaaDoorCoMake
namespace Go.Proofs.YtjcigjggfmfoeaaDoor
set_option linter.unusedSimpArgs false
set_option linter.unusedVariables false
set_option maxRecDepth 100000
open Go.RowKit Go.Shelf Go.Deep
theorem wide_fn (k : FuncId) : Fence.wide.fn k = True := rfl
attribute [local go_sem] Oper.semAt_some wide_fn

theorem wide_room (k : Nat) : Fence.wide.room k := fun d h => by cases h
theorem round_any {m m' : Nat} {P : Program} {l : Nat} {f : FuncId} {tmps : Array Value} {assign body : Code} {w : World} {R : Ending → World → Prop}
    (h : RoundIn Fence.wide m P l f tmps assign body w R) : RoundIn Fence.wide m' P l f tmps assign body w R := ⟨h.1, fun c cs _ => h.2 c cs (wide_room _)⟩
theorem yield_any {m : Nat} (m' : Nat) {P : Program} {l : Nat} {args : Array Value} {W : World} {R : Ending → World → Prop} (h : YieldAt Fence.wide m P l args W R) : YieldAt Fence.wide m' P l args W R := by
  obtain ⟨fn, tmps, assign, body, hy, hR⟩ := h
  exact ⟨fn, tmps, assign, body, hy, round_any hR⟩

/-- what lay below n₀, and all cells of values, lie as they lay -/
def KpV (n₀ : Nat) (A B : World) : Prop := Below n₀ A B ∧ ∀ (b : Nat) (c : Array Value), A.heap[b]? = some (Obj.cells c 24 (0, 0)) → B.heap[b]? = A.heap[b]?
theorem KpV.refl (n₀ : Nat) (A : World) : KpV n₀ A A := ⟨Below.refl _ _, fun _ _ _ => rfl⟩
theorem KpV.trans {n₀ : Nat} {A B C : World} (h : KpV n₀ A B) (k : KpV n₀ B C) : KpV n₀ A C :=
  ⟨h.1.trans k.1, fun b c hb => (k.2 b c ((h.2 b c hb).trans hb)).trans (h.2 b c hb)⟩
theorem heap_lt {w : World} {k : Nat} {o : Obj} (h : w.heap[k]? = some o) : k < w.heap.size := (Array.getElem?_eq_some_iff.1 h).1
theorem KpV.alloc {n₀ : Nat} {A : World} (h : n₀ ≤ A.heap.size) (o : Obj) : KpV n₀ A (A.alloc o) :=
  ⟨(Below.refl _ _).alloc h o, fun b c hb => Below.heap_alloc _ _ _ (heap_lt hb)⟩
theorem KpV.put {n₀ : Nat} (W : World) (l : Nat) (o o' : Obj) (h : n₀ ≤ l) (ho : W.heap[l]? = some o) (hc : o.isCells = false) : KpV n₀ W (W.putObj l o') :=
  ⟨(Below.refl _ _).grown (grownBy_putObj' W l o') (Nat.le_trans h (Nat.le_of_lt (heap_lt ho))) (fun k e => by cases e; exact h), fun b c hb => World.putObj_heap_other (fun e => by subst e; rw [hb] at ho; cases ho; cases hc)⟩

/-- a value with its level, and where it lies -/
structure El (w0 : World) (P : Nat → Prop) where
  lv : Nat
  x : Val
  sa : Option Addr
  sc : Nat
  ok : VAt w0 P (.agg #[intV x.kd, intV x.nm, .string x.tx, .slice sa x.its.length sc]) x
def El.pr {w0 : World} {P : Nat → Prop} (p : El w0 P) : Nat × Val := (p.lv, p.x)
abbrev encE {w0 : World} {P : Nat → Prop} (p : El w0 P) : Array Value := #[intV p.lv, .agg #[intV p.x.kd, intV p.x.nm, .string p.x.tx, .slice p.sa p.x.its.length p.sc]]
def WalkPost {w0 : World} {P : Nat → Prop} (n₀ : Nat) (J Jx : List (El w0 P) → World → Prop) (pre : List (El w0 P)) (L : List (Nat × Val)) (W : World) (e : Ending) (W' : World) : Prop :=
  (e = .returned (.bool true) ∧ ∃ ps : List (El w0 P), ps.map El.pr = L ∧ J (pre ++ ps) W' ∧ KpV n₀ W W') ∨ (e = .returned (.bool false) ∧ ∃ ps : List (El w0 P), ps.map El.pr <+: L ∧ Jx (pre ++ ps) W')

theorem cnts_le_take (l : List Val) (j : Nat) : cnts (l.take j) ≤ cnts l := by
  have := cnts_append (l.take j) (l.drop j)
  rw [List.take_append_drop] at this
  omega
theorem valss_len (lv : Nat) : ∀ l : List Val, (valss lv l).length = cnts l
  | [] => by rw [valss, cnts]; rfl
  | x :: l => by rw [valss, cnts, List.length_append, vals_len, valss_len lv l]
theorem valss_append (lv : Nat) : ∀ a b : List Val, valss lv (a ++ b) = valss lv a ++ valss lv b
  | [], b => by rw [valss]; rfl
  | x :: a, b => by rw [List.cons_append, valss, valss, valss_append lv a b, List.append_assoc]
theorem valss_take (lv : Nat) {l : List Val} {j : Nat} (h : j < l.length) : valss lv (l.take (j + 1)) = valss lv (l.take j) ++ vals lv l[j] := by
  rw [take_succ_of h, valss_append, valss, valss, List.append_nil]
theorem valss_pre (lv : Nat) (l : List Val) (j : Nat) : valss lv (l.take j) <+: valss lv l := by
  have := valss_append lv (l.take j) (l.drop j)
  rw [List.take_append_drop] at this
  exact ⟨_, this.symm⟩
set_option maxHeartbeats 2000000 in
theorem walk_in (l : Nat) (T : List (Nat × Val)) (w0 : World) (P : Nat → Prop) (n₀ : Nat) (hn₀ : n₀ = w0.heap.size) (J Jx : List (El w0 P) → World → Prop) (hJ : ∀ s W o, J s W → J s (W.alloc o))
    (hY : ∀ m pre p W, J pre W → (pre ++ [p]).map El.pr <+: T → YieldAt Fence.wide m Tryd.prog l (encE p) W fun e W' =>
      (e = .returned (.bool true) ∧ J (pre ++ [p]) W' ∧ KpV n₀ W W') ∨ (e = .returned (.bool false) ∧ Jx (pre ++ [p]) W')) (x : Val) :
    ∀ (n lv : Nat) (v : Value) (pre : List (El w0 P)) (W : World), VAt w0 P v x → KpV n₀ w0 W → J pre W → pre.map El.pr ++ vals lv x <+: T → lv + tot x ≤ 100000 →
      CallsIn Fence.wide n Tryd.prog 51 #[intV lv, v, .func (.yield l) #[] #[]] W (WalkPost n₀ J Jx pre (vals lv x) W) := by
  refine Val.ind (P := fun x => ∀ (n lv : Nat) (v : Value) (pre : List (El w0 P)) (W : World), VAt w0 P v x → KpV n₀ w0 W → J pre W → pre.map El.pr ++ vals lv x <+: T → lv + tot x ≤ 100000 →
      CallsIn Fence.wide n Tryd.prog 51 #[intV lv, v, .func (.yield l) #[] #[]] W (WalkPost n₀ J Jx pre (vals lv x) W)) ?_ x
  intro k nn t its ih n lv v pre W hv hK hj hN hT
  obtain ⟨h1, h2, h3, h4, a, c, rfl, hs⟩ := vat_of hv
  have hcp := cnt_pos (.mk k nn t its)
  have hsz : n₀ ≤ W.heap.size := by rw [hn₀]; exact hK.1.size
  have HE := Lib.hid (show ∃ p : El w0 P, p.lv = lv ∧ p.x = .mk k nn t its ∧ p.sa = a ∧ p.sc = c from ⟨⟨lv, .mk k nn t its, a, c, hv⟩, rfl, rfl, rfl, rfl⟩)
  obtain ⟨p, hp1, hp2, hp3, hp4⟩ := HE.out
  obtain ⟨fn, tmps, assign, body, hy, hR⟩ := hY (n - 1) pre p (W.alloc (.cells #[intV k, intV nn, .string t, .slice a its.length c] 24)) (hJ _ _ _ hj) (by rw [List.map_append, List.map_cons, List.map_nil, El.pr, hp1, hp2]; rw [vals] at hN; exact List.IsPrefix.trans ⟨_, by rw [List.append_assoc]; rfl⟩ hN)
  simp only [encE, hp1, hp2, hp3, hp4, Val.kd, Val.nm, Val.tx, Val.its] at hy
  have HP := Lib.hid (show p.pr = (lv, .mk k nn t its) by rw [El.pr, hp1, hp2])
  have HK := Lib.hid hK
  have IH := Lib.hid ih
  have HS := Lib.hid hs
  have HN0 := Lib.hid hn₀
  have hdd : ∀ k : Nat, (Fence.wide.depth.isSome = true → 1 ≤ k) := fun k h => by cases h
  clear hp1 hp2 hp3 hp4 HE ih hv hK hs hj hn₀
  refine callsIn_of_wp Tryd.func51 rfl trivial ?_ rfl
  simp only [Tryd.ntmps51, List.size_toArray, List.length_cons, List.length_nil, Nat.reduceAdd, Nat.reduceSub, Array.replicate_succ, Array.replicate_zero, List.push_toArray, List.append_toArray, List.nil_append, List.cons_append]
  gi_wp2
  refine ⟨hdd _, hR.mono ?_⟩
  rintro e W2 (⟨rfl, hJ2, hk2⟩ | ⟨rfl, hJx2⟩)
  · obtain ⟨hc1, hb1⟩ : W2.heap[W.heap.size]? = some (.cells #[intV k, intV nn, .string t, .slice a its.length c] 24 (0, 0)) ∧ KpV n₀ W W2 := ⟨(hk2.2 _ _ (World.alloc_heap_new _ _)).trans (World.alloc_heap_new _ _), (KpV.alloc hsz _).trans hk2⟩
    obtain ⟨q0, q1, q2, q3⟩ := heap4 hc1
    have HC1 := Lib.hid hc1
    have HB1 := Lib.hid hb1
    have HJ2 := Lib.hid hJ2
    clear hk2 hc1 hb1 hJ2
    by_cases hk : k = 3
    · subst hk
      have hkb : ((3 : Int) != 3) = false := rfl
      gi_wp2
      clear q0 q1 q2 q3
      gi_loopw [20] (fun i wr => ∃ (j : Nat) (ps : List (El w0 P)), j ≤ its.length ∧ i = .int .i64 j ∧ ps.map El.pr = (lv, .mk 3 nn t its) :: valss (lv + 1) (its.take j) ∧ J (pre ++ ps) wr ∧ KpV n₀ W wr) (fun i _ => its.length - (intOf i).toNat)
      case atStart => exact ⟨0, [p], Nat.zero_le _, rfl, by rw [List.map_cons, List.map_nil, HP.out]; simp [valss], HJ2.out, HB1.out⟩
      case round =>
        obtain ⟨j, ps, hj, rfl, hps, hJk, hK⟩ := hrel
        obtain ⟨wk, rfl⟩ : ∃ x, x = wr := ⟨_, rfl⟩
        have HPS := Lib.hid hps
        have HJK := Lib.hid hJk
        have HKK := Lib.hid hK
        clear hps hJk hK
        by_cases hlt : j < its.length
        · obtain ⟨b, off, sa, sc, rfl, _, hb, e0', e1', e2', e3', hx⟩ := HS.out.elem' hlt
          have hB0 : Below w0.heap.size w0 wk := by rw [← HN0.out]; exact (HK.out.trans HKK.out).1
          have e0 := (hB0.cell (p := ⟨b, off + j * 4, none⟩) hb).trans e0'
          have e1 := (hB0.cell (p := ⟨b, off + j * 4 + 1, none⟩) hb).trans e1'
          have e2 := (hB0.cell (p := ⟨b, off + j * 4 + 2, none⟩) hb).trans e2'
          have e3 := (hB0.cell (p := ⟨b, off + j * 4 + 3, none⟩) hb).trans e3'
          have hszk : n₀ ≤ wk.heap.size := Nat.le_trans hsz HKK.out.1.size
          have hct := cnts_take hlt
          have hcl : cnts (its.take (j + 1)) ≤ cnts its := cnts_le_take its (j + 1)
          have htm := tot_mem (List.getElem_mem hlt)
          rw [tot] at hT
          have hpn : (pre ++ ps).map El.pr ++ vals (lv + 1) its[j] <+: T := by
            refine List.IsPrefix.trans ?_ hN
            obtain ⟨r2, hr2⟩ := valss_pre (lv + 1) its (j + 1)
            refine ⟨r2, ?_⟩
            rw [List.map_append, HPS.out, vals, if_pos rfl, ← hr2, valss_take (lv + 1) hlt]
            simp
          have hrec := IH.out its[j] (List.getElem_mem hlt) (n - 1) (lv + 1) _ (pre ++ ps) (wk.alloc (.cells #[intV its[j].kd, intV its[j].nm, .string its[j].tx, .slice sa its[j].its.length sc] 24)) hx (HK.out.trans (HKK.out.trans (KpV.alloc hszk _))) (hJ _ _ _ HJK.out) hpn (by omega)
          have hlv : ((lv + 1 : Nat) : Int) = (lv : Int) + 1 := by omega
          rw [hlv] at hrec
          have HREC := Lib.hid hrec
          have HVT := Lib.hid (valss_take (lv + 1) hlt)
          have HA := Lib.hid (KpV.alloc hszk (Obj.cells #[intV its[j].kd, intV its[j].nm, .string its[j].tx, .slice sa its[j].its.length sc] 24))
          have HL := Lib.hid hlt
          clear hrec hx e0' e1' e2' e3' hB0 HS hct hlv hpn
          gi_wp2_with fail
          refine ⟨hdd _, HREC.out.mono ?_⟩
          clear HREC
          rintro e w3 (⟨rfl, qs, hqs, hJ3, hK3⟩ | ⟨rfl, qs, hqs, hJx3⟩)
          · have HJ3 := Lib.hid hJ3
            have HK3 := Lib.hid hK3
            have HQ := Lib.hid hqs
            clear hJ3 hK3 hqs e0 e1 e2 e3
            gi_wp2
            refine ⟨⟨j + 1, ps ++ qs, by omega, by go_num, ?_, by rw [← List.append_assoc]; exact HJ3.out, HKK.out.trans (HA.out.trans HK3.out)⟩, ?_⟩
            · rw [List.map_append, HPS.out, HQ.out, HVT.out]; rfl
            · simp [intOf]; omega
          · have HQ := Lib.hid hqs
            have HJX := Lib.hid hJx3
            clear hqs hJx3 e0 e1 e2 e3
            gi_wp2
            go_ret
            refine .inr ⟨rfl, ps ++ qs, ?_, by rw [← List.append_assoc]; exact HJX.out⟩
            obtain ⟨r1, hr1⟩ := HQ.out
            obtain ⟨r2, hr2⟩ := valss_pre (lv + 1) its (j + 1)
            refine ⟨r1 ++ r2, ?_⟩
            rw [List.map_append, HPS.out, vals, if_pos rfl, ← hr2, HVT.out, ← hr1]
            simp
        · obtain rfl : j = its.length := by omega
          gi_wp2
          go_ret
          refine .inl ⟨rfl, ps, ?_, HJK.out, HKK.out⟩
          rw [HPS.out, vals, if_pos rfl, List.take_length]
    · have hkb : (k != 3) = true := by simpa using hk
      gi_wp2
      go_ret
      refine .inl ⟨rfl, [p], ?_, HJ2.out, HB1.out⟩
      rw [List.map_cons, List.map_nil, HP.out, vals, if_neg hk]
  · gi_wp2
    go_ret
    refine .inr ⟨rfl, [p], ?_, hJx2⟩
    rw [List.map_cons, List.map_nil, HP.out, vals]
    exact ⟨_, rfl⟩
end Go.Proofs.YtjcigjggfmfoeaaDoor
