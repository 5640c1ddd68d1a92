/- Stage 10 (transcript): TrVals TrRefA TrRefB, put together by merge10.py. -/
import Derived.Test.YtmfcepfagbkceaaGreatDoorOb
import Derived.Test.YtmfcepfagbkceaaGreatDoorOc
import Derived.OwnWalk
namespace Go.Proofs.YtmfcepfagbkceaaGreatDoor
set_option linter.unusedSimpArgs false
set_option linter.unusedVariables false
open Go.RowKit Go.Deep
mutual
def VAt (W : World) (P : Nat → Prop) : Value → Nd → Prop
  | v, .mk k t n l => -9223372036854775808 ≤ n ∧ n ≤ 9223372036854775807 ∧ t.length ≤ 9223372036854775807 ∧ l.length ≤ 9223372036854775807 ∧
      ∃ a c, v = .agg #[intV k, sV t, intV n, .slice a l.length c] ∧ (0 < l.length → ∃ b off, a = some ⟨b, off, none⟩ ∧ P b ∧ b < W.heap.size ∧ ItsAt W P b off l)
def ItsAt (W : World) (P : Nat → Prop) (b : Nat) : Nat → List Nd → Prop
  | _, [] => True
  | off, x :: l => (∃ s, W.cell? ⟨b, off, none⟩ = some (intV x.kd) ∧ W.cell? ⟨b, off + 1, none⟩ = some (sV x.tx) ∧ W.cell? ⟨b, off + 2, none⟩ = some (intV x.nm) ∧ W.cell? ⟨b, off + 3, none⟩ = some s ∧
      VAt W P (.agg #[intV x.kd, sV x.tx, intV x.nm, s]) x) ∧ ItsAt W P b (off + 4) l
end
def VsAt (W : World) (P : Nat → Prop) (v : Value) (l : List Nd) : Prop :=
  ∃ a c, v = .slice a l.length c ∧ (0 < l.length → ∃ b off, a = some ⟨b, off, none⟩ ∧ P b ∧ b < W.heap.size ∧ ItsAt W P b off l)
theorem vat_mk {W : World} {P : Nat → Prop} {k n : Int} {t : Bs} {l : List Nd} {s : Value} (h1 : -9223372036854775808 ≤ n) (h2 : n ≤ 9223372036854775807) (h3 : t.length ≤ 9223372036854775807) (h4 : l.length ≤ 9223372036854775807) (h : VsAt W P s l) :
    VAt W P (.agg #[intV k, sV t, intV n, s]) (.mk k t n l) := by
  obtain ⟨a, c, rfl, h⟩ := h
  rw [VAt]
  exact ⟨h1, h2, h3, h4, a, c, rfl, h⟩
theorem vat_of {W : World} {P : Nat → Prop} {k n : Int} {t : Bs} {l : List Nd} {v : Value} (h : VAt W P v (.mk k t n l)) :
    -9223372036854775808 ≤ n ∧ n ≤ 9223372036854775807 ∧ t.length ≤ 9223372036854775807 ∧ l.length ≤ 9223372036854775807 ∧ ∃ a c, v = .agg #[intV k, sV t, intV n, .slice a l.length c] ∧ VsAt W P (.slice a l.length c) l := by
  rw [VAt] at h
  obtain ⟨h1, h2, h3, h4, a, c, rfl, h⟩ := h
  exact ⟨h1, h2, h3, h4, a, c, rfl, a, c, rfl, h⟩
theorem vat_keep {W W' : World} {P : Nat → Prop} (hk : ∀ b, P b → b < W.heap.size → W'.heap[b]? = W.heap[b]?) (hs : W.heap.size ≤ W'.heap.size) :
    (∀ x, ∀ v, VAt W P v x → VAt W' P v x) ∧ ∀ l, ∀ b off, P b → b < W.heap.size → ItsAt W P b off l → ItsAt W' P b off l := by
  have hc : ∀ b off, P b → b < W.heap.size → W'.cell? ⟨b, off, none⟩ = W.cell? ⟨b, off, none⟩ := fun b off hp hb => World.cell?_of_block (a := ⟨b, off, none⟩) (hk b hp hb)
  refine Nd.both (fun k t n l ih v h => ?_) (fun b off _ _ _ => by rw [ItsAt]; trivial) (fun x l ih1 ih2 b off hp hb h => ?_)
  · rw [VAt] at h ⊢
    obtain ⟨h1, h2, h3, h4, a, c, rfl, h⟩ := h
    refine ⟨h1, h2, h3, h4, a, c, rfl, fun h0 => ?_⟩
    obtain ⟨b, off, ha, hp, hb, hi⟩ := h h0
    exact ⟨b, off, ha, hp, Nat.lt_of_lt_of_le hb hs, ih b off hp hb hi⟩
  · rw [ItsAt] at h ⊢
    obtain ⟨⟨s, h0, h1, h2, h3, h4⟩, h5⟩ := h
    exact ⟨⟨s, (hc _ _ hp hb).trans h0, (hc _ _ hp hb).trans h1, (hc _ _ hp hb).trans h2, (hc _ _ hp hb).trans h3, ih1 _ h4⟩, ih2 _ _ hp hb h5⟩
theorem VAt.below {W W' : World} {P : Nat → Prop} {v : Value} {x : Nd} (h : VAt W P v x) (hB : Below W.heap.size W W') : VAt W' P v x :=
  (vat_keep (fun b _ hb => hB.block b hb) hB.size).1 x v h
theorem VAt.keep {W W' : World} {P : Nat → Prop} {v : Value} {x : Nd} (h : VAt W P v x) (hk : ∀ b, P b → b < W.heap.size → W'.heap[b]? = W.heap[b]?) (hs : W.heap.size ≤ W'.heap.size) : VAt W' P v x :=
  (vat_keep hk hs).1 x v h
theorem VsAt.keep {W W' : World} {P : Nat → Prop} {v : Value} {l : List Nd} (h : VsAt W P v l) (hk : ∀ b, P b → b < W.heap.size → W'.heap[b]? = W.heap[b]?) (hs : W.heap.size ≤ W'.heap.size) : VsAt W' P v l := by
  obtain ⟨a, c, rfl, h⟩ := h
  refine ⟨a, c, rfl, fun h0 => ?_⟩
  obtain ⟨b, off, ha, hp, hb, hi⟩ := h h0
  exact ⟨b, off, ha, hp, Nat.lt_of_lt_of_le hb hs, (vat_keep hk hs).2 l b off hp hb hi⟩
theorem VsAt.below {W W' : World} {P : Nat → Prop} {v : Value} {l : List Nd} (h : VsAt W P v l) (hB : Below W.heap.size W W') : VsAt W' P v l :=
  h.keep (fun b _ hb => hB.block b hb) hB.size
theorem vat_mono {W : World} {P P' : Nat → Prop} (hP : ∀ b, b < W.heap.size → P b → P' b) :
    (∀ x, ∀ v, VAt W P v x → VAt W P' v x) ∧ ∀ l, ∀ b off, ItsAt W P b off l → ItsAt W P' b off l := by
  refine Nd.both (fun k t n l ih v h => ?_) (fun b off _ => by rw [ItsAt]; trivial) (fun x l ih1 ih2 b off h => ?_)
  · rw [VAt] at h ⊢
    obtain ⟨h1, h2, h3, h4, a, c, rfl, h⟩ := h
    refine ⟨h1, h2, h3, h4, a, c, rfl, fun h0 => ?_⟩
    obtain ⟨b, off, ha, hp, hb, hi⟩ := h h0
    exact ⟨b, off, ha, hP b hb hp, hb, ih b off hi⟩
  · rw [ItsAt] at h ⊢
    obtain ⟨⟨s, h0, h1, h2, h3, h4⟩, h5⟩ := h
    exact ⟨⟨s, h0, h1, h2, h3, ih1 _ h4⟩, ih2 _ _ h5⟩
theorem VsAt.mono {W : World} {P P' : Nat → Prop} {v : Value} {l : List Nd} (hP : ∀ b, b < W.heap.size → P b → P' b) (h : VsAt W P v l) : VsAt W P' v l := by
  obtain ⟨a, c, rfl, h⟩ := h
  refine ⟨a, c, rfl, fun h0 => ?_⟩
  obtain ⟨b, off, ha, hp, hb, hi⟩ := h h0
  exact ⟨b, off, ha, hP b hb hp, hb, (vat_mono hP).2 l b off hi⟩
theorem VsAt.nil (W : World) (P : Nat → Prop) (a : Option Addr) (c : Nat) : VsAt W P (.slice a 0 c) [] := ⟨a, c, rfl, fun h => absurd h (by simp)⟩
theorem its_get {W : World} {P : Nat → Prop} {b : Nat} : ∀ {l : List Nd} {off : Nat}, ItsAt W P b off l → ∀ {j : Nat} (hj : j < l.length),
    ∃ s, W.cell? ⟨b, off + j * 4, none⟩ = some (intV l[j].kd) ∧ W.cell? ⟨b, off + j * 4 + 1, none⟩ = some (sV l[j].tx) ∧ W.cell? ⟨b, off + j * 4 + 2, none⟩ = some (intV l[j].nm) ∧ W.cell? ⟨b, off + j * 4 + 3, none⟩ = some s ∧
      VAt W P (.agg #[intV l[j].kd, sV l[j].tx, intV l[j].nm, s]) l[j]
  | [], _, _, j, hj => absurd hj (by simp)
  | x :: l, off, h, 0, _ => by
    rw [ItsAt] at h
    simpa using h.1
  | x :: l, off, h, j + 1, hj => by
    rw [ItsAt] at h
    have := its_get h.2 (j := j) (by simpa using hj)
    have e : off + 4 + j * 4 = off + (j + 1) * 4 := by omega
    rw [e] at this
    simpa using this
theorem its_mk {W : World} {P : Nat → Prop} {b : Nat} : ∀ {l : List Nd} {off : Nat}, (∀ j (hj : j < l.length), ∃ s, W.cell? ⟨b, off + j * 4, none⟩ = some (intV l[j].kd) ∧ W.cell? ⟨b, off + j * 4 + 1, none⟩ = some (sV l[j].tx) ∧ W.cell? ⟨b, off + j * 4 + 2, none⟩ = some (intV l[j].nm) ∧ W.cell? ⟨b, off + j * 4 + 3, none⟩ = some s ∧
      VAt W P (.agg #[intV l[j].kd, sV l[j].tx, intV l[j].nm, s]) l[j]) → ItsAt W P b off l
  | [], _, _ => by rw [ItsAt]; trivial
  | x :: l, off, h => by
    rw [ItsAt]
    refine ⟨(by have h' := h 0 (Nat.zero_lt_succ _); rw [Nat.zero_mul, Nat.add_zero] at h'; exact h'), its_mk fun j hj => ?_⟩
    have := h (j + 1) (by simpa using hj)
    have e : off + 4 + j * 4 = off + (j + 1) * 4 := by omega
    rw [e]
    simpa using this
theorem VsAt.elem {W : World} {P : Nat → Prop} {a : Option Addr} {n c : Nat} {l : List Nd} (h : VsAt W P (.slice a n c) l) {j : Nat} (hj : j < l.length) :
    ∃ b off s, a = some ⟨b, off, none⟩ ∧ P b ∧ b < W.heap.size ∧ W.cell? ⟨b, off + j * 4, none⟩ = some (intV l[j].kd) ∧ W.cell? ⟨b, off + j * 4 + 1, none⟩ = some (sV l[j].tx) ∧ W.cell? ⟨b, off + j * 4 + 2, none⟩ = some (intV l[j].nm) ∧ W.cell? ⟨b, off + j * 4 + 3, none⟩ = some s ∧
      VAt W P (.agg #[intV l[j].kd, sV l[j].tx, intV l[j].nm, s]) l[j] := by
  obtain ⟨a', c', e, h⟩ := h
  cases e
  obtain ⟨b, off, rfl, hp, hb, hi⟩ := h (by omega)
  obtain ⟨s, h0, h1, h2, h3, h4⟩ := its_get hi hj
  exact ⟨b, off, s, rfl, hp, hb, h0, h1, h2, h3, h4⟩
theorem vat_slice {W : World} {P : Nat → Prop} {x : Nd} {k n : Int} {t : Bs} {s : Value} (h : VAt W P (.agg #[intV k, sV t, intV n, s]) x) : ∃ a c, s = .slice a x.ps.length c := by
  obtain ⟨xk, xt, xn, xl⟩ := x
  obtain ⟨_, _, _, _, a, c, e, _⟩ := vat_of h
  refine ⟨a, c, ?_⟩
  show s = .slice a xl.length c
  have := congrArg (fun v => match v with | .agg cs => cs[3]? | _ => none) e
  simpa using this
theorem VsAt.elem' {W : World} {P : Nat → Prop} {a : Option Addr} {n c : Nat} {l : List Nd} (h : VsAt W P (.slice a n c) l) {j : Nat} (hj : j < l.length) :
    ∃ b off sa sc, a = some ⟨b, off, none⟩ ∧ P b ∧ b < W.heap.size ∧ W.cell? ⟨b, off + j * 4, none⟩ = some (intV l[j].kd) ∧ W.cell? ⟨b, off + j * 4 + 1, none⟩ = some (sV l[j].tx) ∧ W.cell? ⟨b, off + j * 4 + 2, none⟩ = some (intV l[j].nm) ∧ W.cell? ⟨b, off + j * 4 + 3, none⟩ = some (.slice sa l[j].ps.length sc) ∧
      VAt W P (.agg #[intV l[j].kd, sV l[j].tx, intV l[j].nm, .slice sa l[j].ps.length sc]) l[j] := by
  obtain ⟨b, off, s, ha, hp, hb, h0, h1, h2, h3, h4⟩ := h.elem hj
  obtain ⟨sa, sc, rfl⟩ := vat_slice h4
  exact ⟨b, off, sa, sc, ha, hp, hb, h0, h1, h2, h3, h4⟩
theorem VAt.agg {W : World} {P : Nat → Prop} {v : Value} {x : Nd} (h : VAt W P v x) : ∃ a c, v = .agg #[intV x.kd, sV x.tx, intV x.nm, .slice a x.ps.length c] ∧ VsAt W P (.slice a x.ps.length c) x.ps := by
  obtain ⟨xk, xt, xn, xl⟩ := x
  obtain ⟨_, _, _, _, a, c, e, h⟩ := vat_of h
  exact ⟨a, c, e, h⟩
end Go.Proofs.YtmfcepfagbkceaaGreatDoor
namespace Go.Proofs.YtmfcepfagbkceaaGreatDoor
set_option linter.unusedSimpArgs false
set_option linter.unusedVariables false
set_option maxRecDepth 100000
open Go.RowKit Go.Deep
theorem beq_dec (a b : Int) : (a == b) = decide (a = b) := by rw [Bool.eq_iff_iff]; simp
theorem parts_any (k : Int) (r : Bool) (hr : partsK k = r) (w : World) :
    Calls Tryz.prog 80 #[intV k] w fun e w' => e = .returned (.bool r) ∧ w' = w := by
  unfold partsK at hr
  obtain ⟨b1, h1⟩ : ∃ b, decide (7 ≤ k) = b := ⟨_, rfl⟩
  obtain ⟨b2, h2⟩ : ∃ b, decide (k ≤ 11) = b := ⟨_, rfl⟩
  rw [h1, h2] at hr
  subst hr
  cases b1 <;> cases b2
  all_goals
    go_enter Tryz.func80, Tryz.ntmps80
    go_wp2
    go_ret
    exact ⟨rfl, rfl⟩
theorem texts_any (k : Int) (r : Bool) (hr : textsK k = r) (w : World) :
    Calls Tryz.prog 78 #[intV k] w fun e w' => e = .returned (.bool r) ∧ w' = w := by
  unfold textsK at hr
  rw [← beq_dec, ← beq_dec, ← beq_dec, ← beq_dec, ← beq_dec] at hr
  obtain ⟨b1, h1⟩ : ∃ b, (k == 1) = b := ⟨_, rfl⟩
  obtain ⟨b2, h2⟩ : ∃ b, (k == 3) = b := ⟨_, rfl⟩
  obtain ⟨b3, h3⟩ : ∃ b, (k == 4) = b := ⟨_, rfl⟩
  obtain ⟨b4, h4⟩ : ∃ b, (k == 10) = b := ⟨_, rfl⟩
  obtain ⟨b5, h5⟩ : ∃ b, (k == 11) = b := ⟨_, rfl⟩
  rw [h1, h2, h3, h4, h5] at hr
  subst hr
  cases b1 <;> cases b2 <;> cases b3 <;> cases b4 <;> cases b5
  all_goals
    go_enter Tryz.func78, Tryz.ntmps78
    go_wp2
    go_ret
    exact ⟨rfl, rfl⟩
theorem numbers_any (k : Int) (r : Bool) (hr : numsK k = r) (w : World) :
    Calls Tryz.prog 79 #[intV k] w fun e w' => e = .returned (.bool r) ∧ w' = w := by
  unfold numsK at hr
  rw [← beq_dec, ← beq_dec, ← beq_dec] at hr
  obtain ⟨b1, h1⟩ : ∃ b, (k == 6) = b := ⟨_, rfl⟩
  obtain ⟨b2, h2⟩ : ∃ b, (k == 8) = b := ⟨_, rfl⟩
  obtain ⟨b3, h3⟩ : ∃ b, (k == 9) = b := ⟨_, rfl⟩
  rw [h1, h2, h3] at hr
  subst hr
  cases b1 <;> cases b2 <;> cases b3
  all_goals
    go_enter Tryz.func79, Tryz.ntmps79
    go_wp2
    go_ret
    exact ⟨rfl, rfl⟩
def sizeR (l : List Nd) (d m : Nat) : Int × Int × Bool := if tots l ≤ m ∧ deps l ≤ d then ((tots l : Nat), (deps l : Nat), true) else (0, 0, false)
theorem tot_pos (x : Nd) : 1 ≤ tot x := by obtain ⟨k, t, n, p⟩ := x; rw [tot]; omega
theorem tot_ps (x : Nd) : tot x = 1 + tots x.ps := by obtain ⟨k, t, n, p⟩ := x; rw [tot]; rfl
theorem dep_ps (x : Nd) : dep x = if x.ps = [] then 0 else 1 + deps x.ps := by
  obtain ⟨k, t, n, p⟩ := x
  rw [dep]
  cases p <;> rfl
theorem tots_at {l : List Nd} {j : Nat} (h : j < l.length) : tots (l.take (j + 1)) = tots (l.take j) + tot l[j] ∧ deps (l.take (j + 1)) = max (deps (l.take j)) (dep l[j]) := by
  rw [List.take_succ_eq_append_getElem h, tots_append, deps_append]
  simp [tots, deps]
theorem tots_le {l : List Nd} (j : Nat) : tots (l.take j) ≤ tots l ∧ deps (l.take j) ≤ deps l := by
  have h1 := tots_append (l.take j) (l.drop j)
  have h2 := deps_append (l.take j) (l.drop j)
  rw [List.take_append_drop] at h1 h2
  omega
theorem len_tots : ∀ l : List Nd, l.length ≤ tots l
  | [] => Nat.le_refl _
  | x :: l => by rw [tots, List.length_cons]; have := tot_pos x; have := len_tots l; omega
set_option maxHeartbeats 2000000 in
theorem size_any : ∀ (N : Nat) (l : List Nd), tots l ≤ N → ∀ (d m : Nat) (r : Int × Int × Bool), sizeR l d m = r → d ≤ 1000 → m ≤ 100000 → ∀ (v : Value) (P : Nat → Prop) (w : World), VsAt w P v l →
    Calls Tryz.prog 44 #[v, intV d, intV m] w fun e w' => e = .returned (.tuple #[intV r.1, intV r.2.1, .bool r.2.2]) ∧ Below w.heap.size w w' := by
  intro N
  induction N using Nat.strongRecOn with
  | _ N ih =>
    intro l hN d m r hr hd hm v P w hv
    have HV := Lib.hid hv
    obtain ⟨a, c, rfl, _⟩ := hv
    have IH := Lib.hid ih
    have HR := Lib.hid hr
    clear ih hr
    go_enter Tryz.func44, Tryz.ntmps44
    go_wp2
    go_loopw [9, 10, 11] (fun nv dv iv wr => ∃ j tn td : Nat, j ≤ l.length ∧ iv = .int .i64 j ∧ nv = .int .i64 tn ∧ dv = .int .i64 td ∧ Hid (tots (l.take j) = tn ∧ deps (l.take j) = td) ∧ tn ≤ m ∧ td ≤ d ∧ j ≤ tn ∧ Below w.heap.size w wr) (fun _ _ iv _ => l.length - (intOf iv).toNat)
    case atStart => exact ⟨0, 0, 0, Nat.zero_le _, rfl, rfl, rfl, Lib.hid ⟨by simp [tots], by simp [deps]⟩, Nat.zero_le _, Nat.zero_le _, Nat.le_refl _, Below.refl _ _⟩
    case round =>
      obtain ⟨j, tn, td, hj, rfl, rfl, rfl, HT, hn, htd, hjn, hB⟩ := hrel
      obtain ⟨wk, rfl⟩ : ∃ x, x = wr := ⟨_, rfl⟩
      have HB := Lib.hid hB
      by_cases hlt : j < l.length
      · obtain ⟨b, off, sa, sc, rfl, hpb, hbb, c1, c2, c3, c4, hx⟩ := HV.out.elem' hlt
        have d4 := (hB.cell (p := ⟨b, off + j * 4 + 3, none⟩) hbb).trans c4
        obtain ⟨hs1, hs2⟩ := tots_at hlt
        rw [HT.out.1] at hs1
        rw [HT.out.2] at hs2
        obtain ⟨hl1, hl2⟩ := tots_le (l := l) (j + 1)
        have hxt := tot_ps l[j]
        have hxd := dep_ps l[j]
        have hvs : VsAt wk P (.slice sa l[j].ps.length sc) l[j].ps := by
          obtain ⟨a', c', e', h'⟩ := hx.agg
          have : (.slice sa l[j].ps.length sc : Value) = .slice a' l[j].ps.length c' := by
            have := congrArg (fun v => match v with | .agg cs => cs[3]? | _ => none) e'
            simpa using this
          rw [this]
          exact h'.below hB
        have i0 : (0 : Int) ≤ (j : Int) := by omega
        have i1 : (j : Int) < (l.length : Int) := by omega
        obtain ⟨n1, hn1⟩ : ∃ n1, tn + 1 = n1 := ⟨_, rfl⟩
        have w1 : IntKind.i64.wrap ((tn : Int) + 1) = (n1 : Int) := by rw [show (tn : Int) + 1 = (n1 : Int) by omega]; exact IntWalk.i64_in _ (by omega)
        obtain ⟨x, hxe⟩ : ∃ x, l[j] = x := ⟨_, rfl⟩
        rw [hxe] at hs1 hs2 hxt hxd d4 hvs
        have hjl : tots (l.take (j + 1)) ≤ tots l := hl1
        have htx := tot_pos x
        by_cases hbig : m < n1
        · have q1 : decide ((m : Int) < (n1 : Int)) = true := decide_eq_true (by omega)
          have HZ := Lib.hid (show r = (0, 0, false) by rw [← HR.out]; unfold sizeR; rw [if_neg (by omega)])
          clear hl1 hl2 hs1 hs2 hxt hxd hvs c1 c2 c3 c4 hx hB
          clear hn1 hjl htx hxe
          go_wp2
          go_ret3
          exact ⟨by rw [HZ.out]; rfl, HB.out⟩
        · have q1 : decide ((m : Int) < (n1 : Int)) = false := decide_eq_false (by omega)
          by_cases hp : x.ps = []
          · have q2 : ((x.ps.length : Int) == 0) = true := by rw [hp]; rfl
            rw [hp, tots] at hxt
            rw [if_pos hp] at hxd
            rw [hxd] at hs2
            have HT2 := Lib.hid (show tots (l.take (j + 1)) = n1 ∧ deps (l.take (j + 1)) = td from ⟨by omega, by rw [hs2]; omega⟩)
            have hbn : n1 ≤ m := by omega
            have hjn1 : j + 1 ≤ n1 := by omega
            clear hl1 hl2 hs1 hs2 hxt hxd hvs c1 c2 c3 c4 hx hB hn1 hbig hp hjl htx hxe
            go_wp2
            go_roundw
            case rel => exact ⟨j + 1, n1, td, by omega, by go_num, rfl, rfl, HT2, hbn, htd, hjn1, HB.out⟩
            case measure => simp [intOf]; omega
          · have hpl : 0 < x.ps.length := List.length_pos_iff.2 hp
            have q2 : ((x.ps.length : Int) == 0) = false := by rw [beq_eq_false_iff_ne]; omega
            rw [if_neg hp] at hxd
            by_cases hd0 : d = 0
            · have q3 : ((d : Int) == 0) = true := by simp [hd0]
              have HZ := Lib.hid (show r = (0, 0, false) by rw [← HR.out]; unfold sizeR; rw [if_neg (by omega)])
              clear hl1 hl2 hs1 hs2 hxt hxd hvs c1 c2 c3 c4 hx hB
              clear hn1 hp hpl q3 hjl htx hxe
              subst hd0
              go_wp2
              go_ret3
              exact ⟨by rw [HZ.out]; rfl, HB.out⟩
            · have q3 : ((d : Int) == 0) = false := by rw [beq_eq_false_iff_ne]; omega
              have w2 : IntKind.i64.wrap ((d : Int) - 1) = ((d - 1 : Nat) : Int) := by rw [show (d : Int) - 1 = ((d - 1 : Nat) : Int) by omega]; exact IntWalk.i64_in _ (by omega)
              have w3 : IntKind.i64.wrap ((m : Int) - (n1 : Int)) = ((m - n1 : Nat) : Int) := by rw [show (m : Int) - (n1 : Int) = ((m - n1 : Nat) : Int) by omega]; exact IntWalk.i64_in _ (by omega)
              have hcall := IH.out (tots x.ps) (by omega) x.ps (Nat.le_refl _) (d - 1) (m - n1)
              by_cases hok : tots x.ps ≤ m - n1 ∧ deps x.ps ≤ d - 1
              · have HC := Lib.hid (hcall _ (show sizeR x.ps (d - 1) (m - n1) = (((tots x.ps : Nat) : Int), ((deps x.ps : Nat) : Int), true) by unfold sizeR; rw [if_pos hok]) (by omega) (by omega) _ P wk hvs)
                obtain ⟨n2, hn2⟩ : ∃ n2, n1 + tots x.ps = n2 := ⟨_, rfl⟩
                obtain ⟨dp, hdp⟩ : ∃ dp, deps x.ps + 1 = dp := ⟨_, rfl⟩
                obtain ⟨tp, htp⟩ : ∃ tp, tots x.ps = tp := ⟨_, rfl⟩
                obtain ⟨pp, hpp⟩ : ∃ pp, deps x.ps = pp := ⟨_, rfl⟩
                rw [htp, hpp] at HC hok
                rw [htp] at hn2 hxt
                rw [hpp] at hdp hxd
                have w4 : IntKind.i64.wrap ((n1 : Int) + (tp : Int)) = (n2 : Int) := by rw [show (n1 : Int) + (tp : Int) = (n2 : Int) by omega]; exact IntWalk.i64_in _ (by omega)
                have w5 : IntKind.i64.wrap ((pp : Int) + 1) = (dp : Int) := by rw [show (pp : Int) + 1 = (dp : Int) by omega]; exact IntWalk.i64_in _ (by omega)
                rw [hxd] at hs2
                have HT2 := Lib.hid (show tots (l.take (j + 1)) = n2 ∧ deps (l.take (j + 1)) = max td dp from ⟨by omega, by rw [hs2]; omega⟩)
                have hbn : n2 ≤ m := by omega
                have hbd : max td dp ≤ d := by omega
                have hjn1 : j + 1 ≤ n2 := by omega
                clear hl1 hl2 hs1 hs2 hxt hxd hvs c1 c2 c3 c4 hx hB hn1 hp hpl hd0 hok hn2 hdp htp hpp hcall hjl htx hxe
                go_wp2_with fail
                refine HC.out.mono ?_
                rintro e' w6 ⟨rfl, h6⟩
                have HB6 := Lib.hid (below_then HB.out h6)
                clear h6
                go_wp2
                go_roundw
                case rel => exact ⟨j + 1, n2, max td dp, by omega, by go_num, rfl, by first | rfl | (congr 1; omega), HT2, hbn, hbd, hjn1, HB6.out⟩
                case measure => simp [intOf]; omega
              · have HC := Lib.hid (hcall _ (show sizeR x.ps (d - 1) (m - n1) = (0, 0, false) by unfold sizeR; rw [if_neg hok]) (by omega) (by omega) _ P wk hvs)
                have HZ := Lib.hid (show r = (0, 0, false) by rw [← HR.out]; unfold sizeR; rw [if_neg (by omega)])
                clear hcall
                clear hl1 hl2 hs1 hs2 hxt hxd hvs c1 c2 c3 c4 hx hB
                clear hn1 hp hpl hd0 hok hjl htx hxe
                go_wp2_with fail
                refine HC.out.mono ?_
                rintro e' w6 ⟨rfl, h6⟩
                have HB6 := Lib.hid (below_then HB.out h6)
                clear h6
                go_wp2
                go_ret3
                exact ⟨by rw [HZ.out]; rfl, HB6.out⟩
      · have hjl : l.take j = l := List.take_of_length_le (by omega)
        have HZ := Lib.hid (show r = (((tn : Nat) : Int), ((td : Nat) : Int), true) by
          have h1 := HT.out
          rw [hjl] at h1
          rw [← HR.out]
          unfold sizeR
          rw [h1.1, h1.2, if_pos ⟨hn, htd⟩])
        clear hB hjl
        go_wp2
        go_ret3
        exact ⟨by rw [HZ.out]; rfl, HB.out⟩
end Go.Proofs.YtmfcepfagbkceaaGreatDoor
namespace Go.Proofs.YtmfcepfagbkceaaGreatDoor
set_option linter.unusedSimpArgs false
set_option linter.unusedVariables false
set_option maxRecDepth 100000
open Go.RowKit Go.Deep
theorem cnt_ps (c : Int) (x : Nd) : cntN c x = (if x.kd = c then 1 else 0) + cntL c x.ps := by obtain ⟨k, t, n, p⟩ := x; rw [cntN]; rfl
theorem chr_ps (x : Nd) : chrN x = (if x.kd = 1 then x.tx else []) ++ chrL x.ps := by obtain ⟨k, t, n, p⟩ := x; rw [chrN]; rfl
theorem cnt_at (c : Int) {l : List Nd} {j : Nat} (h : j < l.length) : cntL c (l.take (j + 1)) = cntL c (l.take j) + cntN c l[j] := by
  rw [List.take_succ_eq_append_getElem h, cnt_append]
  simp [cntL]
theorem chr_at {l : List Nd} {j : Nat} (h : j < l.length) : chrL (l.take (j + 1)) = chrL (l.take j) ++ chrN l[j] := by
  rw [List.take_succ_eq_append_getElem h, chr_append]
  simp [chrL]
theorem cnt_tot (c : Int) : (∀ x, cntN c x ≤ tot x) ∧ ∀ l, cntL c l ≤ tots l :=
  Nd.both (fun k t n p h => by rw [cntN, tot]; split <;> omega) (by rw [cntL, tots]; exact Nat.le_refl _) (fun x l h h' => by rw [cntL, tots]; omega)
theorem tots_mem {l : List Nd} {j : Nat} (h : j < l.length) : tot l[j] ≤ tots l ∧ (chrN l[j]).length ≤ (chrL l).length := by
  have h1 := (tots_at h).1
  have h2 := (tots_le (l := l) (j + 1)).1
  have h3 := chr_at h
  have h4 : chrL l = chrL (l.take (j + 1)) ++ chrL (l.drop (j + 1)) := by rw [← chr_append, List.take_append_drop]
  rw [h4, h3]
  simp only [List.length_append]
  omega
theorem parts_at {w wk : World} {P : Nat → Prop} {x : Nd} {c0 c1 c2 : Value} {sa : Option Addr} {sc : Nat} (hx : VAt w P (.agg #[c0, c1, c2, .slice sa x.ps.length sc]) x) (hB : Below w.heap.size w wk) : VsAt wk P (.slice sa x.ps.length sc) x.ps := by
  obtain ⟨a', c', e', h'⟩ := hx.agg
  have : (.slice sa x.ps.length sc : Value) = .slice a' x.ps.length c' := by
    have := congrArg (fun v => match v with | .agg cs => cs[3]? | _ => none) e'
    simpa using this
  rw [this]
  exact h'.below hB
set_option maxHeartbeats 2000000 in
theorem count_any (kd : Int) : ∀ (N : Nat) (l : List Nd), tots l ≤ N → tots l ≤ 100000 → ∀ (r : Nat), cntL kd l = r → ∀ (v : Value) (P : Nat → Prop) (w : World), VsAt w P v l →
    Calls Tryz.prog 56 #[v, intV kd] w fun e w' => e = .returned (intV r) ∧ Below w.heap.size w w' := by
  intro N
  induction N using Nat.strongRecOn with
  | _ N ih =>
    intro l hN hM r hr v P w hv
    have HV := Lib.hid hv
    obtain ⟨a, c, rfl, _⟩ := hv
    have IH := Lib.hid ih
    have HR := Lib.hid hr
    have hll := len_tots l
    clear ih hr
    go_enter Tryz.func56, Tryz.ntmps56
    go_wp2
    go_loopw [5, 6] (fun nv iv wr => ∃ j tn : Nat, j ≤ l.length ∧ iv = .int .i64 j ∧ nv = .int .i64 tn ∧ Hid (cntL kd (l.take j) = tn) ∧ Below w.heap.size w wr) (fun _ iv _ => l.length - (intOf iv).toNat)
    case atStart => exact ⟨0, 0, Nat.zero_le _, rfl, rfl, Lib.hid (by simp [cntL]), Below.refl _ _⟩
    case round =>
      obtain ⟨j, tn, hj, rfl, rfl, HT, hB⟩ := hrel
      obtain ⟨wk, rfl⟩ : ∃ x, x = wr := ⟨_, rfl⟩
      have HB := Lib.hid hB
      by_cases hlt : j < l.length
      · obtain ⟨b, off, sa, sc, rfl, hpb, hbb, c1, c2, c3, c4, hx⟩ := HV.out.elem' hlt
        have d1 := (hB.cell (p := ⟨b, off + j * 4, none⟩) hbb).trans c1
        have d4 := (hB.cell (p := ⟨b, off + j * 4 + 3, none⟩) hbb).trans c4
        have hvs := parts_at hx hB
        have hs1 := cnt_at kd hlt
        rw [HT.out, cnt_ps] at hs1
        have hmt := (tots_mem hlt).1
        have hxt := tot_ps l[j]
        have hbd := (cnt_tot kd).2 (l.take (j + 1))
        have hbl := (tots_le (l := l) (j + 1)).1
        have i0 : (0 : Int) ≤ (j : Int) := by omega
        have i1 : (j : Int) < (l.length : Int) := by omega
        obtain ⟨x, hxe⟩ : ∃ x, l[j] = x := ⟨_, rfl⟩
        rw [hxe] at d1 d4 hvs hs1 hmt hxt
        obtain ⟨tp, htp⟩ : ∃ tp, cntL kd x.ps = tp := ⟨_, rfl⟩
        have HC := Lib.hid (IH.out (tots x.ps) (by omega) x.ps (Nat.le_refl _) (by omega) tp htp _ P wk hvs)
        rw [htp] at hs1
        obtain ⟨xk, hxk⟩ : ∃ xk, x.kd = xk := ⟨_, rfl⟩
        rw [hxk] at d1 hs1
        by_cases hk : xk = kd
        · have q1 : (xk == kd) = true := by simp [hk]
          rw [if_pos hk] at hs1
          obtain ⟨n1, hn1⟩ : ∃ n1, tn + 1 = n1 := ⟨_, rfl⟩
          obtain ⟨n2, hn2⟩ : ∃ n2, n1 + tp = n2 := ⟨_, rfl⟩
          have w1 : IntKind.i64.wrap ((tn : Int) + 1) = (n1 : Int) := by rw [show (tn : Int) + 1 = (n1 : Int) by omega]; exact IntWalk.i64_in _ (by omega)
          have w2 : IntKind.i64.wrap ((n1 : Int) + (tp : Int)) = (n2 : Int) := by rw [show (n1 : Int) + (tp : Int) = (n2 : Int) by omega]; exact IntWalk.i64_in _ (by omega)
          have HT2 := Lib.hid (show cntL kd (l.take (j + 1)) = n2 by omega)
          clear hs1 hmt hxt hbd hbl hvs hx c1 c2 c3 c4 hB hk hn1 hn2 htp hxk hxe
          go_wp2_with fail
          refine HC.out.mono ?_
          rintro e' w6 ⟨rfl, h6⟩
          have HB6 := Lib.hid (below_then HB.out h6)
          clear h6
          go_wp2
          go_roundw
          case rel => exact ⟨j + 1, n2, by omega, by go_num, rfl, HT2, HB6.out⟩
          case measure => simp [intOf]; omega
        · have q1 : (xk == kd) = false := by simpa using hk
          rw [if_neg hk, Nat.zero_add] at hs1
          obtain ⟨n2, hn2⟩ : ∃ n2, tn + tp = n2 := ⟨_, rfl⟩
          have w2 : IntKind.i64.wrap ((tn : Int) + (tp : Int)) = (n2 : Int) := by rw [show (tn : Int) + (tp : Int) = (n2 : Int) by omega]; exact IntWalk.i64_in _ (by omega)
          have HT2 := Lib.hid (show cntL kd (l.take (j + 1)) = n2 by omega)
          clear hs1 hmt hxt hbd hbl hvs hx c1 c2 c3 c4 hB hk hn2 htp hxk hxe
          go_wp2_with fail
          refine HC.out.mono ?_
          rintro e' w6 ⟨rfl, h6⟩
          have HB6 := Lib.hid (below_then HB.out h6)
          clear h6
          go_wp2
          go_roundw
          case rel => exact ⟨j + 1, n2, by omega, by go_num, rfl, HT2, HB6.out⟩
          case measure => simp [intOf]; omega
      · have HZ := Lib.hid (show tn = r by rw [← HT.out, ← HR.out, List.take_of_length_le (by omega)])
        clear hB
        go_wp2
        go_ret
        exact ⟨by rw [HZ.out]; rfl, HB.out⟩
set_option maxHeartbeats 2000000 in
theorem characters_any : ∀ (N : Nat) (l : List Nd), tots l ≤ N → tots l ≤ 100000 → (chrL l).length ≤ 200000 → ∀ (r : Bs), chrL l = r → ∀ (v : Value) (P : Nat → Prop) (w : World), VsAt w P v l →
    Calls Tryz.prog 54 #[v] w fun e w' => e = .returned (sV r) ∧ Below w.heap.size w w' := by
  intro N
  induction N using Nat.strongRecOn with
  | _ N ih =>
    intro l hN hM hC r hr v P w hv
    have HV := Lib.hid hv
    obtain ⟨a, c, rfl, _⟩ := hv
    have IH := Lib.hid ih
    have HR := Lib.hid hr
    have hll := len_tots l
    clear ih hr
    go_enter Tryz.func54, Tryz.ntmps54
    go_wp2
    go_loopw [3, 4] (fun nv iv wr => ∃ (j : Nat) (s : Bs), j ≤ l.length ∧ iv = .int .i64 j ∧ nv = sV s ∧ Hid (chrL (l.take j) = s) ∧ Below w.heap.size w wr) (fun _ iv _ => l.length - (intOf iv).toNat)
    case atStart => exact ⟨0, [], Nat.zero_le _, rfl, rfl, Lib.hid (by simp [chrL]), Below.refl _ _⟩
    case round =>
      obtain ⟨j, s, hj, rfl, rfl, HT, hB⟩ := hrel
      obtain ⟨wk, rfl⟩ : ∃ x, x = wr := ⟨_, rfl⟩
      have HB := Lib.hid hB
      by_cases hlt : j < l.length
      · obtain ⟨b, off, sa, sc, rfl, hpb, hbb, c1, c2, c3, c4, hx⟩ := HV.out.elem' hlt
        have d1 := (hB.cell (p := ⟨b, off + j * 4, none⟩) hbb).trans c1
        have d2 := (hB.cell (p := ⟨b, off + j * 4 + 1, none⟩) hbb).trans c2
        have d4 := (hB.cell (p := ⟨b, off + j * 4 + 3, none⟩) hbb).trans c4
        have hvs := parts_at hx hB
        have hs1 := chr_at hlt
        rw [HT.out, chr_ps] at hs1
        obtain ⟨hmt, hml⟩ := tots_mem hlt
        rw [chr_ps, List.length_append] at hml
        have hxt := tot_ps l[j]
        have hbl : s.length ≤ (chrL l).length := by
          have h4 : chrL l = chrL (l.take j) ++ chrL (l.drop j) := by rw [← chr_append, List.take_append_drop]
          rw [h4, HT.out, List.length_append]; omega
        have i0 : (0 : Int) ≤ (j : Int) := by omega
        have i1 : (j : Int) < (l.length : Int) := by omega
        obtain ⟨x, hxe⟩ : ∃ x, l[j] = x := ⟨_, rfl⟩
        rw [hxe] at d1 d2 d4 hvs hs1 hmt hml hxt
        obtain ⟨sp, htp⟩ : ∃ sp, chrL x.ps = sp := ⟨_, rfl⟩
        have HC := Lib.hid (IH.out (tots x.ps) (by omega) x.ps (Nat.le_refl _) (by omega) (by omega) sp htp _ P wk hvs)
        rw [htp] at hs1 hml
        obtain ⟨xk, hxk⟩ : ∃ xk, x.kd = xk := ⟨_, rfl⟩
        obtain ⟨xt, hxt2⟩ : ∃ xt, x.tx = xt := ⟨_, rfl⟩
        rw [hxk] at d1 hs1 hml
        rw [hxt2] at d2 hs1 hml
        have z0 : (baL s).size ≤ 200000 := by rw [baL_size]; omega
        have z3 : (baL sp).size ≤ 200000 := by rw [baL_size]; omega
        by_cases hk : xk = 1
        · have q1 : (xk == 1) = true := by simp [hk]
          rw [if_pos hk] at hs1 hml
          have z1 : (baL xt).size ≤ 200000 := by rw [baL_size]; omega
          have y1 : baL s ++ baL xt = baL (s ++ xt) := baL_append _ _
          have y2 : baL (s ++ xt) ++ baL sp = baL (s ++ xt ++ sp) := baL_append _ _
          have z2 : (baL (s ++ xt)).size ≤ 400000 := by rw [baL_size, List.length_append]; omega
          have HT2 := Lib.hid (show chrL (l.take (j + 1)) = s ++ (xt ++ sp) by rw [hs1])
          clear hs1 hmt hml hxt hbl hvs hx c1 c2 c3 c4 hB hk htp hxk hxt2 hxe
          go_wp2_with fail
          refine HC.out.mono ?_
          rintro e' w6 ⟨rfl, h6⟩
          have HB6 := Lib.hid (below_then HB.out h6)
          clear h6
          go_wp2
          go_roundw
          case rel => exact ⟨j + 1, s ++ (xt ++ sp), by omega, by go_num, rfl, HT2, HB6.out⟩
          case measure => simp [intOf]; omega
        · have q1 : (xk == 1) = false := by simpa using hk
          rw [if_neg hk, List.nil_append] at hs1
          have y2 : baL s ++ baL sp = baL (s ++ sp) := baL_append _ _
          have HT2 := Lib.hid (show chrL (l.take (j + 1)) = s ++ sp by rw [hs1])
          clear hs1 hmt hml hxt hbl hvs hx c1 c2 c3 c4 hB hk htp hxk hxt2 hxe
          go_wp2_with fail
          refine HC.out.mono ?_
          rintro e' w6 ⟨rfl, h6⟩
          have HB6 := Lib.hid (below_then HB.out h6)
          clear h6
          go_wp2
          go_roundw
          case rel => exact ⟨j + 1, s ++ sp, by omega, by go_num, rfl, HT2, HB6.out⟩
          case measure => simp [intOf]; omega
      · have HZ := Lib.hid (show s = r by rw [← HT.out, ← HR.out, List.take_of_length_le (by omega)])
        clear hB
        go_wp2
        go_ret
        exact ⟨by rw [HZ.out]; rfl, HB.out⟩
end Go.Proofs.YtmfcepfagbkceaaGreatDoor
