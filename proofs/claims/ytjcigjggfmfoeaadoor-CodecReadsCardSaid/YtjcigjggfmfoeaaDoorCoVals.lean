/- Values and lists of values as a world holds them. -/
import Derived.Test.YtjcigjggfmfoeaaDoorCoDec
import Derived.Test.YtjcigjggfmfoeaaDoorProg
import Derived.WalkKit
import Derived.WalkSpells
import Derived.WalkLawsBesides
import Derived.Lib.Hide
import Derived.IntWalk
import Derived.Deep.QuietTactic
import Derived.BigQuiet
import Derived.Deep.Slices
import Derived.Below
namespace Go.Proofs.YtjcigjggfmfoeaaDoor
set_option linter.unusedSimpArgs false
set_option linter.unusedVariables false
open Go.RowKit Go.Deep

abbrev intV (x : Int) : Value := .int .i64 x
theorem ret_int {k : IntKind} {a b : Int} (h : a = b) : Ending.returned (.int k a) = .returned (.int k b) := by rw [h]
theorem ret_bool {a b : Bool} (h : a = b) : Ending.returned (.bool a) = .returned (.bool b) := by rw [h]
theorem below_seq {N M : Nat} {w w1 w2 : World} (h1 : Below N w w1) (h2 : Below M w1 w2) (h : N ≤ M) : Below N w w2 := h1.trans (h2.mono h)
theorem below_then {w w1 w2 : World} (h1 : Below w.heap.size w w1) (h2 : Below w1.heap.size w1 w2) : Below w.heap.size w w2 := h1.trans (h2.mono h1.size)
theorem below_drewN (w : World) (n : Nat) : Below w.heap.size w (w.drewN n) := ⟨rfl, rfl, rfl, Nat.le_refl _, fun _ _ => rfl⟩
theorem below_drewN_n (N : Nat) (w : World) (m : Nat) : Below N w (w.drewN m) := ⟨rfl, rfl, rfl, Nat.le_refl _, fun _ _ => rfl⟩
theorem below_w {w w1 : World} (h : w = w1) : Below w.heap.size w w1 := by rw [← h]; exact Below.refl _ _

/-- all old cells and all old marks read as before -/
theorem bcell {W w1 : World} (hb : Below W.heap.size W w1) : (∀ b o, b < W.heap.size → w1.cell? ⟨b, o, none⟩ = W.cell? ⟨b, o, none⟩) ∧ (∀ b o, b < W.heap.size → w1.frozen? ⟨b, o, none⟩ = W.frozen? ⟨b, o, none⟩) :=
  ⟨fun b o h => hb.cell (p := ⟨b, o, none⟩) h, fun b o h => hb.frozen (p := ⟨b, o, none⟩) h⟩

mutual
def VAt (W : World) (P : Nat → Prop) : Value → Val → Prop
  | v, .mk k n t l => -9223372036854775808 ≤ n ∧ n ≤ 9223372036854775807 ∧ t.size ≤ 9223372036854775807 ∧ l.length ≤ 9223372036854775807 ∧
      ∃ a c, v = .agg #[intV k, intV n, .string t, .slice a l.length c] ∧ (0 < l.length → ∃ b off, a = some ⟨b, off, none⟩ ∧ P b ∧ b < W.heap.size ∧ ItsAt W P b off l)
def ItsAt (W : World) (P : Nat → Prop) (b : Nat) : Nat → List Val → Prop
  | _, [] => True
  | off, x :: l => (∃ s, W.cell? ⟨b, off, none⟩ = some (intV x.kd) ∧ W.cell? ⟨b, off + 1, none⟩ = some (intV x.nm) ∧ W.cell? ⟨b, off + 2, none⟩ = some (.string x.tx) ∧ W.cell? ⟨b, off + 3, none⟩ = some s ∧
      VAt W P (.agg #[intV x.kd, intV x.nm, .string x.tx, s]) x) ∧ ItsAt W P b (off + 4) l
end
/-- a slice of values -/
def VsAt (W : World) (P : Nat → Prop) (v : Value) (l : List Val) : Prop :=
  ∃ a c, v = .slice a l.length c ∧ (0 < l.length → ∃ b off, a = some ⟨b, off, none⟩ ∧ P b ∧ b < W.heap.size ∧ ItsAt W P b off l)
theorem vat_mk {W : World} {P : Nat → Prop} {k n : Int} {t : ByteArray} {l : List Val} {s : Value} (h1 : -9223372036854775808 ≤ n) (h2 : n ≤ 9223372036854775807) (h3 : t.size ≤ 9223372036854775807) (h4 : l.length ≤ 9223372036854775807) (h : VsAt W P s l) :
    VAt W P (.agg #[intV k, intV n, .string t, s]) (.mk k n t l) := by
  obtain ⟨a, c, rfl, h⟩ := h
  rw [VAt]
  exact ⟨h1, h2, h3, h4, a, c, rfl, h⟩
theorem vat_of {W : World} {P : Nat → Prop} {k n : Int} {t : ByteArray} {l : List Val} {v : Value} (h : VAt W P v (.mk k n t l)) :
    -9223372036854775808 ≤ n ∧ n ≤ 9223372036854775807 ∧ t.size ≤ 9223372036854775807 ∧ l.length ≤ 9223372036854775807 ∧ ∃ a c, v = .agg #[intV k, intV n, .string t, .slice a l.length c] ∧ VsAt W P (.slice a l.length c) l := by
  rw [VAt] at h
  obtain ⟨h1, h2, h3, h4, a, c, rfl, h⟩ := h
  exact ⟨h1, h2, h3, h4, a, c, rfl, a, c, rfl, h⟩
theorem vat_keep {W W' : World} {P : Nat → Prop} (hk : ∀ b, P b → b < W.heap.size → W'.heap[b]? = W.heap[b]?) (hs : W.heap.size ≤ W'.heap.size) :
    (∀ x, ∀ v, VAt W P v x → VAt W' P v x) ∧ ∀ l, ∀ b off, P b → b < W.heap.size → ItsAt W P b off l → ItsAt W' P b off l := by
  have hc : ∀ b off, P b → b < W.heap.size → W'.cell? ⟨b, off, none⟩ = W.cell? ⟨b, off, none⟩ := fun b off hp hb => World.cell?_of_block (a := ⟨b, off, none⟩) (hk b hp hb)
  refine Val.both (fun k n t l ih v h => ?_) (fun b off _ _ _ => by rw [ItsAt]; trivial) (fun x l ih1 ih2 b off hp hb h => ?_)
  · rw [VAt] at h ⊢
    obtain ⟨h1, h2, h3, h4, a, c, rfl, h⟩ := h
    refine ⟨h1, h2, h3, h4, a, c, rfl, fun h0 => ?_⟩
    obtain ⟨b, off, ha, hp, hb, hi⟩ := h h0
    exact ⟨b, off, ha, hp, Nat.lt_of_lt_of_le hb hs, ih b off hp hb hi⟩
  · rw [ItsAt] at h ⊢
    obtain ⟨⟨s, h0, h1, h2, h3, h4⟩, h5⟩ := h
    exact ⟨⟨s, (hc _ _ hp hb).trans h0, (hc _ _ hp hb).trans h1, (hc _ _ hp hb).trans h2, (hc _ _ hp hb).trans h3, ih1 _ h4⟩, ih2 _ _ hp hb h5⟩
theorem VAt.below {W W' : World} {P : Nat → Prop} {v : Value} {x : Val} (h : VAt W P v x) (hB : Below W.heap.size W W') : VAt W' P v x :=
  (vat_keep (fun b _ hb => hB.block b hb) hB.size).1 x v h
theorem VAt.keep {W W' : World} {P : Nat → Prop} {v : Value} {x : Val} (h : VAt W P v x) (hk : ∀ b, P b → b < W.heap.size → W'.heap[b]? = W.heap[b]?) (hs : W.heap.size ≤ W'.heap.size) : VAt W' P v x :=
  (vat_keep hk hs).1 x v h
theorem VsAt.keep {W W' : World} {P : Nat → Prop} {v : Value} {l : List Val} (h : VsAt W P v l) (hk : ∀ b, P b → b < W.heap.size → W'.heap[b]? = W.heap[b]?) (hs : W.heap.size ≤ W'.heap.size) : VsAt W' P v l := by
  obtain ⟨a, c, rfl, h⟩ := h
  refine ⟨a, c, rfl, fun h0 => ?_⟩
  obtain ⟨b, off, ha, hp, hb, hi⟩ := h h0
  exact ⟨b, off, ha, hp, Nat.lt_of_lt_of_le hb hs, (vat_keep hk hs).2 l b off hp hb hi⟩
theorem VsAt.below {W W' : World} {P : Nat → Prop} {v : Value} {l : List Val} (h : VsAt W P v l) (hB : Below W.heap.size W W') : VsAt W' P v l :=
  h.keep (fun b _ hb => hB.block b hb) hB.size
theorem vat_mono {W : World} {P P' : Nat → Prop} (hP : ∀ b, b < W.heap.size → P b → P' b) :
    (∀ x, ∀ v, VAt W P v x → VAt W P' v x) ∧ ∀ l, ∀ b off, ItsAt W P b off l → ItsAt W P' b off l := by
  refine Val.both (fun k n t l ih v h => ?_) (fun b off _ => by rw [ItsAt]; trivial) (fun x l ih1 ih2 b off h => ?_)
  · rw [VAt] at h ⊢
    obtain ⟨h1, h2, h3, h4, a, c, rfl, h⟩ := h
    refine ⟨h1, h2, h3, h4, a, c, rfl, fun h0 => ?_⟩
    obtain ⟨b, off, ha, hp, hb, hi⟩ := h h0
    exact ⟨b, off, ha, hP b hb hp, hb, ih b off hi⟩
  · rw [ItsAt] at h ⊢
    obtain ⟨⟨s, h0, h1, h2, h3, h4⟩, h5⟩ := h
    exact ⟨⟨s, h0, h1, h2, h3, ih1 _ h4⟩, ih2 _ _ h5⟩
theorem VsAt.mono {W : World} {P P' : Nat → Prop} {v : Value} {l : List Val} (hP : ∀ b, b < W.heap.size → P b → P' b) (h : VsAt W P v l) : VsAt W P' v l := by
  obtain ⟨a, c, rfl, h⟩ := h
  refine ⟨a, c, rfl, fun h0 => ?_⟩
  obtain ⟨b, off, ha, hp, hb, hi⟩ := h h0
  exact ⟨b, off, ha, hP b hb hp, hb, (vat_mono hP).2 l b off hi⟩
theorem VsAt.nil (W : World) (P : Nat → Prop) (a : Option Addr) (c : Nat) : VsAt W P (.slice a 0 c) [] := ⟨a, c, rfl, fun h => absurd h (by simp)⟩
theorem its_get {W : World} {P : Nat → Prop} {b : Nat} : ∀ {l : List Val} {off : Nat}, ItsAt W P b off l → ∀ {j : Nat} (hj : j < l.length),
    ∃ s, W.cell? ⟨b, off + j * 4, none⟩ = some (intV l[j].kd) ∧ W.cell? ⟨b, off + j * 4 + 1, none⟩ = some (intV l[j].nm) ∧ W.cell? ⟨b, off + j * 4 + 2, none⟩ = some (.string l[j].tx) ∧ W.cell? ⟨b, off + j * 4 + 3, none⟩ = some s ∧
      VAt W P (.agg #[intV l[j].kd, intV l[j].nm, .string l[j].tx, s]) l[j]
  | [], _, _, j, hj => absurd hj (by simp)
  | x :: l, off, h, 0, _ => by
    rw [ItsAt] at h
    simpa using h.1
  | x :: l, off, h, j + 1, hj => by
    rw [ItsAt] at h
    have := its_get h.2 (j := j) (by simpa using hj)
    have e : off + 4 + j * 4 = off + (j + 1) * 4 := by omega
    rw [e] at this
    simpa using this
theorem its_mk {W : World} {P : Nat → Prop} {b : Nat} : ∀ {l : List Val} {off : Nat}, (∀ j (hj : j < l.length), ∃ s, W.cell? ⟨b, off + j * 4, none⟩ = some (intV l[j].kd) ∧ W.cell? ⟨b, off + j * 4 + 1, none⟩ = some (intV l[j].nm) ∧ W.cell? ⟨b, off + j * 4 + 2, none⟩ = some (.string l[j].tx) ∧ W.cell? ⟨b, off + j * 4 + 3, none⟩ = some s ∧
      VAt W P (.agg #[intV l[j].kd, intV l[j].nm, .string l[j].tx, s]) l[j]) → ItsAt W P b off l
  | [], _, _ => by rw [ItsAt]; trivial
  | x :: l, off, h => by
    rw [ItsAt]
    refine ⟨(by have h' := h 0 (Nat.zero_lt_succ _); rw [Nat.zero_mul, Nat.add_zero] at h'; exact h'), its_mk fun j hj => ?_⟩
    have := h (j + 1) (by simpa using hj)
    have e : off + 4 + j * 4 = off + (j + 1) * 4 := by omega
    rw [e]
    simpa using this
theorem VsAt.elem {W : World} {P : Nat → Prop} {a : Option Addr} {n c : Nat} {l : List Val} (h : VsAt W P (.slice a n c) l) {j : Nat} (hj : j < l.length) :
    ∃ b off s, a = some ⟨b, off, none⟩ ∧ P b ∧ b < W.heap.size ∧ W.cell? ⟨b, off + j * 4, none⟩ = some (intV l[j].kd) ∧ W.cell? ⟨b, off + j * 4 + 1, none⟩ = some (intV l[j].nm) ∧ W.cell? ⟨b, off + j * 4 + 2, none⟩ = some (.string l[j].tx) ∧ W.cell? ⟨b, off + j * 4 + 3, none⟩ = some s ∧
      VAt W P (.agg #[intV l[j].kd, intV l[j].nm, .string l[j].tx, s]) l[j] := by
  obtain ⟨a', c', e, h⟩ := h
  cases e
  obtain ⟨b, off, rfl, hp, hb, hi⟩ := h (by omega)
  obtain ⟨s, h0, h1, h2, h3, h4⟩ := its_get hi hj
  exact ⟨b, off, s, rfl, hp, hb, h0, h1, h2, h3, h4⟩
theorem vat_slice {W : World} {P : Nat → Prop} {x : Val} {k n : Int} {t : ByteArray} {s : Value} (h : VAt W P (.agg #[intV k, intV n, .string t, s]) x) : ∃ a c, s = .slice a x.its.length c := by
  obtain ⟨xk, xn, xt, xl⟩ := x
  obtain ⟨_, _, _, _, a, c, e, _⟩ := vat_of h
  refine ⟨a, c, ?_⟩
  show s = .slice a xl.length c
  have := congrArg (fun v => match v with | .agg cs => cs[3]? | _ => none) e
  simpa using this
theorem VsAt.elem' {W : World} {P : Nat → Prop} {a : Option Addr} {n c : Nat} {l : List Val} (h : VsAt W P (.slice a n c) l) {j : Nat} (hj : j < l.length) :
    ∃ b off sa sc, a = some ⟨b, off, none⟩ ∧ P b ∧ b < W.heap.size ∧ W.cell? ⟨b, off + j * 4, none⟩ = some (intV l[j].kd) ∧ W.cell? ⟨b, off + j * 4 + 1, none⟩ = some (intV l[j].nm) ∧ W.cell? ⟨b, off + j * 4 + 2, none⟩ = some (.string l[j].tx) ∧ W.cell? ⟨b, off + j * 4 + 3, none⟩ = some (.slice sa l[j].its.length sc) ∧
      VAt W P (.agg #[intV l[j].kd, intV l[j].nm, .string l[j].tx, .slice sa l[j].its.length sc]) l[j] := by
  obtain ⟨b, off, s, ha, hp, hb, h0, h1, h2, h3, h4⟩ := h.elem hj
  obtain ⟨sa, sc, rfl⟩ := vat_slice h4
  exact ⟨b, off, sa, sc, ha, hp, hb, h0, h1, h2, h3, h4⟩
/-- what is known of a value at one place -/
theorem VAt.agg {W : World} {P : Nat → Prop} {v : Value} {x : Val} (h : VAt W P v x) : ∃ a c, v = .agg #[intV x.kd, intV x.nm, .string x.tx, .slice a x.its.length c] ∧ VsAt W P (.slice a x.its.length c) x.its := by
  obtain ⟨xk, xn, xt, xl⟩ := x
  obtain ⟨_, _, _, _, a, c, e, h⟩ := vat_of h
  exact ⟨a, c, e, h⟩
end Go.Proofs.YtjcigjggfmfoeaaDoor
