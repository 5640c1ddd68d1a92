/- Lists of integers and lists of them, as a world holds them; they are only read. -/
import Derived.Test.YteceahbnafaeoaaSqInv
import Derived.Test.YteceahbnafaeoaaProg
import Derived.WalkKit
import Derived.WalkSpells
import Derived.WalkLawsBesides
import Derived.Lib.Hide
import Derived.IntWalk
import Derived.Deep.QuietTactic
import Derived.BigQuiet
import Derived.Deep.Slices
import Derived.Laws.BitsAll
namespace Go.Proofs.Yteceahbnafaeoaa
set_option linter.unusedSimpArgs false
set_option linter.unusedVariables false
open Go.RowKit Go.Deep

abbrev intV (x : Int) : Value := .int .i64 x
abbrev u64V (m : Nat) : Value := .int .u64 (m : Int)
theorem ret_int {k : IntKind} {a b : Int} (h : a = b) : Ending.returned (.int k a) = .returned (.int k b) := by rw [h]
theorem ret_bool {a b : Bool} (h : a = b) : Ending.returned (.bool a) = .returned (.bool b) := by rw [h]
theorem ret_bi {a b : Bool} {x y : Int} (h : a = b) (h' : x = y) : Ending.returned (.tuple #[.bool a, intV x]) = .returned (.tuple #[.bool b, intV y]) := by rw [h, h']
theorem ret_of {r : Bool × Int} {a : Bool} {x : Int} (h : r = (a, x)) : Ending.returned (.tuple #[.bool a, intV x]) = .returned (.tuple #[.bool r.1, intV r.2]) := by rw [h]
theorem below_seq {N M : Nat} {w w1 w2 : World} (h1 : Below N w w1) (h2 : Below M w1 w2) (h : N ≤ M) : Below N w w2 := h1.trans (h2.mono h)
theorem below_then {w w1 w2 : World} (h1 : Below w.heap.size w w1) (h2 : Below w1.heap.size w1 w2) : Below w.heap.size w w2 := h1.trans (h2.mono h1.size)
theorem below_drewN (w : World) (n : Nat) : Below w.heap.size w (w.drewN n) := ⟨rfl, rfl, rfl, Nat.le_refl _, fun _ _ => rfl⟩
theorem below_drewN_n (N : Nat) (w : World) (m : Nat) : Below N w (w.drewN m) := ⟨rfl, rfl, rfl, Nat.le_refl _, fun _ _ => rfl⟩
theorem below_make {w w1 : World} (h : w.grownBy w1 none) : Below w.heap.size w w1 := (Below.refl _ _).grown h (Nat.le_refl _) (fun _ e => by cases e)
theorem info_int : (Try.prog.info? 3).map (fun i => (i.zero, i.size, i.bytes)) = some (some (.int .i64 0), 1, 8) := by kernel_rfl

def IntsAt (W : World) (v : Value) (zs : List Int) : Prop :=
  ∃ a cap, v = .slice a zs.length cap ∧ (0 < zs.length → ∃ b off, a = some ⟨b, off, none⟩ ∧ b < W.heap.size ∧ ∀ j (h : j < zs.length), W.cell? ⟨b, off + j, none⟩ = some (.int .i64 zs[j]))
theorem IntsAt.below {W W' : World} {v : Value} {zs : List Int} (h : IntsAt W v zs) (hB : Below W.heap.size W W') : IntsAt W' v zs := by
  obtain ⟨a, cap, rfl, hc⟩ := h
  refine ⟨a, cap, rfl, fun h0 => ?_⟩
  obtain ⟨b, off, ha, hb, hcs⟩ := hc h0
  exact ⟨b, off, ha, Nat.lt_of_lt_of_le hb hB.size, fun j hj => (hB.cell (p := ⟨b, off + j, none⟩) hb).trans (hcs j hj)⟩
theorem IntsAt.empty (w : World) (a : Option Addr) (cap : Nat) : IntsAt w (.slice a 0 cap) [] := ⟨a, cap, rfl, fun h => absurd h (by simp)⟩
theorem IntsAt.of_own {W : World} {base : Nat} {e : TypeId} {v : Value} {zs : List Int} {n : Nat} (h : W.ownsRow base e 1 v n (zs.map intV)) : IntsAt W v zs := by
  have hl := h.1
  rw [List.length_map, Nat.mul_one] at hl
  subst hl
  rcases h.2 with ⟨rfl, hn⟩ | ⟨g, cap, cur, rfl, _⟩
  · exact ⟨none, 0, by rw [hn], fun h0 => absurd h0 (by omega)⟩
  · refine ⟨some ⟨g, 0, none⟩, cap, rfl, fun h0 => ⟨g, 0, rfl, (h.lt g rfl).2, fun j hj => ?_⟩⟩
    have := h.cells (g := g) rfl j (intV zs[j]) (by simp [hj])
    have e : (⟨g, 0, none⟩ : Addr).add j = ⟨g, j, none⟩ := by simp only [Addr.add]; split <;> simp_all
    rw [e] at this; simpa using this
/-- lists of lists -/
def ListsAt (W : World) (v : Value) (L : List (List Int)) : Prop :=
  ∃ a cap, v = .slice a L.length cap ∧ (0 < L.length → ∃ b off, a = some ⟨b, off, none⟩ ∧ b < W.heap.size ∧ ∀ j (h : j < L.length), ∃ u, W.cell? ⟨b, off + j, none⟩ = some u ∧ IntsAt W u L[j])
theorem ListsAt.below {W W' : World} {v : Value} {L : List (List Int)} (h : ListsAt W v L) (hB : Below W.heap.size W W') : ListsAt W' v L := by
  obtain ⟨a, cap, rfl, hc⟩ := h
  refine ⟨a, cap, rfl, fun h0 => ?_⟩
  obtain ⟨b, off, ha, hb, hcs⟩ := hc h0
  refine ⟨b, off, ha, Nat.lt_of_lt_of_le hb hB.size, fun j hj => ?_⟩
  obtain ⟨u, h1, h2⟩ := hcs j hj
  exact ⟨u, (hB.cell (p := ⟨b, off + j, none⟩) hb).trans h1, h2.below hB⟩
theorem ListsAt.elem {W : World} {a : Option Addr} {n cap : Nat} {L : List (List Int)} (h : ListsAt W (.slice a n cap) L) {j : Nat} (hj : j < L.length) :
    ∃ b off u c, a = some ⟨b, off, none⟩ ∧ b < W.heap.size ∧ W.cell? ⟨b, off + j, none⟩ = some (.slice u L[j].length c) ∧ IntsAt W (.slice u L[j].length c) L[j] := by
  obtain ⟨a', cap', e, hc⟩ := h
  cases e
  obtain ⟨b, off, rfl, hb, hcs⟩ := hc (by omega)
  obtain ⟨u, h1, h2⟩ := hcs j hj
  obtain ⟨x, c, rfl, _⟩ := id h2
  exact ⟨b, off, x, c, rfl, hb, h1, h2⟩
/-- a list and why there is none -/
def ListPost (r : List Int × Int) (w : World) (e : Ending) (w' : World) : Prop := ∃ v, e = .returned (.tuple #[v, intV r.2]) ∧ IntsAt w' v r.1 ∧ Below w.heap.size w w'
theorem ListPost.bad {w w' : World} {k : Int} {r : List Int × Int} (h : r = ([], k)) (hB : Below w.heap.size w w') : ListPost r w (.returned (.tuple #[.slice none 0 0, intV k])) w' := by
  subst h; exact ⟨_, rfl, IntsAt.empty _ _ _, hB⟩
theorem ListPost.good {w w' : World} {v : Value} {xs : List Int} {k : Int} {r : List Int × Int} (h : r = (xs, k)) (hi : IntsAt w' v xs) (hB : Below w.heap.size w w') : ListPost r w (.returned (.tuple #[v, intV k])) w' := by
  subst h; exact ⟨_, rfl, hi, hB⟩

def ListsPost (r : List (List Int) × Int) (w : World) (e : Ending) (w' : World) : Prop := ∃ v, e = .returned (.tuple #[v, intV r.2]) ∧ ListsAt w' v r.1 ∧ Below w.heap.size w w'
theorem IntsAt.slice {W : World} {v : Value} {zs : List Int} (h : IntsAt W v zs) : ∃ a cap, v = .slice a zs.length cap := by obtain ⟨a, c, rfl, _⟩ := h; exact ⟨a, c, rfl⟩
theorem ListsAt.slice {W : World} {v : Value} {L : List (List Int)} (h : ListsAt W v L) : ∃ a cap, v = .slice a L.length cap := by obtain ⟨a, c, rfl, _⟩ := h; exact ⟨a, c, rfl⟩
theorem IntsAt.elem {W : World} {a : Option Addr} {n cap : Nat} {zs : List Int} (h : IntsAt W (.slice a n cap) zs) {j : Nat} (hj : j < zs.length) :
    ∃ b off, a = some ⟨b, off, none⟩ ∧ b < W.heap.size ∧ W.cell? ⟨b, off + j, none⟩ = some (.int .i64 zs[j]) := by
  obtain ⟨a', c', e, hc⟩ := h
  cases e
  obtain ⟨b, off, rfl, hb, hcs⟩ := hc (by omega)
  exact ⟨b, off, rfl, hb, hcs j hj⟩
/-- machine integers -/
def R64 (l : List Int) : Prop := ∀ x ∈ l, -9223372036854775808 ≤ x ∧ x ≤ 9223372036854775807
def R64s (L : List (List Int)) : Prop := ∀ l ∈ L, R64 l

/- what the functions return -/
def incE (l : List Int) : List Int × Int := if 1024 < l.length then ([], 4) else (incR l, 0)
def covE (l : List Int) : List (List Int) × Int := if 1024 < l.length then ([], 4) else (covR l, 0)
def runsE (l : List Int) : List (List Int) × Int := if 1024 < l.length then ([], 4) else (runsR l, 0)
def invE (l : List Int) : Int × Int := if 1024 < l.length then (0, 4) else (invR l, 0)
def movE (l : List Int) : Int × Int := if 1024 < l.length then (0, 4) else if permB l then (movR l, 0) else (0, 8)
def toW (ws : List Int) : List Nat := ws.map Int.toNat
def wOk (ws : List Int) : Bool := ws.all fun x => decide (0 ≤ x) && decide (x ≤ 1048576)
def wtdE (l ws : List Int) : List Int × Int × Int := if 1024 < l.length then ([], 0, 4) else if ws.length ≠ l.length then ([], 0, 9) else if wOk ws then (firstR l (toW ws), mostR l (toW ws), 0) else ([], 0, 2)
def WtdPost (r : List Int × Int × Int) (w : World) (e : Ending) (w' : World) : Prop := ∃ v, e = .returned (.tuple #[v, intV r.2.1, intV r.2.2]) ∧ IntsAt w' v r.1 ∧ Below w.heap.size w w'

/-- a slice whose capacity is at least its length -/
def CapOk (v : Value) : Prop := ∀ a n c, v = .slice a n c → n ≤ c
theorem cap_own {W : World} {B : Nat} {e : TypeId} {v : Value} {n : Nat} {xs : List Value} (h : W.ownsRow B e 1 v n xs) : CapOk v := by
  rcases h.2 with ⟨rfl, _⟩ | ⟨g, cap, cur, rfl, _, _, hc, _⟩
  · exact fun a n c e => by cases e; exact Nat.le_refl _
  · exact fun a n c e => by cases e; exact hc
theorem cap_lit (a : Option Addr) (n : Nat) : CapOk (.slice a n n) := fun a n c e => by cases e; exact Nat.le_refl _
/- the program's contracts -/
structure SqOk : Prop where
  incr : ∀ (l : List Int) (v : Value) (w : World), IntsAt w v l → R64 l → l.length ≤ maxLen → Calls Try.prog 13 #[v] w (ListPost (incE l) w)
  wtd : ∀ (l ws : List Int) (v u : Value) (w : World), IntsAt w v l → IntsAt w u ws → R64 l → R64 ws → l.length ≤ maxLen → ws.length ≤ maxLen → Calls Try.prog 28 #[v, u] w (WtdPost (wtdE l ws) w)
  cover : ∀ (l : List Int) (v : Value) (w : World), IntsAt w v l → R64 l → l.length ≤ maxLen → Calls Try.prog 15 #[v] w (ListsPost (covE l) w)
  verify : ∀ (l is : List Int) (cov : List (List Int)) (v u x : Value) (w : World), IntsAt w v l → IntsAt w u is → ListsAt w x cov → R64 l → R64 is → R64s cov → l.length ≤ maxLen → is.length ≤ maxLen → cov.length ≤ maxLen → (∀ c ∈ cov, c.length ≤ maxLen) →
    Calls Try.prog 30 #[v, u, x] w fun e w' => e = .returned (intV (verR l is cov)) ∧ Below w.heap.size w w'
  inv : ∀ (l : List Int) (v : Value) (w : World), IntsAt w v l → CapOk v → R64 l → l.length ≤ maxLen → Calls Try.prog 17 #[v] w fun e w' => e = .returned (.tuple #[intV (invE l).1, intV (invE l).2]) ∧ Below w.heap.size w w'
  runs : ∀ (l : List Int) (v : Value) (w : World), IntsAt w v l → R64 l → l.length ≤ maxLen → Calls Try.prog 19 #[v] w (ListsPost (runsE l) w)
  perm : ∀ (l : List Int) (v : Value) (w : World), IntsAt w v l → R64 l → l.length ≤ 1000000 → Calls Try.prog 25 #[v] w fun e w' => e = .returned (.bool (permB l)) ∧ Below w.heap.size w w'
  moves : ∀ (l : List Int) (v : Value) (w : World), IntsAt w v l → R64 l → l.length ≤ maxLen → Calls Try.prog 21 #[v] w fun e w' => e = .returned (.tuple #[intV (movE l).1, intV (movE l).2]) ∧ Below w.heap.size w w'
end Go.Proofs.Yteceahbnafaeoaa
