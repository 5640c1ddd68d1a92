/- Lists of integers, lists of them and lists of links, as a world holds them; they are only read. -/
import Derived.Test.YtipcelgoachjjaaDgMath
import Derived.WalkKit
import Derived.WalkSpells
import Derived.WalkLawsBesides
import Derived.Lib.Hide
import Derived.IntWalk
import Derived.Deep.QuietTactic
import Derived.BigQuiet
import Derived.Deep.Slices
import Derived.Laws.BitsAll
namespace Go.Proofs.Ytipcelgoachjjaa
set_option linter.unusedSimpArgs false
set_option linter.unusedVariables false
open Go.RowKit Go.Deep

abbrev intV (x : Int) : Value := .int .i64 x
abbrev u64V (m : Nat) : Value := .int .u64 (m : Int)
theorem ret_int {k : IntKind} {a b : Int} (h : a = b) : Ending.returned (.int k a) = .returned (.int k b) := by rw [h]
theorem ret_bool {a b : Bool} (h : a = b) : Ending.returned (.bool a) = .returned (.bool b) := by rw [h]
theorem ret_bi {a b : Bool} {x y : Int} (h : a = b) (h' : x = y) : Ending.returned (.tuple #[.bool a, intV x]) = .returned (.tuple #[.bool b, intV y]) := by rw [h, h']
theorem ret_of {r : Bool × Int} {a : Bool} {x : Int} (h : r = (a, x)) : Ending.returned (.tuple #[.bool a, intV x]) = .returned (.tuple #[.bool r.1, intV r.2]) := by rw [h]
theorem below_seq {N M : Nat} {w w1 w2 : World} (h1 : Below N w w1) (h2 : Below M w1 w2) (h : N ≤ M) : Below N w w2 := h1.trans (h2.mono h)
theorem below_then {w w1 w2 : World} (h1 : Below w.heap.size w w1) (h2 : Below w1.heap.size w1 w2) : Below w.heap.size w w2 := h1.trans (h2.mono h1.size)
theorem below_drewN (w : World) (n : Nat) : Below w.heap.size w (w.drewN n) := ⟨rfl, rfl, rfl, Nat.le_refl _, fun _ _ => rfl⟩
theorem below_drewN_n (N : Nat) (w : World) (m : Nat) : Below N w (w.drewN m) := ⟨rfl, rfl, rfl, Nat.le_refl _, fun _ _ => rfl⟩
theorem below_make {w w1 : World} (h : w.grownBy w1 none) : Below w.heap.size w w1 := (Below.refl _ _).grown h (Nat.le_refl _) (fun _ e => by cases e)
theorem info_int : (Try.prog.info? 3).map (fun i => (i.zero, i.size, i.bytes)) = some (some (.int .i64 0), 1, 8) := by kernel_rfl

def IntsAt (W : World) (v : Value) (zs : List Int) : Prop :=
  ∃ a cap, v = .slice a zs.length cap ∧ (0 < zs.length → ∃ b off, a = some ⟨b, off, none⟩ ∧ b < W.heap.size ∧ ∀ j (h : j < zs.length), W.cell? ⟨b, off + j, none⟩ = some (.int .i64 zs[j]))
theorem IntsAt.below {W W' : World} {v : Value} {zs : List Int} (h : IntsAt W v zs) (hB : Below W.heap.size W W') : IntsAt W' v zs := by
  obtain ⟨a, cap, rfl, hc⟩ := h
  refine ⟨a, cap, rfl, fun h0 => ?_⟩
  obtain ⟨b, off, ha, hb, hcs⟩ := hc h0
  exact ⟨b, off, ha, Nat.lt_of_lt_of_le hb hB.size, fun j hj => (hB.cell (p := ⟨b, off + j, none⟩) hb).trans (hcs j hj)⟩
theorem IntsAt.empty (w : World) (a : Option Addr) (cap : Nat) : IntsAt w (.slice a 0 cap) [] := ⟨a, cap, rfl, fun h => absurd h (by simp)⟩
theorem IntsAt.of_own {W : World} {base : Nat} {e : TypeId} {v : Value} {zs : List Int} {n : Nat} (h : W.ownsRow base e 1 v n (zs.map intV)) : IntsAt W v zs := by
  have hl := h.1
  rw [List.length_map, Nat.mul_one] at hl
  subst hl
  rcases h.2 with ⟨rfl, hn⟩ | ⟨g, cap, cur, rfl, _⟩
  · exact ⟨none, 0, by rw [hn], fun h0 => absurd h0 (by omega)⟩
  · refine ⟨some ⟨g, 0, none⟩, cap, rfl, fun h0 => ⟨g, 0, rfl, (h.lt g rfl).2, fun j hj => ?_⟩⟩
    have := h.cells (g := g) rfl j (intV zs[j]) (by simp [hj])
    have e : (⟨g, 0, none⟩ : Addr).add j = ⟨g, j, none⟩ := by simp only [Addr.add]; split <;> simp_all
    rw [e] at this; simpa using this
/-- lists of lists -/
def ListsAt (W : World) (v : Value) (L : List (List Int)) : Prop :=
  ∃ a cap, v = .slice a L.length cap ∧ (0 < L.length → ∃ b off, a = some ⟨b, off, none⟩ ∧ b < W.heap.size ∧ ∀ j (h : j < L.length), ∃ u, W.cell? ⟨b, off + j, none⟩ = some u ∧ IntsAt W u L[j])
theorem ListsAt.below {W W' : World} {v : Value} {L : List (List Int)} (h : ListsAt W v L) (hB : Below W.heap.size W W') : ListsAt W' v L := by
  obtain ⟨a, cap, rfl, hc⟩ := h
  refine ⟨a, cap, rfl, fun h0 => ?_⟩
  obtain ⟨b, off, ha, hb, hcs⟩ := hc h0
  refine ⟨b, off, ha, Nat.lt_of_lt_of_le hb hB.size, fun j hj => ?_⟩
  obtain ⟨u, h1, h2⟩ := hcs j hj
  exact ⟨u, (hB.cell (p := ⟨b, off + j, none⟩) hb).trans h1, h2.below hB⟩
theorem ListsAt.elem {W : World} {a : Option Addr} {n cap : Nat} {L : List (List Int)} (h : ListsAt W (.slice a n cap) L) {j : Nat} (hj : j < L.length) :
    ∃ b off u c, a = some ⟨b, off, none⟩ ∧ b < W.heap.size ∧ W.cell? ⟨b, off + j, none⟩ = some (.slice u L[j].length c) ∧ IntsAt W (.slice u L[j].length c) L[j] := by
  obtain ⟨a', cap', e, hc⟩ := h
  cases e
  obtain ⟨b, off, rfl, hb, hcs⟩ := hc (by omega)
  obtain ⟨u, h1, h2⟩ := hcs j hj
  obtain ⟨x, c, rfl, _⟩ := id h2
  exact ⟨b, off, x, c, rfl, hb, h1, h2⟩
/-- a list and why there is none -/
def ListPost (r : List Int × Int) (w : World) (e : Ending) (w' : World) : Prop := ∃ v, e = .returned (.tuple #[v, intV r.2]) ∧ IntsAt w' v r.1 ∧ Below w.heap.size w w'
theorem ListPost.bad {w w' : World} {k : Int} {r : List Int × Int} (h : r = ([], k)) (hB : Below w.heap.size w w') : ListPost r w (.returned (.tuple #[.slice none 0 0, intV k])) w' := by
  subst h; exact ⟨_, rfl, IntsAt.empty _ _ _, hB⟩
theorem ListPost.good {w w' : World} {v : Value} {xs : List Int} {k : Int} {r : List Int × Int} (h : r = (xs, k)) (hi : IntsAt w' v xs) (hB : Below w.heap.size w w') : ListPost r w (.returned (.tuple #[v, intV k])) w' := by
  subst h; exact ⟨_, rfl, hi, hB⟩

/-- links -/
def LinksAt (W : World) (v : Value) (ls : List LkV) : Prop :=
  ∃ a cap, v = .slice a ls.length cap ∧ (0 < ls.length → ∃ b off, a = some ⟨b, off, none⟩ ∧ b < W.heap.size ∧
    ∀ j, j < ls.length → W.cell? ⟨b, off + j * 3, none⟩ = some (intV (lk ls j).f) ∧ W.cell? ⟨b, off + j * 3 + 1, none⟩ = some (intV (lk ls j).t) ∧ W.cell? ⟨b, off + j * 3 + 2, none⟩ = some (intV (lk ls j).c))
theorem LinksAt.below {W W' : World} {v : Value} {ls : List LkV} (h : LinksAt W v ls) (hB : Below W.heap.size W W') : LinksAt W' v ls := by
  obtain ⟨a, cap, rfl, hc⟩ := h
  refine ⟨a, cap, rfl, fun h0 => ?_⟩
  obtain ⟨b, off, ha, hb, hcs⟩ := hc h0
  refine ⟨b, off, ha, Nat.lt_of_lt_of_le hb hB.size, fun j hj => ?_⟩
  obtain ⟨h1, h2, h3⟩ := hcs j hj
  exact ⟨(hB.cell (p := ⟨b, off + j * 3, none⟩) hb).trans h1, (hB.cell (p := ⟨b, off + j * 3 + 1, none⟩) hb).trans h2, (hB.cell (p := ⟨b, off + j * 3 + 2, none⟩) hb).trans h3⟩
theorem LinksAt.elem {W : World} {a : Option Addr} {n cap : Nat} {ls : List LkV} (h : LinksAt W (.slice a n cap) ls) {j : Nat} (hj : j < ls.length) :
    ∃ b off, a = some ⟨b, off, none⟩ ∧ b < W.heap.size ∧ W.cell? ⟨b, off + j * 3, none⟩ = some (intV (lk ls j).f) ∧ W.cell? ⟨b, off + j * 3 + 1, none⟩ = some (intV (lk ls j).t) ∧ W.cell? ⟨b, off + j * 3 + 2, none⟩ = some (intV (lk ls j).c) := by
  obtain ⟨a', cap', e, hc⟩ := h
  cases e
  obtain ⟨b, off, rfl, hb, hcs⟩ := hc (by omega)
  exact ⟨b, off, rfl, hb, hcs j hj⟩
theorem LinksAt.slice {W : World} {v : Value} {ls : List LkV} (h : LinksAt W v ls) : ∃ a cap, v = .slice a ls.length cap := by
  obtain ⟨a, cap, e, _⟩ := h
  exact ⟨a, cap, e⟩
theorem IntsAt.slice {W : World} {v : Value} {xs : List Int} (h : IntsAt W v xs) : ∃ a cap, v = .slice a xs.length cap := by
  obtain ⟨a, cap, e, _⟩ := h
  exact ⟨a, cap, e⟩
theorem IntsAt.elem {W : World} {a : Option Addr} {n cap : Nat} {xs : List Int} (h : IntsAt W (.slice a n cap) xs) {j : Nat} (hj : j < xs.length) :
    ∃ b off, a = some ⟨b, off, none⟩ ∧ b < W.heap.size ∧ W.cell? ⟨b, off + j, none⟩ = some (intV xs[j]) := by
  obtain ⟨a', cap', e, hc⟩ := h
  cases e
  obtain ⟨b, off, rfl, hb, hcs⟩ := hc (by omega)
  exact ⟨b, off, rfl, hb, hcs j hj⟩
abbrev lkV (x : LkV) : Value := .agg #[intV x.f, intV x.t, intV x.c]
/-- a list of nodes or costs for each place below n -/
def tab (n : Nat) (T : Int → Int) : List Int := (List.range n).map fun i : Nat => T i
theorem tab_len (n : Nat) (T : Int → Int) : (tab n T).length = n := by simp [tab]
theorem tab_get (n : Nat) (T : Int → Int) {i : Nat} (h : i < (tab n T).length) : (tab n T)[i] = T i := by simp [tab]
theorem below_w {w w1 : World} (h : w = w1) : Below w.heap.size w w1 := by rw [← h]; exact Below.refl _ _
end Go.Proofs.Ytipcelgoachjjaa
