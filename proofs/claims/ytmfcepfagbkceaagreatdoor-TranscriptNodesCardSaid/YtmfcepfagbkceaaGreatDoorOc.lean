/- Stage 10 (transcript): MkVals MkHelp MkSame, put together by merge10.py. -/
import Derived.Test.YtmfcepfagbkceaaGreatDoorOa
import Derived.Test.YtmfcepfagbkceaaGreatDoorProg
import Derived.WalkKit
import Derived.WalkSpells
import Derived.WalkLawsBesides
import Derived.Lib.Hide
import Derived.IntWalk
import Derived.Deep.QuietTactic
import Derived.BigQuiet
import Derived.Deep.Slices
namespace Go.Proofs.YtmfcepfagbkceaaGreatDoor
set_option linter.unusedSimpArgs false
set_option linter.unusedVariables false
open Go.RowKit Go.Deep
abbrev intV (x : Int) : Value := .int .i64 x
def baL (l : Bs) : ByteArray := ⟨l.toArray⟩
abbrev sV (l : Bs) : Value := .string (baL l)
theorem baL_list (s : ByteArray) : baL s.data.toList = s := by
  obtain ⟨⟨s⟩⟩ := s
  rfl
theorem baL_size (l : Bs) : (baL l).size = l.length := by simp [baL, ByteArray.size]
theorem baL_append (a b : Bs) : baL a ++ baL b = baL (a ++ b) := by
  have h : ∀ s t : ByteArray, s.data.toList = t.data.toList → s = t := fun s t e => by rw [← baL_list s, ← baL_list t, e]
  refine h _ _ ?_
  simp [baL]
theorem below_then {w w1 w2 : World} (h1 : Below w.heap.size w w1) (h2 : Below w1.heap.size w1 w2) : Below w.heap.size w w2 := h1.trans (h2.mono h1.size)
theorem below_drewN (w : World) (n : Nat) : Below w.heap.size w (w.drewN n) := ⟨rfl, rfl, rfl, Nat.le_refl _, fun _ _ => rfl⟩
theorem below_drewN_n (N : Nat) (w : World) (m : Nat) : Below N w (w.drewN m) := ⟨rfl, rfl, rfl, Nat.le_refl _, fun _ _ => rfl⟩
theorem below_alloc (w : World) (o : Obj) : Below w.heap.size w (w.alloc o) := (Below.refl _ w).alloc (Nat.le_refl _) o
theorem ret_bool {a b : Bool} (h : a = b) : Ending.returned (.bool a) = .returned (.bool b) := by rw [h]
def cellsX (x : Lx) : List Value := [intV x.k, sV x.n, sV x.v, intV x.o]
def LexAt (W : World) (v : Value) (L : List Lx) : Prop :=
  ∃ a cap, v = .slice a L.length cap ∧ (0 < L.length → ∃ b off, a = some ⟨b, off, none⟩ ∧ b < W.heap.size ∧
    ∀ j (h : j < L.length), W.cell? ⟨b, off + j * 4, none⟩ = some (intV L[j].k) ∧ W.cell? ⟨b, off + j * 4 + 1, none⟩ = some (sV L[j].n) ∧ W.cell? ⟨b, off + j * 4 + 2, none⟩ = some (sV L[j].v) ∧ W.cell? ⟨b, off + j * 4 + 3, none⟩ = some (intV L[j].o))
theorem LexAt.below {W W' : World} {v : Value} {L : List Lx} (h : LexAt W v L) (hB : Below W.heap.size W W') : LexAt W' v L := by
  obtain ⟨a, cap, rfl, hc⟩ := h
  refine ⟨a, cap, rfl, fun h0 => ?_⟩
  obtain ⟨b, off, ha, hb, hcs⟩ := hc h0
  refine ⟨b, off, ha, Nat.lt_of_lt_of_le hb hB.size, fun j hj => ?_⟩
  obtain ⟨h1, h2, h3, h4⟩ := hcs j hj
  exact ⟨(hB.cell (p := ⟨b, off + j * 4, none⟩) hb).trans h1, (hB.cell (p := ⟨b, off + j * 4 + 1, none⟩) hb).trans h2, (hB.cell (p := ⟨b, off + j * 4 + 2, none⟩) hb).trans h3, (hB.cell (p := ⟨b, off + j * 4 + 3, none⟩) hb).trans h4⟩
theorem LexAt.slice {W : World} {v : Value} {L : List Lx} (h : LexAt W v L) : ∃ a cap, v = .slice a L.length cap := by obtain ⟨a, c, rfl, _⟩ := h; exact ⟨a, c, rfl⟩
theorem LexAt.empty (w : World) (a : Option Addr) (cap : Nat) : LexAt w (.slice a 0 cap) [] := ⟨a, cap, rfl, fun h => absurd h (by simp)⟩
theorem LexAt.elem {W : World} {a : Option Addr} {n cap : Nat} {L : List Lx} (h : LexAt W (.slice a n cap) L) {j : Nat} (hj : j < L.length) :
    ∃ b off, a = some ⟨b, off, none⟩ ∧ b < W.heap.size ∧ W.cell? ⟨b, off + j * 4, none⟩ = some (intV L[j].k) ∧ W.cell? ⟨b, off + j * 4 + 1, none⟩ = some (sV L[j].n) ∧ W.cell? ⟨b, off + j * 4 + 2, none⟩ = some (sV L[j].v) ∧ W.cell? ⟨b, off + j * 4 + 3, none⟩ = some (intV L[j].o) := by
  obtain ⟨a', cap', e, hc⟩ := h
  cases e
  obtain ⟨b, off, rfl, hb, hcs⟩ := hc (by omega)
  obtain ⟨h1, h2, h3, h4⟩ := hcs j hj
  exact ⟨b, off, rfl, hb, h1, h2, h3, h4⟩
theorem flatX_len : ∀ L : List Lx, (L.flatMap cellsX).length = L.length * 4
  | [] => rfl
  | x :: L => by rw [List.flatMap_cons, List.length_append, flatX_len L]; simp [cellsX]; omega
theorem flatX_at : ∀ (L : List Lx) (j : Nat) (h : j < L.length), (L.flatMap cellsX)[j * 4]? = some (intV L[j].k) ∧ (L.flatMap cellsX)[j * 4 + 1]? = some (sV L[j].n) ∧ (L.flatMap cellsX)[j * 4 + 2]? = some (sV L[j].v) ∧ (L.flatMap cellsX)[j * 4 + 3]? = some (intV L[j].o)
  | [], j, h => absurd h (by simp)
  | x :: L, 0, _ => by simp [List.flatMap_cons, cellsX]
  | x :: L, j + 1, h => by
    have := flatX_at L j (by simpa using h)
    have e : ∀ k, ((x :: L).flatMap cellsX)[k + 4]? = (L.flatMap cellsX)[k]? := fun k => by
      rw [List.flatMap_cons, List.getElem?_append_right (by simp [cellsX])]; simp [cellsX]
    rw [show (j + 1) * 4 = j * 4 + 4 by omega, show j * 4 + 4 + 1 = (j * 4 + 1) + 4 by omega, show j * 4 + 4 + 2 = (j * 4 + 2) + 4 by omega, show j * 4 + 4 + 3 = (j * 4 + 3) + 4 by omega, e, e, e, e]
    simpa using this
theorem addr_add (g j : Nat) : (⟨g, 0, none⟩ : Addr).add j = ⟨g, j, none⟩ := by simp only [Addr.add]; split <;> simp_all
theorem LexAt.of_own {W : World} {base : Nat} {e : TypeId} {v : Value} {L : List Lx} {n : Nat} (h : W.ownsRow base e 4 v n (L.flatMap cellsX)) : LexAt W v L := by
  have hl := h.1
  rw [flatX_len] at hl
  obtain rfl : L.length = n := by omega
  rcases h.2 with ⟨rfl, hn⟩ | ⟨g, cap, cur, rfl, _⟩
  · exact ⟨none, 0, by rw [hn], fun h0 => by omega⟩
  · refine ⟨some ⟨g, 0, none⟩, cap, rfl, fun h0 => ⟨g, 0, rfl, (h.lt g rfl).2, fun j hj => ?_⟩⟩
    obtain ⟨h1, h2, h3, h4⟩ := flatX_at L j hj
    have e1 := h.cells (g := g) rfl _ _ h1
    have e2 := h.cells (g := g) rfl _ _ h2
    have e3 := h.cells (g := g) rfl _ _ h3
    have e4 := h.cells (g := g) rfl _ _ h4
    rw [addr_add] at e1 e2 e3 e4
    rw [Nat.zero_add]
    exact ⟨e1, e2, e3, e4⟩
theorem LexAt.of_block {W : World} {b cap : Nat} {L : List Lx} {cs : Array Value} {t : TypeId} (h : W.heap[b]? = some (.cells cs t)) (hc : cs.toList = L.flatMap cellsX) : LexAt W (.slice (some ⟨b, 0, none⟩) L.length cap) L := by
  have hlt : b < W.heap.size := (Array.getElem?_eq_some_iff.1 h).1
  have hcell : ∀ j, W.cell? ⟨b, j, none⟩ = (L.flatMap cellsX)[j]? := fun j => by
    simp only [World.cell?, h]
    rw [← hc, Array.getElem?_toList]
    rfl
  refine ⟨some ⟨b, 0, none⟩, cap, rfl, fun _ => ⟨b, 0, rfl, hlt, fun j hj => ?_⟩⟩
  obtain ⟨h1, h2, h3, h4⟩ := flatX_at L j hj
  rw [Nat.zero_add, hcell, hcell, hcell, hcell]
  exact ⟨h1, h2, h3, h4⟩
def WordsAt (W : World) (v : Value) (l : List Bs) : Prop :=
  ∃ a cap, v = .slice a l.length cap ∧ (0 < l.length → ∃ b off, a = some ⟨b, off, none⟩ ∧ b < W.heap.size ∧ ∀ j (h : j < l.length), W.cell? ⟨b, off + j, none⟩ = some (sV l[j]))
theorem WordsAt.below {W W' : World} {v : Value} {l : List Bs} (h : WordsAt W v l) (hB : Below W.heap.size W W') : WordsAt W' v l := by
  obtain ⟨a, cap, rfl, hc⟩ := h
  refine ⟨a, cap, rfl, fun h0 => ?_⟩
  obtain ⟨b, off, ha, hb, hcs⟩ := hc h0
  exact ⟨b, off, ha, Nat.lt_of_lt_of_le hb hB.size, fun j hj => (hB.cell (p := ⟨b, off + j, none⟩) hb).trans (hcs j hj)⟩
theorem WordsAt.slice {W : World} {v : Value} {l : List Bs} (h : WordsAt W v l) : ∃ a cap, v = .slice a l.length cap := by obtain ⟨a, c, rfl, _⟩ := h; exact ⟨a, c, rfl⟩
theorem WordsAt.elem {W : World} {a : Option Addr} {n cap : Nat} {l : List Bs} (h : WordsAt W (.slice a n cap) l) {j : Nat} (hj : j < l.length) :
    ∃ b off, a = some ⟨b, off, none⟩ ∧ b < W.heap.size ∧ W.cell? ⟨b, off + j, none⟩ = some (sV l[j]) := by
  obtain ⟨a', c', e, hc⟩ := h
  cases e
  obtain ⟨b, off, rfl, hb, hcs⟩ := hc (by omega)
  exact ⟨b, off, rfl, hb, hcs j hj⟩
def I64 (x : Int) : Prop := -9223372036854775808 ≤ x ∧ x ≤ 9223372036854775807
def LxB (L : List Lx) : Prop := L.length ≤ 1000 ∧ ∀ x ∈ L, I64 x.k ∧ I64 x.o ∧ x.n.length ≤ maxLen ∧ x.v.length ≤ maxLen ∧ x.n.length + x.v.length ≤ 65536
def LexPost (r : List Lx × Int) (w : World) (e : Ending) (w' : World) : Prop := ∃ v, e = .returned (.tuple #[v, intV r.2]) ∧ LexAt w' v r.1 ∧ Below w.heap.size w w'
class T (w : World) : Prop where
  syn : ∃ te pe, w.cell? ⟨1, 0, none⟩ = some (.iface te pe)
  ran : ∃ te pe, w.cell? ⟨2, 0, none⟩ = some (.iface te pe)
theorem cellT_lt {w : World} {g i : Nat} {v : Value} (h : w.cell? ⟨g, i, none⟩ = some v) : g < w.heap.size := by
  unfold World.cell? at h
  by_cases hl : g < w.heap.size
  · exact hl
  · rw [show w.heap[(⟨g, i, none⟩ : Addr).block]? = none from Array.getElem?_eq_none (Nat.le_of_not_lt hl)] at h; cases h
theorem T.below {w0 w w' : World} [a : T w0] [b : T w] (h : Below w0.heap.size w w') : T w' := by
  obtain ⟨⟨t1, p1, a1⟩, ⟨t2, p2, a2⟩⟩ := a
  obtain ⟨⟨t3, p3, b1⟩, ⟨t4, p4, b2⟩⟩ := b
  exact ⟨⟨t3, p3, (h.cell (cellT_lt a1)).trans b1⟩, ⟨t4, p4, (h.cell (cellT_lt a2)).trans b2⟩⟩
instance T.drewN (w : World) (n : Nat) [T w] : T (w.drewN n) := T.below (w0 := w) (below_drewN w n)
instance T.alloc (w : World) (o : Obj) [T w] : T (w.alloc o) := T.below (w0 := w) (below_alloc w o)
end Go.Proofs.YtmfcepfagbkceaaGreatDoor
namespace Go.Proofs.YtmfcepfagbkceaaGreatDoor
set_option linter.unusedSimpArgs false
set_option linter.unusedVariables false
set_option maxRecDepth 100000
open Go.RowKit Go.Deep
def greatB (n : Nat) : Bool := decide (200 < n) && decide (n ≤ 65536) || decide (65539 < n)
theorem great_any (s : Bs) (hs : s.length ≤ maxLen) (r : Bool) (hr : greatB s.length = r) (w : World) :
    Calls Tryz.prog 10 #[sV s] w fun e w' => e = .returned (.bool r) ∧ w' = w := by
  obtain ⟨b, hb⟩ : ∃ b, baL s = b := ⟨_, rfl⟩
  obtain ⟨n, hn⟩ : ∃ n, s.length = n := ⟨_, rfl⟩
  have hsz : b.size = n := by rw [← hb, baL_size, hn]
  rw [hn] at hr
  show Calls Tryz.prog _ #[.string (baL s)] w _
  rw [hb]
  unfold greatB at hr
  clear hb hn hs
  by_cases h1 : 200 < n
  · by_cases h2 : n ≤ 65536
    · have e : r = true := by rw [← hr, decide_eq_true h1, decide_eq_true h2]; rfl
      subst e
      have t1 : decide ((200 : Int) < (n : Int)) = true := decide_eq_true (by omega)
      have t2 : decide ((n : Int) ≤ 65536) = true := decide_eq_true (by omega)
      clear hr
      go_enter Tryz.func10, Tryz.ntmps10
      go_wp2
      go_ret
      exact ⟨rfl, rfl⟩
    · have t2 : decide ((n : Int) ≤ 65536) = false := decide_eq_false (by omega)
      have t1 : decide ((200 : Int) < (n : Int)) = true := decide_eq_true (by omega)
      by_cases h3 : 65539 < n
      · have e : r = true := by rw [← hr, decide_eq_true h3, Bool.or_true]
        subst e
        have t3 : decide ((65539 : Int) < (n : Int)) = true := decide_eq_true (by omega)
        clear hr
        go_enter Tryz.func10, Tryz.ntmps10
        go_wp2
        go_ret
        exact ⟨rfl, rfl⟩
      · have e : r = false := by rw [← hr, decide_eq_false h2, decide_eq_false h3, Bool.and_false]; rfl
        subst e
        have t3 : decide ((65539 : Int) < (n : Int)) = false := decide_eq_false (by omega)
        clear hr
        go_enter Tryz.func10, Tryz.ntmps10
        go_wp2
        go_ret
        exact ⟨rfl, rfl⟩
  · have e : r = false := by rw [← hr, decide_eq_false h1, Bool.false_and, Bool.false_or]; exact decide_eq_false (by omega)
    subst e
    have t1 : decide ((200 : Int) < (n : Int)) = false := decide_eq_false (by omega)
    have t3 : decide ((65539 : Int) < (n : Int)) = false := decide_eq_false (by omega)
    clear hr
    go_enter Tryz.func10, Tryz.ntmps10
    go_wp2
    go_ret
    exact ⟨rfl, rfl⟩
end Go.Proofs.YtmfcepfagbkceaaGreatDoor
namespace Go.Proofs.YtmfcepfagbkceaaGreatDoor
set_option linter.unusedSimpArgs false
set_option linter.unusedVariables false
set_option maxRecDepth 100000
open Go.RowKit Go.Deep
end Go.Proofs.YtmfcepfagbkceaaGreatDoor
