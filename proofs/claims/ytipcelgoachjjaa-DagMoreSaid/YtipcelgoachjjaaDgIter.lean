/- The iterator leaving: the links that leave a node. -/
import Derived.RangeFuncNested
import Derived.RangeFuncBound
import Derived.RangeFuncCalls
import Derived.RangeFuncLeaves
import Derived.RangeFuncBox
import Derived.Shelf.Abstract
import Derived.Shelf.RegionOpen
import Derived.OwnWalkIn
import Derived.TacticsInMore
import Derived.LoopNIn
import Derived.LoopIn
import Derived.Maps.AppendAt
import Derived.Laws.EntriesVeiled
import Derived.Test.YtipcelgoachjjaaDgGraph
namespace Go.Proofs.Ytipcelgoachjjaa
set_option linter.unusedSimpArgs false
set_option linter.unusedVariables false
set_option maxRecDepth 100000
open Go.RowKit Go.Shelf Go.Deep
theorem wide_fn (k : FuncId) : Fence.wide.fn k = True := rfl
attribute [local go_sem] Oper.semAt_some wide_fn

theorem LinksAt.belowM {M : Nat} {W W' : World} {v : Value} {ls : List LkV} (h : LinksAt W v ls) (hM : M = W.heap.size) (hB : Below M W W') : LinksAt W' v ls := by subst hM; exact h.below hB
/-- what lay below M and two boxes are as they were -/
structure Kept (M g b : Nat) (A B : World) : Prop where
  below : Below M A B
  bg : B.heap[g]? = A.heap[g]?
  bb : B.heap[b]? = A.heap[b]?
theorem Kept.refl (M g b : Nat) (A : World) : Kept M g b A A := ⟨Below.refl _ _, rfl, rfl⟩
theorem Kept.trans {M g b : Nat} {A B C : World} (h : Kept M g b A B) (k : Kept M g b B C) : Kept M g b A C := ⟨h.below.trans k.below, k.bg.trans h.bg, k.bb.trans h.bb⟩
theorem Kept.of_below {M N g b : Nat} {A B : World} (h : Below N A B) (hM : M ≤ N) (hg : g < N) (hb : b < N) : Kept M g b A B := ⟨h.mono hM, h.block g hg, h.block b hb⟩
theorem Kept.setCell {M g b : Nat} {A B : World} (h : Kept M g b A B) {p : Addr} (hM : M ≤ p.block) (hg : p.block ≠ g) (hb : p.block ≠ b) (u : Value) : Kept M g b A (B.setCell p u) :=
  ⟨h.below.setCell hM u, (Below.heap_setCell _ _ _ _ (fun e => hg e.symm)).trans h.bg, (Below.heap_setCell _ _ _ _ (fun e => hb e.symm)).trans h.bb⟩
theorem Kept.grown {M g b : Nat} {A B : World} {row : Option Nat} (h : A.grownBy B row) (hM : M ≤ A.heap.size) (hg : g < A.heap.size) (hb : b < A.heap.size) (hr : ∀ k, row = some k → M ≤ k ∧ k ≠ g ∧ k ≠ b) : Kept M g b A B :=
  ⟨(Below.refl _ _).grown h hM (fun k e => (hr k e).1), h.block g hg (fun e => (hr g e.symm).2.1 rfl), h.block b hb (fun e => (hr b e.symm).2.2 rfl)⟩
theorem keptK_b {M g b : Nat} {w : World} (hM : M ≤ w.heap.size) (hg : g < w.heap.size) (hb : b < w.heap.size) (W : World) (l : Nat) (o o' : Obj) (hl : w.heap.size ≤ l) (h : W.heap[l]? = some o) (_ : o.isCells = false) (_ : o.isWalk = false) : Kept M g b W (W.putObj l o') := by
  have h1 := (Array.getElem?_eq_some_iff.1 h).1
  exact Kept.grown (grownBy_putObj' W l o') (by omega) (by omega) (by omega) (fun k e => by cases e; exact ⟨by omega, by omega, by omega⟩)
theorem Kept.boxg {M g b : Nat} {A B : World} (h : Kept M g b A B) : ∀ i, B.cell? ⟨g, i, none⟩ = A.cell? ⟨g, i, none⟩ := fun i => World.cell?_of_block (a := ⟨g, i, none⟩) h.bg
theorem Kept.boxb {M g b : Nat} {A B : World} (h : Kept M g b A B) : ∀ i, B.cell? ⟨b, i, none⟩ = A.cell? ⟨b, i, none⟩ := fun i => World.cell?_of_block (a := ⟨b, i, none⟩) h.bb
abbrev encL (ls : List LkV) (i : Nat) : Array Value := #[intV i, lkV (lk ls i)]
theorem take_pre {α : Type} (l : List α) (k : Nat) : l.take k <+: l := List.take_prefix k l

set_option maxHeartbeats 4000000 in
theorem leaving1_in (l : Nat) (n : Nat) (ls : List LkV) (hg : Gr n ls) (s : Nat) (hs : s < n) (v u : Value) (W0 : World) (hv : LinksAt W0 v ls) (hu : ListsAt W0 u (outs n ls)) (M g b : Nat) (hM : M = W0.heap.size) (w : World) (hw : Below M W0 w)
    (hg0 : w.cell? ⟨g, 0, none⟩ = some v) (hg1 : w.cell? ⟨g, 1, none⟩ = some u) (hb0 : w.cell? ⟨b, 0, none⟩ = some (intV s)) (J Jx : List Nat → World → Prop)
    (hY : ∀ pre x W, x ∈ out ls s → J pre W → pre.length < (out ls s).length → YieldAt Fence.wide 7 Try.prog l (encL ls x) W fun e W' =>
      (e = .returned (.bool true) ∧ J (pre ++ [x]) W' ∧ Kept M g b W W') ∨ (e = .returned (.bool false) ∧ Jx (pre ++ [x]) W'))
    (W : World) (hW : Kept M g b w W) (h0 : J [] W) :
    CallsIn Fence.wide 8 Try.prog 59 #[.func (.yield l) #[] #[], .pointer (some ⟨g, 0, none⟩), .pointer (some ⟨b, 0, none⟩)] W fun e W' => (∃ v, e = .returned v) ∧
      ((∃ ys, ys = out ls s ∧ J ys W') ∨ (∃ pre, pre <+: out ls s ∧ Jx pre W')) := by
  subst hM
  have hlen := hg.len
  have hol := out_len (ls := ls) (s := s)
  have HV := Lib.hid hv
  have HU := Lib.hid hu
  have HW0 := Lib.hid hw
  obtain ⟨av, cv, rfl⟩ := hv.slice
  obtain ⟨au, cu, rfl, _⟩ := id hu
  obtain ⟨bu, ou, xu, cx, rfl, hbu, q1, q2⟩ := hu.elem (j := s) (by rw [outs_len]; exact hs)
  have HX := Lib.hid q2
  have e0 : (outs n ls)[s]'(by rw [outs_len]; exact hs) = (out ls s).map fun i : Nat => (i : Int) := outs_get n ls _
  rw [e0] at q1 HX
  have HBU := Lib.hid hbu
  rw [List.length_map] at q1
  rw [outs_len] at *
  have cg0 := (hW.boxg 0).trans hg0
  have cg1 := (hW.boxg 1).trans hg1
  have cb0 := (hW.boxb 0).trans hb0
  have cu1 := ((hw.trans hW.below).cell (p := ⟨bu, ou + s, none⟩) hbu).trans q1
  have HG0 := Lib.hid (And.intro hg0 (And.intro hg1 hb0))
  clear hg0 hg1 hb0 q1 q2 e0 hv hu hw hbu
  refine callsIn_of_wp Try.func59 rfl trivial ?_ rfl
  simp only [Try.ntmps59, List.size_toArray, List.length_cons, List.length_nil, Nat.reduceAdd, Nat.reduceSub, Array.replicate_succ, Array.replicate_zero, List.push_toArray, List.append_toArray, List.nil_append, List.cons_append]
  gi_wp2
  clear cg0 cg1 cb0 cu1
  gi_loopw [12] (fun i wr => ∃ k : Nat, k ≤ (out ls s).length ∧ i = .int .i64 k ∧ J ((out ls s).take k) wr ∧ Kept W0.heap.size g b w wr) (fun i _ => (out ls s).length - (intOf i).toNat)
  case atStart => exact ⟨0, Nat.zero_le _, rfl, by simpa using h0, hW⟩
  case round =>
    obtain ⟨k, hk, rfl, hJk, hB⟩ := hrel
    obtain ⟨wk, rfl⟩ : ∃ x, x = wr := ⟨_, rfl⟩
    by_cases hlt : k < (out ls s).length
    · obtain ⟨i, hi⟩ : ∃ i, (out ls s)[k] = i := ⟨_, rfl⟩
      have hil : i < ls.length := by have := (mem_out.1 (List.getElem_mem hlt)).1; omega
      have HT := Lib.hid (List.take_succ_eq_append_getElem hlt)
      rw [hi] at HT
      have HP := Lib.hid (take_pre (out ls s) (k + 1))
      obtain ⟨bx, ox, rfl, hbx, q1⟩ := HX.out.elem (j := k) (by simpa using hlt)
      have q1' : W0.cell? ⟨bx, ox + k, none⟩ = some (intV i) := by simpa [hi] using q1
      have cx := ((HW0.out.trans hB.below).cell (p := ⟨bx, ox + k, none⟩) hbx).trans q1'
      obtain ⟨bl, ol, rfl, hbl, p1, p2, p3⟩ := HV.out.elem hil
      have cl1 := ((HW0.out.trans hB.below).cell (p := ⟨bl, ol + i * 3, none⟩) hbl).trans p1
      have cl2 := ((HW0.out.trans hB.below).cell (p := ⟨bl, ol + i * 3 + 1, none⟩) hbl).trans p2
      have cl3 := ((HW0.out.trans hB.below).cell (p := ⟨bl, ol + i * 3 + 2, none⟩) hbl).trans p3
      have cg0 := (hB.boxg 0).trans HG0.out.1
      obtain ⟨fn, tmps, assign, body, hy, hR⟩ := hY _ i _ (hi ▸ List.getElem_mem hlt) hJk (by rw [List.length_take]; omega)
      dsimp only [encL, lkV] at hy
      obtain ⟨lf, hlf⟩ : ∃ x, (lk ls i).f = x := ⟨_, rfl⟩
      obtain ⟨lt, hlt'⟩ : ∃ x, (lk ls i).t = x := ⟨_, rfl⟩
      obtain ⟨lc, hlc⟩ : ∃ x, (lk ls i).c = x := ⟨_, rfl⟩
      rw [hlf, hlt', hlc] at hy
      rw [hlf] at cl1
      rw [hlt'] at cl2
      rw [hlc] at cl3
      have HB := Lib.hid hB
      have hkm : (List.map (fun i : Nat => (i : Int)) (out ls s)).length = (out ls s).length := List.length_map _
      clear hJk hB q1 q1' p1 p2 p3 hlf hlt' hlc hi hbx hbl
      rw [hkm] at *
      gi_wp2
      refine hR.mono ?_
      rintro e W3 (⟨rfl, hJ3, hk3⟩ | ⟨rfl, hJx3⟩)
      · have HK := Lib.hid (HB.out.trans hk3)
        clear hk3
        gi_wp2
        go_roundw
        case rel => exact ⟨k + 1, by omega, by go_num, by rw [HT.out]; exact hJ3, HK.out⟩
        case measure => simp [intOf]; omega
      · gi_wp2
        refine bodyPost_ret (results_none rfl _ _ _) rfl ?_
        refine ⟨⟨_, rfl⟩, .inr ⟨_, ?_, hJx3⟩⟩
        rw [← HT.out]; exact HP.out
    · obtain rfl : k = (out ls s).length := by omega
      have hJe : J (out ls s) wk := by simpa using hJk
      have hkm : (List.map (fun i : Nat => (i : Int)) (out ls s)).length = (out ls s).length := List.length_map _
      rw [hkm] at *
      clear hJk
      gi_wp2
      go_end0
      exact ⟨⟨_, rfl⟩, .inl hJe⟩

set_option maxHeartbeats 1000000 in
theorem leaving_any (v u : Value) (hv : v.oneCell' = true) (hu : u.oneCell' = true) (s : Nat) (w : World) :
    Calls Try.prog 51 #[.agg #[v, u], intV s] w fun e w' => e = .returned (.func (.func 59) #[] #[.pointer (some ⟨w.heap.size, 0, none⟩), .pointer (some ⟨w.heap.size + 1, 0, none⟩)]) ∧ w' = (w.alloc (.cells #[v, u] 57)).alloc (.cells #[intV s] 3) := by
  go_enter Try.func51, Try.ntmps51
  go_wp2
  go_ret
  exact ⟨rfl, rfl⟩
/-- the links that leave s -/
abbrev Lv (ls : List LkV) (s : Int) := { i : Nat // i ∈ out ls s }
def raw {ls : List LkV} {s : Int} (l : List (Lv ls s)) : List Nat := l.map Subtype.val
theorem raw_snoc {ls : List LkV} {s : Int} (l : List (Lv ls s)) (x : Lv ls s) : raw (l ++ [x]) = raw l ++ [x.1] := by simp [raw]
theorem raw_len {ls : List LkV} {s : Int} (l : List (Lv ls s)) : (raw l).length = l.length := by simp [raw]
theorem raw_mem {ls : List LkV} {s : Int} (l : List (Lv ls s)) : ∀ i ∈ raw l, i ∈ out ls s := fun i h => by
  obtain ⟨x, _, rfl⟩ := List.mem_map.1 h
  exact x.2
theorem leaving_stops (n : Nat) (ls : List LkV) (hg : Gr n ls) (s : Nat) (hs : s < n) (v u : Value) (W0 : World) (hv : LinksAt W0 v ls) (hu : ListsAt W0 u (outs n ls)) (M g b : Nat) (hM : M = W0.heap.size) (w : World) (hw : Below M W0 w)
    (hgl : g < w.heap.size) (hbl : b < w.heap.size) (hg0 : w.cell? ⟨g, 0, none⟩ = some v) (hg1 : w.cell? ⟨g, 1, none⟩ = some u) (hb0 : w.cell? ⟨b, 0, none⟩ = some (intV s)) :
    SeqStopsK Fence.wide 8 Try.prog 59 #[.pointer (some ⟨g, 0, none⟩), .pointer (some ⟨b, 0, none⟩)] (fun x : Lv ls s => encL ls x.1) (Kept M g b) (fun ys => raw ys = out ls s) (fun pre => raw pre <+: out ls s) (out ls s).length w := fun l J Jx W hW hJ _ hY h0 =>
  (leaving1_in l n ls hg s hs v u W0 hv hu M g b hM w hw hg0 hg1 hb0 (fun l W => ∃ k : List (Lv ls s), raw k = l ∧ J k W) (fun l W => ∃ k : List (Lv ls s), raw k = l ∧ Jx k W)
    (fun pre x W1 hx hj hlen => by
      obtain ⟨k, rfl, hk⟩ := hj
      refine (hY k ⟨x, hx⟩ W1 hk (by rw [← raw_len]; exact hlen)).mono ?_
      rintro e W2 (⟨h1, h2, h3⟩ | ⟨h1, h2⟩)
      · exact .inl ⟨h1, ⟨_, raw_snoc _ _, h2⟩, h3⟩
      · exact .inr ⟨h1, ⟨_, raw_snoc _ _, h2⟩⟩)
    W (Kept.of_below hW (by rw [hM]; exact hw.size) hgl hbl) ⟨[], rfl, h0⟩).mono fun e W' h => by
      obtain ⟨h1, (⟨ys, rfl, k, h2, h3⟩ | ⟨pre, h2, k, rfl, h3⟩)⟩ := h
      · exact ⟨h1, .inl ⟨k, h2, h3⟩⟩
      · exact ⟨h1, .inr ⟨k, h2, h3⟩⟩
end Go.Proofs.Ytipcelgoachjjaa
