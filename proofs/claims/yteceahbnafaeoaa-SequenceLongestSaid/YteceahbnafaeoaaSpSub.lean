/- Subsequences that share their rests, in memory; what they weigh, the iterator over their indices. -/
import Derived.RangeFuncNested
import Derived.RangeFuncBound
import Derived.RangeFuncCalls
import Derived.RangeFuncLeaves
import Derived.RangeFuncBox
import Derived.Shelf.Abstract
import Derived.Shelf.RegionOpen
import Derived.OwnWalkIn
import Derived.TacticsInMore
import Derived.LoopNIn
import Derived.LoopIn
import Derived.Maps.AppendAt
import Derived.Deep.OwnRows
import Derived.Test.YteceahbnafaeoaaSpSmall
namespace Go.Proofs.Yteceahbnafaeoaa
set_option linter.unusedSimpArgs false
set_option linter.unusedVariables false
set_option maxRecDepth 100000
open Go.RowKit Go.Shelf Go.Deep
theorem wide_fn (k : FuncId) : Fence.wide.fn k = True := rfl
attribute [local go_sem] Oper.semAt_some wide_fn

/-- a subsequence in memory -/
def SubAt (W : World) : Option Addr → List It → Prop
  | p, [] => p = none
  | p, c :: s => ∃ b q, p = some ⟨b, 0, none⟩ ∧ W.heap[b]? = some (Obj.cells #[intV c.i, .pointer q, intV (wt (c :: s) : Nat)] 82 (0, 0)) ∧ SubAt W q s
/-- what is kept of subsequences -/
def SubKeeps (W W' : World) : Prop := ∀ (b : Nat) (c : Array Value), W.heap[b]? = some (Obj.cells c 82 (0, 0)) → W'.heap[b]? = some (Obj.cells c 82 (0, 0))
theorem SubKeeps.refl (W : World) : SubKeeps W W := fun _ _ h => h
theorem SubKeeps.trans {W W1 W2 : World} (h : SubKeeps W W1) (h2 : SubKeeps W1 W2) : SubKeeps W W2 := fun b c hb => h2 b c (h b c hb)
theorem SubKeeps.of_below {W W' : World} (hB : Below W.heap.size W W') : SubKeeps W W' := fun b c hb => by
  have hlt : b < W.heap.size := by
    rcases Nat.lt_or_ge b W.heap.size with g | g
    · exact g
    · rw [Array.getElem?_eq_none g] at hb; cases hb
  rw [hB.block b hlt]; exact hb
theorem SubAt.kept {W W' : World} (hk : SubKeeps W W') : ∀ {s : List It} {p : Option Addr}, SubAt W p s → SubAt W' p s
  | [], _, h => h
  | _ :: _, _, ⟨b, q, e, h, r⟩ => ⟨b, q, e, hk _ _ h, SubAt.kept hk r⟩
theorem SubAt.below {W W' : World} (hB : Below W.heap.size W W') {s : List It} {p : Option Addr} (h : SubAt W p s) : SubAt W' p s := h.kept (SubKeeps.of_below hB)
theorem SubKeeps.store {W : World} {r c m : Nat} {e : TypeId} {f : Nat → Value} {x : Value} (hr : W.rowIs r e m f) (hne : e ≠ 82) : SubKeeps W (W.setCell ⟨r, c, none⟩ x) := fun b d hb => by
  have hne2 : b ≠ r := by
    intro e0
    obtain ⟨k, hk, _⟩ := hr
    rw [e0, hk] at hb
    simp only [Option.some.injEq, Obj.cells.injEq] at hb
    exact hne hb.2.1
  rw [Below.heap_setCell W ⟨r, c, none⟩ x b hne2]; exact hb
theorem SubAt.cell {W : World} {c : It} {s : List It} {p : Option Addr} (h : SubAt W p (c :: s)) :
    ∃ b q, p = some ⟨b, 0, none⟩ ∧ b < W.heap.size ∧ SubAt W q s ∧ W.cell? ⟨b, 0, none⟩ = some (intV c.i) ∧ W.cell? ⟨b, 1, none⟩ = some (.pointer q) ∧ W.cell? ⟨b, 2, none⟩ = some (intV (wt (c :: s) : Nat)) := by
  obtain ⟨b, q, e, h, r⟩ := h
  refine ⟨b, q, e, ?_, r, ?_, ?_, ?_⟩
  · rcases Nat.lt_or_ge b W.heap.size with g | g
    · exact g
    · rw [Array.getElem?_eq_none g] at h; cases h
  all_goals simp only [World.cell?, h]; rfl
theorem sumP_any (p : Option Addr) (s : List It) (w : World) (h : SubAt w p s) :
    Calls Try.prog 56 #[.pointer p] w fun e w' => e = .returned (intV (wt s : Nat)) ∧ w' = w := by
  cases s with
  | nil =>
    obtain rfl : p = none := h
    go_enter Try.func56, Try.ntmps56
    go_wp2
    go_ret
    exact ⟨rfl, rfl⟩
  | cons c s =>
    obtain ⟨b, q, rfl, hb, _, _, _, c2⟩ := h.cell
    obtain ⟨n, hn⟩ : ∃ n, wt (c :: s) = n := ⟨_, rfl⟩
    rw [hn] at c2 ⊢
    clear hn h
    go_enter Try.func56, Try.ntmps56
    go_wp2
    go_ret
    exact ⟨rfl, rfl⟩
/-- how long the chain behind a pointer is -/
def chLen (W : World) : Nat → Option Addr → Nat
  | 0, _ => 0
  | _ + 1, none => 0
  | n + 1, some a => match W.cell? ⟨a.block, 1, none⟩ with | some (.pointer q) => chLen W n q + 1 | _ => 0
theorem chLen_is {W : World} : ∀ {s : List It} {p : Option Addr} (n : Nat), s.length ≤ n → SubAt W p s → chLen W n p = s.length
  | [], p, n, _, h => by
    have h : p = none := h
    subst h
    cases n <;> rfl
  | c :: s, p, 0, hn, _ => by simp at hn
  | c :: s, p, n + 1, hn, h => by
    obtain ⟨b, q, rfl, _, hq, _, c1, _⟩ := h.cell
    show (match W.cell? ⟨b, 1, none⟩ with | some (.pointer q) => chLen W n q + 1 | _ => 0) = _
    rw [c1]
    show chLen W n q + 1 = _
    rw [chLen_is n (by simpa using hn) hq]; rfl
def ptrOf : Value → Option Addr
  | .pointer p => p
  | _ => none
abbrev encN (x : Nat) : Array Value := #[intV x]
theorem grown_drewN (w : World) (n : Nat) (row : Option Nat) : w.grownBy (w.drewN n) row := ⟨rfl, rfl, rfl, Nat.le_refl _, fun _ _ _ => rfl⟩
abbrev isOf (s : List It) : List Nat := s.map (·.i)
theorem indices_any (p : Option Addr) (w : World) :
    Calls Try.prog 48 #[.pointer p] w fun e w' => e = .returned (.func (.func 68) #[] #[.pointer (some ⟨w.heap.size, 0, none⟩)]) ∧ w' = w.alloc (.cells #[.pointer p] 58) := by
  go_enter Try.func48, Try.ntmps48
  go_wp2
  go_ret
  exact ⟨rfl, rfl⟩
set_option maxHeartbeats 2000000 in
theorem indices1_in (l B : Nat) (s : List It) (p0 : Option Addr) (w : World) (hB : B < w.heap.size) (hc : w.cell? ⟨B, 0, none⟩ = some (.pointer p0)) (hs : SubAt w p0 s) (J Jx : List Nat → World → Prop)
    (hJ : ∀ s W m, J s W → J s (W.drewN m))
    (hY : ∀ pre x W, J pre W → pre.length < s.length → YieldAt Fence.wide 7 Try.prog l (encN x) W fun e W' =>
      (e = .returned (.bool true) ∧ J (pre ++ [x]) W' ∧ Below w.heap.size W W') ∨ (e = .returned (.bool false) ∧ Jx (pre ++ [x]) W'))
    (W : World) (hW : Below w.heap.size w W) (h0 : J [] W) :
    CallsIn Fence.wide 8 Try.prog 68 #[.func (.yield l) #[] #[], .pointer (some ⟨B, 0, none⟩)] W fun e W' => (∃ v, e = .returned v) ∧
      ((∃ ys, ys = isOf s ∧ J ys W') ∨ (∃ pre, pre <+: isOf s ∧ Jx pre W')) := by
  have hcW : W.cell? ⟨B, 0, none⟩ = some (.pointer p0) := (hW.cell (p := ⟨B, 0, none⟩) hB).trans hc
  have HS := Lib.hid hs
  clear hc hs
  refine callsIn_of_wp Try.func68 rfl trivial ?_ rfl
  simp only [Try.ntmps68, List.size_toArray, List.length_cons, List.length_nil, Nat.reduceAdd, Nat.reduceSub, Array.replicate_succ, Array.replicate_zero, List.push_toArray, List.append_toArray, List.nil_append, List.cons_append]
  gi_wp2
  clear hcW
  gi_loopw [3] (fun v wr => ∃ (pre t : List It) (p : Option Addr), pre ++ t = s ∧ v = .pointer p ∧ SubAt w p t ∧ J (isOf pre) wr ∧ Below w.heap.size w wr) (fun v _ => chLen w s.length (ptrOf v))
  case atStart => exact ⟨[], s, p0, rfl, rfl, HS.out, h0, hW⟩
  case round =>
    obtain ⟨pre, t, p, hpt, rfl, ht, hJk, hBk⟩ := hrel
    obtain ⟨wk, rfl⟩ : ∃ x, x = wr := ⟨_, rfl⟩
    have HPT := Lib.hid hpt
    cases t with
    | nil =>
      obtain rfl : p = none := ht
      have e : pre = s := by simpa using hpt
      subst e
      clear hpt
      gi_wp2
      go_end0
      exact ⟨⟨_, rfl⟩, .inl ⟨_, rfl, hJk⟩⟩
    | cons c t =>
      have HM := Lib.hid (chLen_is (W := w) s.length (by rw [← hpt, List.length_append]; omega) ht)
      obtain ⟨b, q, rfl, hbb, hq, c0, c1, _⟩ := ht.cell
      have HM2 := Lib.hid (chLen_is (W := w) s.length (by rw [← hpt, List.length_append, List.length_cons]; omega) hq)
      have HQ := Lib.hid hq
      have HBB := Lib.hid (And.intro hbb c1)
      have HLE := Lib.hid (show (isOf pre).length < s.length by rw [← hpt]; simp)
      have HIS := Lib.hid (show isOf s = isOf pre ++ c.i :: isOf t by rw [← hpt]; simp [isOf])
      have d0 : wk.cell? ⟨b, 0, none⟩ = some (intV c.i) := (hBk.cell (p := ⟨b, 0, none⟩) hbb).trans c0
      obtain ⟨fn, tmps, assign, body, hy, hR⟩ := hY _ c.i _ hJk HLE.out
      dsimp only [encN] at hy
      have HB := Lib.hid hBk
      clear hpt ht hq hbb c0 c1 hBk hJk
      gi_wp2
      refine hR.mono ?_
      rintro e W3 (⟨rfl, hJ3, hk3⟩ | ⟨rfl, hJx3⟩)
      · have HK := Lib.hid (HB.out.trans hk3)
        have d1 : W3.cell? ⟨b, 1, none⟩ = some (.pointer q) := (HK.out.cell (p := ⟨b, 1, none⟩) HBB.out.1).trans HBB.out.2
        clear hk3 d0 hy
        gi_wp2
        go_roundw
        case rel => exact ⟨pre ++ [c], t, q, by rw [← HPT.out]; simp, rfl, HQ.out, by simpa [isOf] using hJ3, HK.out⟩
        case measure =>
          show chLen w s.length q < chLen w s.length (some ⟨b, 0, none⟩)
          rw [HM.out, HM2.out, List.length_cons]; omega
      · gi_wp2
        refine bodyPost_ret (results_none rfl _ _ _) rfl ?_
        exact ⟨⟨_, rfl⟩, .inr ⟨_, ⟨isOf t, by rw [HIS.out]; simp⟩, hJx3⟩⟩
theorem indices_stops (B : Nat) (s : List It) (p0 : Option Addr) (w : World) (hB : B < w.heap.size) (hc : w.cell? ⟨B, 0, none⟩ = some (.pointer p0)) (hs : SubAt w p0 s) :
    SeqStopsK Fence.wide 8 Try.prog 68 #[.pointer (some ⟨B, 0, none⟩)] encN (Below w.heap.size) (fun ys => ys = isOf s) (fun pre => pre <+: isOf s) s.length w := fun l J Jx W hW hJ _ hY h0 =>
  indices1_in l B s p0 w hB hc hs J Jx (fun s W m h => hJ s W _ none h (grown_drewN _ _ _) (fun r e => by cases e)) hY W hW h0
end Go.Proofs.Yteceahbnafaeoaa
