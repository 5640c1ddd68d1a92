/- The iterator members, and Collect over it. -/
import Derived.RangeFuncNested
import Derived.RangeFuncBound
import Derived.RangeFuncCalls
import Derived.RangeFuncLeaves
import Derived.RangeFuncBox
import Derived.Shelf.Abstract
import Derived.Shelf.RegionOpen
import Derived.OwnWalkIn
import Derived.TacticsInMore
import Derived.LoopNIn
import Derived.LoopIn
import Derived.Maps.AppendAt
import Derived.Test.YtdplcpnahahkaaaIsMark
namespace Go.Proofs.Ytdplcpnahahkaaa
set_option linter.unusedSimpArgs false
set_option linter.unusedVariables false
set_option maxRecDepth 100000
open Go.RowKit Go.Shelf
theorem wide_fn (k : FuncId) : Fence.wide.fn k = True := rfl
attribute [local go_sem] Oper.semAt_some wide_fn

def selN (n : Nat) (p : Nat → Bool) : List Nat := (List.range n).filter p
theorem selN_int (n : Nat) (p : Nat → Bool) : (selN n p).map (fun x : Nat => (x : Int)) = sel n p := rfl
theorem selN_succ (n : Nat) (p : Nat → Bool) : selN (n + 1) p = if p n = true then selN n p ++ [n] else selN n p := by
  rw [selN, List.range_succ, List.filter_append]
  by_cases h : p n = true
  · rw [if_pos h, List.filter_cons_of_pos h]; rfl
  · rw [if_neg h, List.filter_cons_of_neg h]; simp [selN]
theorem selN_len (n : Nat) (p : Nat → Bool) : (selN n p).length ≤ n := Nat.le_trans (List.length_filter_le _ _) (by simp)
theorem selN_pre (p : Nat → Bool) {k n : Nat} (h : k ≤ n) : selN k p <+: selN n p := by
  obtain ⟨m, rfl⟩ : ∃ m, n = k + m := ⟨n - k, by omega⟩
  clear h
  induction m with
  | zero => exact List.prefix_refl _
  | succ m ih =>
    rw [← Nat.add_assoc, selN_succ]
    split
    · exact ih.trans (List.prefix_append _ _)
    · exact ih
abbrev encN (x : Nat) : Array Value := #[intV x]
theorem grown_drewN (w : World) (n : Nat) (row : Option Nat) : w.grownBy (w.drewN n) row := ⟨rfl, rfl, rfl, Nat.le_refl _, fun _ _ _ => rfl⟩

/-- a function value of what it holds: it answers p for the integers below n, and reads only -/
def Picks (W : World) (fe : Nat) (bs cs : Array Value) (n : Nat) (p : Nat → Bool) : Prop :=
  ∀ W', Below W.heap.size W W' → ∀ i : Nat, i < n → Calls Try.prog fe (bs.push (intV i) ++ cs) W' fun e W'' => e = .returned (.bool (p i)) ∧ ∃ m, W'' = W'.drewN m

set_option maxHeartbeats 2000000 in
theorem members1_in (l Bn Bs : Nat) (n : Nat) (hn : n ≤ 64) (p : Nat → Bool) (fe : Nat) (bs cs : Array Value) (hce : ∀ args W, Sem.run Try.prog (callFunc fe args) W = .ok (.enter fe args) W) (w : World) (hlB : Bn < w.heap.size) (hls : Bs < w.heap.size)
    (hcn : w.cell? ⟨Bn, 0, none⟩ = some (intV n)) (hcs : w.cell? ⟨Bs, 0, none⟩ = some (.func (.func fe) bs cs)) (hP : Picks w fe bs cs n p) (J Jx : List Nat → World → Prop)
    (hJ : ∀ s W m, J s W → J s (W.drewN m))
    (hY : ∀ pre x W, J pre W → pre.length < n → YieldAt Fence.wide 7 Try.prog l (encN x) W fun e W' =>
      (e = .returned (.bool true) ∧ J (pre ++ [x]) W' ∧ Below w.heap.size W W') ∨ (e = .returned (.bool false) ∧ Jx (pre ++ [x]) W'))
    (W : World) (hW : Below w.heap.size w W) (h0 : J [] W) :
    CallsIn Fence.wide 8 Try.prog 73 #[.func (.yield l) #[] #[], .pointer (some ⟨Bn, 0, none⟩), .pointer (some ⟨Bs, 0, none⟩)] W fun e W' => (∃ v, e = .returned v) ∧
      ((∃ ys, ys = selN n p ∧ J ys W') ∨ (∃ pre, pre <+: selN n p ∧ Jx pre W')) := by
  have hcnW : W.cell? ⟨Bn, 0, none⟩ = some (intV n) := (hW.cell (p := ⟨Bn, 0, none⟩) hlB).trans hcn
  have HCS := Lib.hid hcs
  clear hcn hcs
  refine callsIn_of_wp Try.func73 rfl trivial ?_ rfl
  simp only [Try.ntmps73, List.size_toArray, List.length_cons, List.length_nil, Nat.reduceAdd, Nat.reduceSub, Array.replicate_succ, Array.replicate_zero, List.push_toArray, List.append_toArray, List.nil_append, List.cons_append]
  gi_wp2
  clear hcnW
  gi_loopw [6] (fun i wr => ∃ k : Nat, k ≤ n ∧ i = .int .i64 k ∧ J (selN k p) wr ∧ Below w.heap.size w wr) (fun i _ => n - (intOf i).toNat)
  case atStart => exact ⟨0, Nat.zero_le _, rfl, by simpa [selN] using h0, hW⟩
  case round =>
    obtain ⟨k, hk, rfl, hJk, hB⟩ := hrel
    obtain ⟨wk, rfl⟩ : ∃ x, x = wr := ⟨_, rfl⟩
    by_cases hlt : k < n
    · have hcs' : wk.cell? ⟨Bs, 0, none⟩ = some (.func (.func fe) bs cs) := (hB.cell (p := ⟨Bs, 0, none⟩) hls).trans HCS.out
      have hsel := hP wk hB k hlt
      have HS := Lib.hid (selN_succ k p)
      have HL := Lib.hid (selN_len k p)
      cases hp : p k
      · rw [hp] at hsel HS
        gi_wp2_with fail
        refine (callsIn_wide.2 hsel).mono ?_
        rintro e w1 ⟨rfl, m, rfl⟩
        have HJ := Lib.hid (hJ _ _ m hJk)
        have HB := Lib.hid (hB.trans (below_drewN_n w.heap.size wk m))
        clear hJk hB hsel hcs' HCS
        gi_wp2
        refine ⟨⟨k + 1, by omega, by go_num, by rw [HS.out]; exact HJ.out, HB.out⟩, ?_⟩
        simp [intOf]; omega
      · rw [hp] at hsel HS
        gi_wp2_with fail
        refine (callsIn_wide.2 hsel).mono ?_
        rintro e w1 ⟨rfl, m, rfl⟩
        obtain ⟨fn, tmps, assign, body, hy, hR⟩ := hY _ k _ (hJ _ _ m hJk) (by have := HL.out; omega)
        dsimp only [encN] at hy
        have HB := Lib.hid (hB.trans (below_drewN_n w.heap.size wk m))
        clear hJk hB hsel hcs' HCS
        gi_wp2
        refine hR.mono ?_
        rintro e W3 (⟨rfl, hJ3, hk3⟩ | ⟨rfl, hJx3⟩)
        · have HK := Lib.hid (HB.out.trans hk3)
          clear hk3
          gi_wp2
          go_roundw
          case rel => exact ⟨k + 1, by omega, by go_num, by rw [HS.out]; exact hJ3, HK.out⟩
          case measure => simp [intOf]; omega
        · gi_wp2
          refine bodyPost_ret (results_none rfl _ _ _) rfl ?_
          refine ⟨⟨_, rfl⟩, .inr ⟨_, ?_, hJx3⟩⟩
          have := selN_pre p (show k + 1 ≤ n by omega)
          rw [HS.out] at this
          simpa using this
    · obtain rfl : k = n := by omega
      gi_wp2
      go_end0
      exact ⟨⟨_, rfl⟩, .inl ⟨_, rfl, hJk⟩⟩

set_option maxHeartbeats 1000000 in
theorem members_any (n : Nat) (fe : Nat) (bs cs : Array Value) (w : World) :
    Calls Try.prog 67 #[intV n, .func (.func fe) bs cs] w fun e w' => e = .returned (.func (.func 73) #[] #[.pointer (some ⟨w.heap.size, 0, none⟩), .pointer (some ⟨w.heap.size + 1, 0, none⟩)]) ∧ w' = (w.alloc (.cells #[intV n] 3)).alloc (.cells #[.func (.func fe) bs cs] 48) := by
  go_enter Try.func67, Try.ntmps67
  go_wp2
  go_ret
  exact ⟨rfl, rfl⟩

/-- members hands back a value that stops -/
theorem members_stops (Bn Bs : Nat) (n : Nat) (hn : n ≤ 64) (p : Nat → Bool) (fe : Nat) (bs cs : Array Value) (hce : ∀ args W, Sem.run Try.prog (callFunc fe args) W = .ok (.enter fe args) W) (w : World) (hlB : Bn < w.heap.size) (hls : Bs < w.heap.size)
    (hcn : w.cell? ⟨Bn, 0, none⟩ = some (intV n)) (hcs : w.cell? ⟨Bs, 0, none⟩ = some (.func (.func fe) bs cs)) (hP : Picks w fe bs cs n p) :
    SeqStopsK Fence.wide 8 Try.prog 73 #[.pointer (some ⟨Bn, 0, none⟩), .pointer (some ⟨Bs, 0, none⟩)] encN (Below w.heap.size) (fun ys => ys = selN n p) (fun pre => pre <+: selN n p) n w := fun l J Jx W hW hJ _ hY h0 =>
  members1_in l Bn Bs n hn p fe bs cs hce w hlB hls hcn hcs hP J Jx (fun s W m h => hJ s W _ none h (grown_drewN _ _ _) (fun r e => by cases e)) hY W hW h0
end Go.Proofs.Ytdplcpnahahkaaa
