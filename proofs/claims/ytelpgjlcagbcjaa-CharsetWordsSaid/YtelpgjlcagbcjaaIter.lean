/- The iterator charset.characters: its contract, over every string. -/
import Derived.RangeFuncNested
import Derived.RangeFuncBound
import Derived.RangeFuncCalls
import Derived.RangeFuncLeaves
import Derived.RangeFuncBox
import Derived.Shelf.Abstract
import Derived.Shelf.RegionOpen
import Derived.WalkKit
import Derived.OwnWalkIn
import Derived.TacticsInMore
import Derived.LoopNIn
import Derived.LoopIn
import Derived.Test.YtelpgjlcagbcjaaSmall
namespace Go.Proofs.Ytelpgjlcagbcjaa
set_option linter.unusedSimpArgs false
set_option linter.unusedVariables false
open Go.RowKit Go.Shelf
theorem wide_fn (k : FuncId) : Fence.wide.fn k = True := rfl
attribute [local go_sem] Oper.semAt_some wide_fn

abbrev encP (p : UInt8 × ByteArray) : Array Value := #[.int .u8 p.1.toNat, .string p.2]
/-- the pairs of a string, the clusters as strings -/
def prs (l : List UInt8) : List (UInt8 × ByteArray) := (pairs l).map fun p => (p.1, ⟨p.2.toArray⟩)
def prsOf (cl : ByteArray) (k : Nat) : List (UInt8 × ByteArray) := (cl.data.toList.take k).map fun c => (c, cl)

theorem size_list (s : ByteArray) : s.data.toList.length = s.size := by simp
theorem ne_nil {s : ByteArray} (h : 0 < s.size) : s.data.toList ≠ [] := by
  intro e
  have := size_list s
  rw [e] at this
  simp only [List.length_nil] at this
  omega
theorem first_cl (s cl : ByteArray) (hcl : cl = s.extract 0 (fcl s.data.toList)) (h0 : 0 < s.size) (hs : s.size ≤ maxLen) (w : World) :
    Calls Try.prog 54 #[.string s] w fun e w' => e = .returned (.string cl) ∧ w = w' := by
  subst hcl; exact first_any s h0 hs w

theorem cl_list {s cl : ByteArray} (hcl : cl = s.extract 0 (fcl s.data.toList)) : cl.data.toList = s.data.toList.take (fcl s.data.toList) := by
  subst hcl; simp [ByteArray.data_extract]
theorem cl_size {s cl : ByteArray} (hcl : cl = s.extract 0 (fcl s.data.toList)) : cl.size = fcl s.data.toList := by
  have h := congrArg List.length (cl_list hcl)
  have h2 := fcl_le s.data.toList
  rw [List.length_take, Nat.min_eq_left h2] at h
  rw [← h]; simp
theorem rest_list (s : ByteArray) (k : Nat) : (s.extract k s.size).data.toList = s.data.toList.drop k := by
  simp [ByteArray.data_extract, List.take_of_length_le]
theorem prs_step {s cl : ByteArray} (h0 : 0 < s.size) (hcl : cl = s.extract 0 (fcl s.data.toList)) : prs s.data.toList = prsOf cl cl.size ++ prs (s.extract cl.size s.size).data.toList := by
  have hne := ne_nil h0
  rw [rest_list, cl_size hcl, prs, prs, pairs_step hne, List.map_append]
  congr 1
  have e : cl.data.toList.take (fcl s.data.toList) = cl.data.toList := by
    rw [← cl_size hcl]; exact List.take_of_length_le (by simp)
  rw [prsOf, e, pairsOf, List.map_map, ← cl_list hcl]
  rfl
theorem prsOf_succ {cl : ByteArray} {k : Nat} (hk : k < cl.size) : prsOf cl (k + 1) = prsOf cl k ++ [(cl[k], cl)] := by
  rw [prsOf, List.take_succ_eq_append_getElem (by simpa using hk), List.map_append]; rfl
theorem prsOf_pre {cl : ByteArray} {k : Nat} (hk : k ≤ cl.size) : prsOf cl k <+: prsOf cl cl.size := by
  unfold prsOf
  exact (List.take_prefix_take_left hk).map _
theorem prsOf_length {cl : ByteArray} {k : Nat} (hk : k ≤ cl.size) : (prsOf cl k).length = k := by
  simp [prsOf]; omega
theorem prs_length (s : ByteArray) : (prs s.data.toList).length = s.size := by simp [prs, pairs_length]

theorem str_empty {s : ByteArray} (h : s.size = 0) : (!s.toList.isEmpty) = false := by
  rw [ByteArray.toList_eq]
  have : s.data.toList = [] := List.length_eq_zero_iff.1 (by simpa using h)
  rw [this]; rfl
theorem str_some {s : ByteArray} (h : 0 < s.size) : (!s.toList.isEmpty) = true := by
  rw [ByteArray.toList_eq]
  have := ne_nil h
  simpa using this

def szOf : Value → Nat
  | .string b => b.size
  | _ => 0

set_option maxRecDepth 100000 in
set_option maxHeartbeats 2000000 in
theorem chars1_in (l Bs n₀ : Nat) (s : ByteArray) (hs : s.size ≤ maxLen) (J Jx : List (UInt8 × ByteArray) → World → Prop)
    (hY : ∀ pre x W, J pre W → pre.length < s.size → YieldAt Fence.wide 7 Try.prog l (encP x) W fun e W' =>
      (e = .returned (.bool true) ∧ J (pre ++ [x]) W' ∧ Below n₀ W W') ∨ (e = .returned (.bool false) ∧ Jx (pre ++ [x]) W'))
    (W : World) (hBs : W.cell? ⟨Bs, 0, none⟩ = some (.string s)) (h0 : J [] W) :
    CallsIn Fence.wide 8 Try.prog 53 #[.func (.yield l) #[] #[], .pointer (some ⟨Bs, 0, none⟩)] W fun e W' => (∃ v, e = .returned v) ∧
      ((∃ ys, ys = prs s.data.toList ∧ J ys W') ∨ (∃ pre, pre <+: prs s.data.toList ∧ Jx pre W')) := by
  have hm := hs
  unfold maxLen at hm
  refine callsIn_of_wp Try.func53 rfl trivial ?_ rfl
  simp only [Try.ntmps53, List.size_toArray, List.length_cons, List.length_nil, Nat.reduceAdd, Nat.reduceSub, Array.replicate_succ, Array.replicate_zero, List.push_toArray, List.append_toArray, List.nil_append, List.cons_append]
  gi_wp2
  have HL := Lib.hid (prs_length s)
  gi_loopw [3] (fun r wr => ∃ (pre : List (UInt8 × ByteArray)) (rest : ByteArray), r = .string rest ∧ rest.size ≤ s.size ∧ prs s.data.toList = pre ++ prs rest.data.toList ∧ J pre wr)
    (fun r _ => szOf r)
  case atStart => exact ⟨[], s, rfl, Nat.le_refl _, rfl, h0⟩
  case round =>
    obtain ⟨pre, rest, rfl, hr, hx, hJ⟩ := hrel
    have HX := Lib.hid hx
    clear hx
    by_cases hz : rest.size = 0
    · have he := str_empty hz
      have HZ := Lib.hid hz
      clear hz
      gi_wp2
      go_end0
      refine ⟨⟨_, rfl⟩, .inl ⟨_, rfl, ?_⟩⟩
      have hr0 : rest.data.toList = [] := List.length_eq_zero_iff.1 (by simpa using HZ.out)
      have hx := HX.out
      rw [hr0, show prs [] = [] from rfl, List.append_nil] at hx
      rw [hx]; exact hJ
    · have hpos : 0 < rest.size := by omega
      have he := str_some hpos
      clear hz
      obtain ⟨cl, hcl⟩ : ∃ cl, cl = rest.extract 0 (fcl rest.data.toList) := ⟨_, rfl⟩
      have hcs : cl.size ≤ rest.size := by rw [cl_size hcl]; have := fcl_le rest.data.toList; simpa using this
      have hcp : 0 < cl.size := by rw [cl_size hcl]; exact fcl_pos (ne_nil hpos)
      have HP := Lib.hid (prs_step hpos hcl)
      have HC := Lib.hid hcl
      clear hcl
      gi_wp2_with (gi_at_call 54; refine (callsIn_wide.2 (first_cl rest cl HC.out (by omega) (by unfold maxLen; omega) _)).mono ?_; rintro e w' ⟨rfl, rfl⟩)
      obtain ⟨wo, rfl⟩ : ∃ wo : World, wo = wr := ⟨_, rfl⟩
      gi_loopw [17] (fun i wr => ∃ k : Nat, k ≤ cl.size ∧ i = .int .i64 k ∧ J (pre ++ prsOf cl k) wr) (fun i _ => cl.size - (intOf i).toNat)
      case atStart => exact ⟨0, Nat.zero_le _, rfl, by simpa [prsOf] using hJ⟩
      case round =>
        obtain ⟨k, hk, rfl, hJk⟩ := hrel
        by_cases hlt : k < cl.size
        · obtain ⟨fn, tmps, assign, body, hy, hR⟩ := hY _ (cl[k], cl) wr hJk (by
            have h1 := congrArg List.length HX.out
            have h2 := congrArg List.length HP.out
            rw [HL.out, List.length_append] at h1
            rw [List.length_append, prsOf_length (Nat.le_refl _)] at h2
            rw [List.length_append, prsOf_length hk]
            omega)
          dsimp only [encP] at hy
          gi_wp2
          refine hR.mono ?_
          rintro e W3 (⟨rfl, hJ3, hk3⟩ | ⟨rfl, hJx3⟩)
          · gi_wp2
            go_roundw
            case rel => exact ⟨k + 1, by omega, by go_num, by rw [prsOf_succ hlt, ← List.append_assoc]; exact hJ3⟩
            case measure => simp [intOf]; omega
          · gi_wp2
            refine bodyPost_ret (results_none rfl _ _ _) rfl ?_
            refine ⟨⟨_, rfl⟩, .inr ⟨_, ?_, hJx3⟩⟩
            rw [List.append_assoc, ← prsOf_succ hlt, HX.out, HP.out]
            exact List.prefix_append_right_inj pre |>.2 ((prsOf_pre (by omega)).trans (List.prefix_append _ _))
        · obtain rfl : k = cl.size := by omega
          gi_wp2
          refine ⟨⟨_, _, rfl, ?_, ?_, hJk⟩, ?_⟩
          · rw [ByteArray.size_extract]; omega
          · rw [HX.out, HP.out, List.append_assoc]
          · simp only [szOf, ByteArray.size_extract]; omega

/-- at a return behind a loop over an iterator: the block of the deferred calls is taken -/
theorem fin_cell {W : World} {D B : Nat} {t : TypeId} {v : Value} (hb : Boxed W B t v) (hK : W.heap[D]? = some (.deferred (some []))) : (W.putObj D (.deferred none)).cell? ⟨B, 0, none⟩ = some v :=
  cell_kept hb.cell (grownBy_putObj' _ D (.deferred none)) (fun r e => by cases e; exact ⟨_, hK, rfl⟩)
theorem fin_store {W : World} {D B : Nat} (v : Value) (hK : W.heap[D]? = some (.deferred (some []))) : (W.setCell ⟨B, 0, none⟩ v).heap[D]? = some (.deferred (some [])) :=
  (KeepsOthers.setCell W ⟨B, 0, none⟩ v).same D _ hK rfl
theorem fin_below {w W0 W : World} {n D : Nat} (hB : Below n w W) (hn : n ≤ W0.heap.size) (hD : W0.heap.size ≤ D) (hK : W.heap[D]? = some (.deferred (some []))) : Below n w (W.putObj D (.deferred none)) :=
  hB.trans (belowK_b (w := W0) hn W D _ _ hD hK rfl rfl)

set_option maxHeartbeats 1000000 in
/-- characters(s): the string is boxed, the function value captures the box. -/
theorem chars_in (s : ByteArray) (w : World) :
    Calls Try.prog 37 #[.string s] w fun e w' => e = .returned (.func (.func 53) #[] #[.pointer (some ⟨w.heap.size, 0, none⟩)]) ∧ w' = w.alloc (.cells #[.string s] 9) := by
  go_enter Try.func37, Try.ntmps37
  go_wp2
  go_ret
  exact ⟨rfl, rfl⟩

/-- characters(s) hands back a value that stops: all pairs in order; or a part of them, where a round has said no more. -/
theorem chars_stops (Bs n₀ : Nat) (s : ByteArray) (hs : s.size ≤ maxLen) (w : World) (hBs : Bs < w.heap.size)
    (hc : w.cell? ⟨Bs, 0, none⟩ = some (.string s)) :
    SeqStopsK Fence.wide 8 Try.prog 53 #[.pointer (some ⟨Bs, 0, none⟩)] encP (Below n₀) (fun ys => ys = prs s.data.toList) (fun pre => pre <+: prs s.data.toList) s.size w := fun l J Jx W hW _ _ hY h0 =>
  chars1_in l Bs n₀ s hs J Jx hY W ((hW.cell (p := ⟨Bs, 0, none⟩) hBs).trans hc) h0
end Go.Proofs.Ytelpgjlcagbcjaa
