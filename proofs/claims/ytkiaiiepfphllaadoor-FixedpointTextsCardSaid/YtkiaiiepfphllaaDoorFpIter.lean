/- The iterator fixedpoint.characters, and the functions that range over it. -/
import Derived.RangeFuncNested
import Derived.RangeFuncBound
import Derived.RangeFuncCalls
import Derived.RangeFuncLeaves
import Derived.RangeFuncBox
import Derived.Shelf.Abstract
import Derived.Shelf.RegionOpen
import Derived.OwnWalkIn
import Derived.TacticsInMore
import Derived.LoopNIn
import Derived.LoopIn
import Derived.Test.YtkiaiiepfphllaaDoorFpRefs
namespace Go.Proofs.YtkiaiiepfphllaaDoor
set_option linter.unusedSimpArgs false
set_option linter.unusedVariables false
set_option maxRecDepth 100000
open Go.RowKit Go.Shelf
theorem wide_fn (k : FuncId) : Fence.wide.fn k = True := rfl
attribute [local go_sem] Oper.semAt_some wide_fn

/-- the kind of a byte, as far as digits go -/
def kindD (c : Int) : Int :=
  if (97 ≤ c ∧ c ≤ 122) ∨ (65 ≤ c ∧ c ≤ 90) then 1
  else if 48 ≤ c ∧ c ≤ 57 then 3
  else if c = 94 ∨ c = 126 ∨ c = 37 then 2
  else if c = 39 then 4
  else if c = 46 ∨ c = 44 ∨ c = 59 ∨ c = 58 ∨ c = 33 ∨ c = 63 ∨ c = 40 ∨ c = 41 ∨ c = 45 then 5
  else if c = 32 then 6
  else 0
theorem kindD_dig (c : Int) : (kindD c == 3) = digI c := by
  rw [Bool.eq_iff_iff, beq_iff_eq]
  unfold kindD digI
  simp only [Bool.and_eq_true, decide_eq_true_eq]
  omega
set_option maxHeartbeats 1000000 in
theorem kind_any (c : Int) (w : World) :
    Calls Tryd.prog 72 #[.int .u8 c] w fun e w' => e = .returned (.int .i64 (kindD c)) ∧ w = w' := by
  go_enter Tryd.func72, Tryd.ntmps72
  go_wp2
  all_goals go_ret
  all_goals refine ⟨ret_int ?_, rfl⟩
  all_goals try simp only [beq_iff_eq, beq_eq_false_iff_ne, ne_eq] at *
  all_goals unfold kindD
  all_goals omega
theorem digit_any (c : Int) (w : World) :
    Calls Tryd.prog 55 #[.int .u8 c] w fun e w' => e = .returned (.bool (digI c)) ∧ w = w' := by
  have hk := kindD_dig c
  obtain ⟨k, hkk⟩ : ∃ k, kindD c = k := ⟨_, rfl⟩
  obtain ⟨d, hd⟩ : ∃ d, digI c = d := ⟨_, rfl⟩
  rw [hkk, hd] at hk
  rw [hd]
  have HK := Lib.hid hkk
  have HD := Lib.hid hk
  clear hkk hd hk
  go_enter Tryd.func55, Tryd.ntmps55
  go_wp2_with (go_at_call 72; refine (kind_any _ _).mono ?_; rw [HK.out]; rintro e w' ⟨rfl, rfl⟩)
  go_ret
  exact ⟨ret_bool HD.out, rfl⟩

abbrev encP (p : Nat × UInt8) : Array Value := #[.int .i64 p.1, .int .u8 p.2.toNat]
/-- the first k characters with their places -/
def prsK (l : List UInt8) (k : Nat) : List (Nat × UInt8) := (List.range k).map fun i => (i, l.getD i 0)
def prs (l : List UInt8) : List (Nat × UInt8) := prsK l l.length
theorem size_list (s : ByteArray) : s.data.toList.length = s.size := by simp
theorem getD_at (s : ByteArray) (k : Nat) (h : k < s.size) : s.data.toList.getD k 0 = s[k] := by
  rw [List.getD_eq_getElem?_getD, List.getElem?_eq_getElem (by simpa using h)]; rfl
theorem prsK_succ (l : List UInt8) (k : Nat) : prsK l (k + 1) = prsK l k ++ [(k, l.getD k 0)] := by
  rw [prsK, List.range_succ, List.map_append]; rfl
theorem prsK_len (l : List UInt8) (k : Nat) : (prsK l k).length = k := by simp [prsK]
theorem prsK_pre (l : List UInt8) {k n : Nat} (h : k ≤ n) : prsK l k <+: prsK l n := by
  obtain ⟨m, rfl⟩ : ∃ m, n = k + m := ⟨n - k, by omega⟩
  clear h
  induction m with
  | zero => exact List.prefix_refl _
  | succ m ih => rw [← Nat.add_assoc, prsK_succ]; exact ih.trans (List.prefix_append _ _)
theorem prs_whole (s : ByteArray) : prs s.data.toList = prsK s.data.toList s.size := by rw [prs, size_list]

/-- below n₀ all is as it was, and the string's box holds what it held -/
def KB (Bs n₀ : Nat) (A B : World) : Prop := Below n₀ A B ∧ B.cell? ⟨Bs, 0, none⟩ = A.cell? ⟨Bs, 0, none⟩
theorem KB.t {Bs n₀ : Nat} {A B C : World} (h : KB Bs n₀ A B) (k : KB Bs n₀ B C) : KB Bs n₀ A C := ⟨h.1.trans k.1, k.2.trans h.2⟩
theorem KB.b {Bs n₀ : Nat} {w : World} (hn : n₀ ≤ w.heap.size) (hB : Bs < w.heap.size) (W : World) (l : Nat) (o o' : Obj) (hl : w.heap.size ≤ l) (h : W.heap[l]? = some o) (h1 : o.isCells = false) (h2 : o.isWalk = false) : KB Bs n₀ W (W.putObj l o') :=
  ⟨belowK_b hn W l o o' hl h h1 h2, (belowK_b (n₀ := w.heap.size) (Nat.le_refl _) W l o o' hl h h1 h2).cell (p := ⟨Bs, 0, none⟩) hB⟩
theorem KB.refl (Bs n₀ : Nat) (W : World) : KB Bs n₀ W W := ⟨Below.refl _ _, rfl⟩
theorem KB.of_below {Bs n₀ n₁ : Nat} {A B : World} (h : Below n₁ A B) (h1 : n₀ ≤ n₁) (h2 : Bs < n₁) : KB Bs n₀ A B := ⟨h.mono h1, h.cell (p := ⟨Bs, 0, none⟩) h2⟩

set_option maxHeartbeats 2000000 in
theorem chars1_in (l Bs n₀ : Nat) (s : ByteArray) (hs : s.size ≤ maxLen) (J Jx : List (Nat × UInt8) → World → Prop)
    (hY : ∀ pre x W, J pre W → pre.length < s.size → YieldAt Fence.wide 7 Tryd.prog l (encP x) W fun e W' =>
      (e = .returned (.bool true) ∧ J (pre ++ [x]) W' ∧ KB Bs n₀ W W') ∨ (e = .returned (.bool false) ∧ Jx (pre ++ [x]) W'))
    (W : World) (hBs : W.cell? ⟨Bs, 0, none⟩ = some (.string s)) (h0 : J [] W) :
    CallsIn Fence.wide 8 Tryd.prog 71 #[.func (.yield l) #[] #[], .pointer (some ⟨Bs, 0, none⟩)] W fun e W' => (∃ v, e = .returned v) ∧
      ((∃ ys, ys = prs s.data.toList ∧ J ys W') ∨ (∃ pre, pre <+: prs s.data.toList ∧ Jx pre W')) := by
  have hm := hs
  unfold maxLen at hm
  refine callsIn_of_wp Tryd.func71 rfl trivial ?_ rfl
  simp only [Tryd.ntmps71, List.size_toArray, List.length_cons, List.length_nil, Nat.reduceAdd, Nat.reduceSub, Array.replicate_succ, Array.replicate_zero, List.push_toArray, List.append_toArray, List.nil_append, List.cons_append]
  gi_wp2
  gi_loopw [6] (fun i wr => ∃ k : Nat, k ≤ s.size ∧ i = .int .i64 k ∧ J (prsK s.data.toList k) wr ∧ wr.cell? ⟨Bs, 0, none⟩ = some (.string s)) (fun i _ => s.size - (intOf i).toNat)
  case atStart => exact ⟨0, Nat.zero_le _, rfl, by simpa [prsK] using h0, hBs⟩
  case round =>
    obtain ⟨k, hk, rfl, hJ, hcs⟩ := hrel
    by_cases hlt : k < s.size
    · obtain ⟨fn, tmps, assign, body, hy, hR⟩ := hY _ (k, s[k]) wr hJ (by rw [prsK_len]; exact hlt)
      dsimp only [encP] at hy
      have HJ := Lib.hid hJ
      clear hJ
      gi_wp2
      refine hR.mono ?_
      rintro e W3 (⟨rfl, hJ3, hk3⟩ | ⟨rfl, hJx3⟩)
      · have HB3 := Lib.hid (hk3.2.trans hcs)
        clear hk3 hcs
        gi_wp2
        go_roundw
        case rel => exact ⟨k + 1, by omega, by go_num, by rw [prsK_succ, getD_at s k hlt]; exact hJ3, HB3.out⟩
        case measure => simp [intOf]; omega
      · gi_wp2
        refine bodyPost_ret (results_none rfl _ _ _) rfl ?_
        refine ⟨⟨_, rfl⟩, .inr ⟨_, ?_, hJx3⟩⟩
        have := prsK_pre s.data.toList (show k + 1 ≤ s.size by omega)
        rw [prsK_succ, getD_at s k hlt] at this
        rw [prs_whole]; exact this
    · obtain rfl : k = s.size := by omega
      gi_wp2
      go_end0
      exact ⟨⟨_, rfl⟩, .inl ⟨_, rfl, by rw [prs_whole]; exact hJ⟩⟩

/-- at a return behind a loop over an iterator: the block of the deferred calls is taken -/
theorem fin_cell {W : World} {D B : Nat} {t : TypeId} {v : Value} (hb : Boxed W B t v) (hK : W.heap[D]? = some (.deferred (some []))) : (W.putObj D (.deferred none)).cell? ⟨B, 0, none⟩ = some v :=
  cell_kept hb.cell (grownBy_putObj' _ D (.deferred none)) (fun r e => by cases e; exact ⟨_, hK, rfl⟩)
theorem fin_store {W : World} {D B : Nat} (v : Value) (hK : W.heap[D]? = some (.deferred (some []))) : (W.setCell ⟨B, 0, none⟩ v).heap[D]? = some (.deferred (some [])) :=
  (KeepsOthers.setCell W ⟨B, 0, none⟩ v).same D _ hK rfl
theorem fin_below {w W0 W : World} {n D : Nat} (hB : Below n w W) (hn : n ≤ W0.heap.size) (hD : W0.heap.size ≤ D) (hK : W.heap[D]? = some (.deferred (some []))) : Below n w (W.putObj D (.deferred none)) :=
  hB.trans (belowK_b (w := W0) hn W D _ _ hD hK rfl rfl)

set_option maxHeartbeats 1000000 in
theorem chars_in (s : ByteArray) (w : World) :
    Calls Tryd.prog 54 #[.string s] w fun e w' => e = .returned (.func (.func 71) #[] #[.pointer (some ⟨w.heap.size, 0, none⟩)]) ∧ w' = w.alloc (.cells #[.string s] 9) := by
  go_enter Tryd.func54, Tryd.ntmps54
  go_wp2
  go_ret
  exact ⟨rfl, rfl⟩

/-- characters(s) hands back a value that stops: all characters in order; or a part of them, where a round has said no more. -/
theorem chars_stops (Bs n₀ : Nat) (s : ByteArray) (hs : s.size ≤ maxLen) (w : World) (hBs : Bs < w.heap.size)
    (hc : w.cell? ⟨Bs, 0, none⟩ = some (.string s)) :
    SeqStopsK Fence.wide 8 Tryd.prog 71 #[.pointer (some ⟨Bs, 0, none⟩)] encP (KB Bs n₀) (fun ys => ys = prs s.data.toList) (fun pre => pre <+: prs s.data.toList) s.size w := fun l J Jx W hW _ _ hY h0 =>
  chars1_in l Bs n₀ s hs J Jx hY W ((hW.cell (p := ⟨Bs, 0, none⟩) hBs).trans hc) h0
theorem any_of_prefix {α : Type} {p : α → Bool} {a b : List α} (h : a <+: b) (ha : a.any p = true) : b.any p = true := by
  obtain ⟨t, rfl⟩ := h
  rw [List.any_append, ha]; rfl
theorem any_snoc {α : Type} {p : α → Bool} {a : List α} {x : α} (h : a.any p = false) (hx : p x = false) : (a ++ [x]).any p = false := by
  rw [List.any_append, h]; simp [hx]
theorem any_snoc' {α : Type} {p : α → Bool} {a : List α} {x : α} (hx : p x = true) : (a ++ [x]).any p = true := by
  rw [List.any_append]; simp [hx]
end Go.Proofs.YtkiaiiepfphllaaDoor
