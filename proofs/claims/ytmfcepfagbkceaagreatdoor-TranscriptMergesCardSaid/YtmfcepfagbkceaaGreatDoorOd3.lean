/- Stage 10 (transcript): MkP1, put together by merge10.py. -/
import Derived.Test.YtmfcepfagbkceaaGreatDoorOc
import Derived.WalkKit
import Derived.WalkSpells
import Derived.WalkLawsBesides
import Derived.Lib.Hide
import Derived.RangeFuncNested
import Derived.RangeFuncBound
import Derived.RangeFuncCalls
import Derived.RangeFuncLeaves
import Derived.RangeFuncBox
import Derived.Shelf.Abstract
import Derived.Shelf.RegionOpen
import Derived.OwnWalkIn
import Derived.TacticsInMore
import Derived.LoopNIn
import Derived.LoopIn
namespace Go.Proofs.YtmfcepfagbkceaaGreatDoor.C01
set_option linter.unusedSimpArgs false
set_option linter.unusedVariables false
set_option linter.unusedSimpArgs false
set_option linter.unusedVariables false
open Go.RowKit
theorem ret_int {k : IntKind} {a b : Int} (h : a = b) : Ending.returned (.int k a) = .returned (.int k b) := by rw [h]
theorem of_beq {a b : Int} (h : (a == b) = true) : a = b := by simpa using h
theorem ne_of_beq {a b : Int} (h : (a == b) = false) : a ≠ b := by simpa using h
set_option maxHeartbeats 1000000 in
theorem kind_any (c : Int) (w : World) :
    Calls Tryz.prog 137 #[.int .u8 c] w fun e w' => e = .returned (.int .i64 (kindI c)) ∧ w = w' := by
  go_enter Tryz.func137, Tryz.ntmps137
  go_wp2
  all_goals go_ret
  all_goals refine ⟨ret_int ?_, rfl⟩
  all_goals try simp only [beq_iff_eq, beq_eq_false_iff_ne, ne_eq] at *
  all_goals unfold kindI
  all_goals omega
set_option linter.unusedSimpArgs false
set_option linter.unusedVariables false
open Go.RowKit
theorem beqd (a b : Int) : (a == b) = decide (a = b) := by by_cases h : a = b <;> simp [h]
theorem ret_bool {a b : Bool} (h : a = b) : Ending.returned (.bool a) = .returned (.bool b) := by rw [h]
set_option maxHeartbeats 400000 in
theorem ld_any (c : Int) (w : World) :
    Calls Tryz.prog 151 #[.int .u8 c] w fun e w' => e = .returned (.bool (ldI c)) ∧ w = w' := by
  go_enter Tryz.func151, Tryz.ntmps151
  go_wp2_with (go_at_call 137; refine (kind_any _ _).mono ?_; rintro e w' ⟨rfl, rfl⟩)
  all_goals go_ret
  all_goals refine ⟨ret_bool ?_, rfl⟩
  all_goals simp only [ldI]
  all_goals simp_all [beqd]
set_option maxHeartbeats 400000 in
theorem stands_any (c : Int) (s : ByteArray) (w : World) :
    Calls Tryz.prog 138 #[.int .u8 c, .string s] w fun e w' => e = .returned (.bool (decide (kindI c = 2) && decide (1 < s.size))) ∧ w = w' := by
  go_enter Tryz.func138, Tryz.ntmps138
  go_wp2_with (go_at_call 137; refine (kind_any _ _).mono ?_; rintro e w' ⟨rfl, rfl⟩)
  all_goals go_ret
  all_goals refine ⟨ret_bool ?_, rfl⟩
  all_goals simp_all
  all_goals omega
theorem ba_ext {s : ByteArray} {a b c : Nat} (h : b = c) : Ending.returned (.string (s.extract a b)) = .returned (.string (s.extract a c)) := by rw [h]
theorem drop_at (s : ByteArray) (k : Nat) (h : k < s.size) : s.data.toList.drop k = s[k] :: s.data.toList.drop (k + 1) :=
  List.drop_eq_getElem_cons (by simpa using h)
theorem fcl_one {s : ByteArray} (h0 : 0 < s.size) (h : (kindI s[0].toNat == 1) = false) : 1 = fcl s.data.toList := by
  have e := drop_at s 0 h0
  have h' : ¬ kd s[0] = 1 := by simpa [kd] using h
  rw [List.drop_zero] at e
  rw [e, fcl, if_neg h']
theorem fcl_run {s : ByteArray} (h0 : 0 < s.size) (h : (kindI s[0].toNat == 1) = true) : 1 + run2 (s.data.toList.drop 1) = fcl s.data.toList := by
  have e := drop_at s 0 h0
  have h' : kd s[0] = 1 := by simpa [kd] using h
  rw [List.drop_zero] at e
  rw [e, fcl, if_pos h']
  simp [Nat.add_comm]
theorem run2_more {s : ByteArray} {k : Nat} (hk : k < s.size) (h : (kindI s[k].toNat == 2) = true) : k + run2 (s.data.toList.drop k) = k + 1 + run2 (s.data.toList.drop (k + 1)) := by
  have h' : kd s[k] = 2 := by simpa [kd] using h
  rw [drop_at s k hk, run2, if_pos h']; omega
theorem run2_stop {s : ByteArray} {k : Nat} (hk : k < s.size) (h : (kindI s[k].toNat == 2) = false) : run2 (s.data.toList.drop k) = 0 := by
  have h' : ¬ kd s[k] = 2 := by simpa [kd] using h
  rw [drop_at s k hk, run2, if_neg h']
theorem run2_end {s : ByteArray} {k : Nat} (hk : s.size ≤ k) : run2 (s.data.toList.drop k) = 0 := by
  rw [List.drop_eq_nil_of_le (by simpa using hk)]; rfl
set_option maxHeartbeats 400000 in
theorem first_any (s : ByteArray) (h0 : 0 < s.size) (hs : s.size ≤ maxLen) (w : World) :
    Calls Tryz.prog 164 #[.string s] w fun e w' => e = .returned (.string (s.extract 0 (fcl s.data.toList))) ∧ w = w' := by
  unfold maxLen at hs
  go_enter Tryz.func164, Tryz.ntmps164
  go_wp2_with (go_at_call 137; refine (kind_any _ _).mono ?_; rintro e w' ⟨rfl, rfl⟩)
  · rename_i ht
    have H := Lib.hid (fcl_run h0 ht)
    clear ht
    go_loop [3] (fun e => ∃ k : Nat, 1 ≤ k ∧ k ≤ s.size ∧ k + run2 (s.data.toList.drop k) = fcl s.data.toList ∧ e = .int .i64 k) (fun e => s.size - (intOf e).toNat)
    case atStart => exact ⟨1, Nat.le_refl _, h0, H.out, rfl⟩
    case round =>
      obtain ⟨k, hk1, hk2, he, rfl⟩ := hrel
      have HE := Lib.hid he
      clear he
      by_cases hlt : k < s.size
      · by_cases hm : (kindI s[k].toNat == 2) = true
        · go_wp2_with (go_at_call 137; refine (kind_any _ _).mono ?_; rintro e w' ⟨rfl, rfl⟩)
          go_round
          case rel => exact ⟨k + 1, by omega, by omega, by rw [← HE.out, run2_more hlt hm], by go_num⟩
          case measure => simp [intOf]; omega
        · have hm' : (kindI s[k].toNat == 2) = false := by simpa using hm
          clear hm
          go_wp2_with (go_at_call 137; refine (kind_any _ _).mono ?_; rintro e w' ⟨rfl, rfl⟩)
          go_ret
          exact ⟨ba_ext (by rw [← HE.out, run2_stop hlt hm']; rfl), rfl⟩
      · go_wp2_with (go_at_call 137; refine (kind_any _ _).mono ?_; rintro e w' ⟨rfl, rfl⟩)
        go_ret
        exact ⟨ba_ext (by rw [← HE.out, run2_end (by omega)]; rfl), rfl⟩
  · rename_i ht
    go_ret
    exact ⟨ba_ext (fcl_one h0 ht), rfl⟩
set_option linter.unusedSimpArgs false
set_option linter.unusedVariables false
open Go.RowKit Go.Shelf
theorem wide_fn (k : FuncId) : Fence.wide.fn k = True := rfl
attribute [local go_sem] Oper.semAt_some wide_fn
abbrev encP (p : UInt8 × ByteArray) : Array Value := #[.int .u8 p.1.toNat, .string p.2]
def prs (l : List UInt8) : List (UInt8 × ByteArray) := (pairs l).map fun p => (p.1, ⟨p.2.toArray⟩)
def prsOf (cl : ByteArray) (k : Nat) : List (UInt8 × ByteArray) := (cl.data.toList.take k).map fun c => (c, cl)
theorem size_list (s : ByteArray) : s.data.toList.length = s.size := by simp
theorem ne_nil {s : ByteArray} (h : 0 < s.size) : s.data.toList ≠ [] := by
  intro e
  have := size_list s
  rw [e] at this
  simp only [List.length_nil] at this
  omega
theorem first_cl (s cl : ByteArray) (hcl : cl = s.extract 0 (fcl s.data.toList)) (h0 : 0 < s.size) (hs : s.size ≤ maxLen) (w : World) :
    Calls Tryz.prog 164 #[.string s] w fun e w' => e = .returned (.string cl) ∧ w = w' := by
  subst hcl; exact first_any s h0 hs w
theorem cl_list {s cl : ByteArray} (hcl : cl = s.extract 0 (fcl s.data.toList)) : cl.data.toList = s.data.toList.take (fcl s.data.toList) := by
  subst hcl; simp [ByteArray.data_extract]
theorem cl_size {s cl : ByteArray} (hcl : cl = s.extract 0 (fcl s.data.toList)) : cl.size = fcl s.data.toList := by
  have h := congrArg List.length (cl_list hcl)
  have h2 := fcl_le s.data.toList
  rw [List.length_take, Nat.min_eq_left h2] at h
  rw [← h]; simp
theorem rest_list (s : ByteArray) (k : Nat) : (s.extract k s.size).data.toList = s.data.toList.drop k := by
  simp [ByteArray.data_extract, List.take_of_length_le]
theorem prs_step {s cl : ByteArray} (h0 : 0 < s.size) (hcl : cl = s.extract 0 (fcl s.data.toList)) : prs s.data.toList = prsOf cl cl.size ++ prs (s.extract cl.size s.size).data.toList := by
  have hne := ne_nil h0
  rw [rest_list, cl_size hcl, prs, prs, pairs_step hne, List.map_append]
  congr 1
  have e : cl.data.toList.take (fcl s.data.toList) = cl.data.toList := by
    rw [← cl_size hcl]; exact List.take_of_length_le (by simp)
  rw [prsOf, e, pairsOf, List.map_map, ← cl_list hcl]
  rfl
theorem prsOf_succ {cl : ByteArray} {k : Nat} (hk : k < cl.size) : prsOf cl (k + 1) = prsOf cl k ++ [(cl[k], cl)] := by
  rw [prsOf, List.take_succ_eq_append_getElem (by simpa using hk), List.map_append]; rfl
theorem prsOf_pre {cl : ByteArray} {k : Nat} (hk : k ≤ cl.size) : prsOf cl k <+: prsOf cl cl.size := by
  unfold prsOf
  exact (List.take_prefix_take_left hk).map _
theorem prsOf_length {cl : ByteArray} {k : Nat} (hk : k ≤ cl.size) : (prsOf cl k).length = k := by
  simp [prsOf]; omega
theorem prs_length (s : ByteArray) : (prs s.data.toList).length = s.size := by simp [prs, pairs_length]
theorem str_empty {s : ByteArray} (h : s.size = 0) : (!s.toList.isEmpty) = false := by
  rw [ByteArray.toList_eq]
  have : s.data.toList = [] := List.length_eq_zero_iff.1 (by simpa using h)
  rw [this]; rfl
theorem str_some {s : ByteArray} (h : 0 < s.size) : (!s.toList.isEmpty) = true := by
  rw [ByteArray.toList_eq]
  have := ne_nil h
  simpa using this
def szOf : Value → Nat
  | .string b => b.size
  | _ => 0
set_option maxRecDepth 100000 in
set_option maxHeartbeats 2000000 in
theorem chars1_in (l Bs n₀ : Nat) (s : ByteArray) (hs : s.size ≤ maxLen) (J Jx : List (UInt8 × ByteArray) → World → Prop)
    (hY : ∀ pre x W, J pre W → pre.length < s.size → YieldAt Fence.wide 7 Tryz.prog l (encP x) W fun e W' =>
      (e = .returned (.bool true) ∧ J (pre ++ [x]) W' ∧ Below n₀ W W') ∨ (e = .returned (.bool false) ∧ Jx (pre ++ [x]) W'))
    (W : World) (hBs : W.cell? ⟨Bs, 0, none⟩ = some (.string s)) (h0 : J [] W) :
    CallsIn Fence.wide 8 Tryz.prog 163 #[.func (.yield l) #[] #[], .pointer (some ⟨Bs, 0, none⟩)] W fun e W' => (∃ v, e = .returned v) ∧
      ((∃ ys, ys = prs s.data.toList ∧ J ys W') ∨ (∃ pre, pre <+: prs s.data.toList ∧ Jx pre W')) := by
  have hm := hs
  unfold maxLen at hm
  refine callsIn_of_wp Tryz.func163 rfl trivial ?_ rfl
  simp only [Tryz.ntmps163, List.size_toArray, List.length_cons, List.length_nil, Nat.reduceAdd, Nat.reduceSub, Array.replicate_succ, Array.replicate_zero, List.push_toArray, List.append_toArray, List.nil_append, List.cons_append]
  gi_wp2
  have HL := Lib.hid (prs_length s)
  gi_loopw [3] (fun r wr => ∃ (pre : List (UInt8 × ByteArray)) (rest : ByteArray), r = .string rest ∧ rest.size ≤ s.size ∧ prs s.data.toList = pre ++ prs rest.data.toList ∧ J pre wr)
    (fun r _ => szOf r)
  case atStart => exact ⟨[], s, rfl, Nat.le_refl _, rfl, h0⟩
  case round =>
    obtain ⟨pre, rest, rfl, hr, hx, hJ⟩ := hrel
    have HX := Lib.hid hx
    clear hx
    by_cases hz : rest.size = 0
    · have he := str_empty hz
      have HZ := Lib.hid hz
      clear hz
      gi_wp2
      go_end0
      refine ⟨⟨_, rfl⟩, .inl ⟨_, rfl, ?_⟩⟩
      have hr0 : rest.data.toList = [] := List.length_eq_zero_iff.1 (by simpa using HZ.out)
      have hx := HX.out
      rw [hr0, show prs [] = [] from rfl, List.append_nil] at hx
      rw [hx]; exact hJ
    · have hpos : 0 < rest.size := by omega
      have he := str_some hpos
      clear hz
      obtain ⟨cl, hcl⟩ : ∃ cl, cl = rest.extract 0 (fcl rest.data.toList) := ⟨_, rfl⟩
      have hcs : cl.size ≤ rest.size := by rw [cl_size hcl]; have := fcl_le rest.data.toList; simpa using this
      have hcp : 0 < cl.size := by rw [cl_size hcl]; exact fcl_pos (ne_nil hpos)
      have HP := Lib.hid (prs_step hpos hcl)
      have HC := Lib.hid hcl
      clear hcl
      gi_wp2_with (gi_at_call 164; refine (callsIn_wide.2 (first_cl rest cl HC.out (by omega) (by unfold maxLen; omega) _)).mono ?_; rintro e w' ⟨rfl, rfl⟩)
      obtain ⟨wo, rfl⟩ : ∃ wo : World, wo = wr := ⟨_, rfl⟩
      gi_loopw [17] (fun i wr => ∃ k : Nat, k ≤ cl.size ∧ i = .int .i64 k ∧ J (pre ++ prsOf cl k) wr) (fun i _ => cl.size - (intOf i).toNat)
      case atStart => exact ⟨0, Nat.zero_le _, rfl, by simpa [prsOf] using hJ⟩
      case round =>
        obtain ⟨k, hk, rfl, hJk⟩ := hrel
        by_cases hlt : k < cl.size
        · obtain ⟨fn, tmps, assign, body, hy, hR⟩ := hY _ (cl[k], cl) wr hJk (by
            have h1 := congrArg List.length HX.out
            have h2 := congrArg List.length HP.out
            rw [HL.out, List.length_append] at h1
            rw [List.length_append, prsOf_length (Nat.le_refl _)] at h2
            rw [List.length_append, prsOf_length hk]
            omega)
          dsimp only [encP] at hy
          gi_wp2
          refine hR.mono ?_
          rintro e W3 (⟨rfl, hJ3, hk3⟩ | ⟨rfl, hJx3⟩)
          · gi_wp2
            go_roundw
            case rel => exact ⟨k + 1, by omega, by go_num, by rw [prsOf_succ hlt, ← List.append_assoc]; exact hJ3⟩
            case measure => simp [intOf]; omega
          · gi_wp2
            refine bodyPost_ret (results_none rfl _ _ _) rfl ?_
            refine ⟨⟨_, rfl⟩, .inr ⟨_, ?_, hJx3⟩⟩
            rw [List.append_assoc, ← prsOf_succ hlt, HX.out, HP.out]
            exact List.prefix_append_right_inj pre |>.2 ((prsOf_pre (by omega)).trans (List.prefix_append _ _))
        · obtain rfl : k = cl.size := by omega
          gi_wp2
          refine ⟨⟨_, _, rfl, ?_, ?_, hJk⟩, ?_⟩
          · rw [ByteArray.size_extract]; omega
          · rw [HX.out, HP.out, List.append_assoc]
          · simp only [szOf, ByteArray.size_extract]; omega
theorem fin_cell {W : World} {D B : Nat} {t : TypeId} {v : Value} (hb : Boxed W B t v) (hK : W.heap[D]? = some (.deferred (some []))) : (W.putObj D (.deferred none)).cell? ⟨B, 0, none⟩ = some v :=
  cell_kept hb.cell (grownBy_putObj' _ D (.deferred none)) (fun r e => by cases e; exact ⟨_, hK, rfl⟩)
theorem fin_store {W : World} {D B : Nat} (v : Value) (hK : W.heap[D]? = some (.deferred (some []))) : (W.setCell ⟨B, 0, none⟩ v).heap[D]? = some (.deferred (some [])) :=
  (KeepsOthers.setCell W ⟨B, 0, none⟩ v).same D _ hK rfl
theorem fin_below {w W0 W : World} {n D : Nat} (hB : Below n w W) (hn : n ≤ W0.heap.size) (hD : W0.heap.size ≤ D) (hK : W.heap[D]? = some (.deferred (some []))) : Below n w (W.putObj D (.deferred none)) :=
  hB.trans (belowK_b (w := W0) hn W D _ _ hD hK rfl rfl)
set_option maxHeartbeats 1000000 in
theorem chars_in (s : ByteArray) (w : World) :
    Calls Tryz.prog 136 #[.string s] w fun e w' => e = .returned (.func (.func 163) #[] #[.pointer (some ⟨w.heap.size, 0, none⟩)]) ∧ w' = w.alloc (.cells #[.string s] 9) := by
  go_enter Tryz.func136, Tryz.ntmps136
  go_wp2
  go_ret
  exact ⟨rfl, rfl⟩
theorem chars_stops (Bs n₀ : Nat) (s : ByteArray) (hs : s.size ≤ maxLen) (w : World) (hBs : Bs < w.heap.size)
    (hc : w.cell? ⟨Bs, 0, none⟩ = some (.string s)) :
    SeqStopsK Fence.wide 8 Tryz.prog 163 #[.pointer (some ⟨Bs, 0, none⟩)] encP (Below n₀) (fun ys => ys = prs s.data.toList) (fun pre => pre <+: prs s.data.toList) s.size w := fun l J Jx W hW _ _ hY h0 =>
  chars1_in l Bs n₀ s hs J Jx hY W ((hW.cell (p := ⟨Bs, 0, none⟩) hBs).trans hc) h0
set_option linter.unusedSimpArgs false
set_option linter.unusedVariables false
open Go.RowKit Go.Shelf
attribute [local go_sem] Oper.semAt_some wide_fn
def qflag (p : UInt8 × ByteArray) : Bool := decide (kd p.1 = 2) && decide (1 < p.2.size)
def badQ (p : UInt8 × ByteArray) : Bool := badB p.1 (qflag p)
theorem prs_bad (l : List UInt8) : (prs l).any badQ = (pairs l).any badP := by
  unfold prs
  rw [List.any_map]
  congr 1
theorem acc_prs (l : List UInt8) : accB l = !((prs l).any badQ) := by rw [accB_pairs, prs_bad]
theorem chk_small {s : ByteArray} (h : ¬ 65536 < s.size) : chk s.data.toList = if accB s.data.toList then 0 else 11 := by
  rw [chk, if_neg (by rw [size_list]; exact h)]
theorem any_of_prefix {α : Type} {p : α → Bool} {a b : List α} (h : a <+: b) (ha : a.any p = true) : b.any p = true := by
  obtain ⟨t, rfl⟩ := h
  rw [List.any_append, ha]; rfl
set_option maxHeartbeats 400000 in
theorem check_big (s : ByteArray) (h : 65536 < s.size) (hs : s.size ≤ maxLen) (w : World) :
    Calls Tryz.prog 114 #[.string s] w fun e w' => e = .returned (.int .i64 (chk s.data.toList)) ∧ Below w.heap.size w w' := by
  unfold maxLen at hs
  go_enter Tryz.func114, Tryz.ntmps114
  go_wp2
  refine bodyPost_ret (v := .int .i64 4) (by simp [results, Tryz.results114, go_sem]) rfl ⟨ret_int ?_, ?_⟩
  · rw [chk, if_pos (by rw [size_list]; exact h)]
  · exact (Below.refl _ _).alloc (Nat.le_refl _) _
set_option maxRecDepth 100000 in
set_option maxHeartbeats 2000000 in
theorem check_small (s : ByteArray) (h : ¬ 65536 < s.size) (w : World) :
    Calls Tryz.prog 114 #[.string s] w fun e w' => e = .returned (.int .i64 (chk s.data.toList)) ∧ Below w.heap.size w w' := by
  refine (callsIn_wide (n := 9)).1 ?_
  refine callsIn_of_wp_marks Tryz.func114 rfl trivial ?_ rfl
  simp only [Tryz.ntmps114, List.size_toArray, List.length_cons, List.length_nil, Nat.reduceAdd, Nat.reduceSub, Array.replicate_succ, Array.replicate_zero, List.push_toArray, List.append_toArray, List.nil_append, List.cons_append]
  gi_wp2_with (gi_at_call 136; refine (callsIn_wide.2 (chars_in s _)).mono ?_; rintro e w' ⟨rfl, rfl⟩)
  have bN := Boxed.new (w.alloc (.cells #[.int .i64 0] 25)) 9 (.string s)
  rw [World.size_alloc] at bN
  have hs : s.size ≤ maxLen := by unfold maxLen; omega
  refine wpIn_rangeFunc_ownG rfl (by omega) (gf := 163) (lb := #[.pointer (some ⟨w.heap.size + 1, 0, none⟩)]) rfl trivial (enters_of Tryz.func163 (by kernel_rfl) rfl)
    (chars_stops (w.heap.size + 1) w.heap.size s hs _ (by simp) bN.cell) belowK_t (belowK_b (by simp; omega)) (Below.refl _ _) (fun _ => rfl)
    (fun pre W => (Boxed W w.heap.size 25 (.int .i64 0) ∧ pre.any badQ = false) ∧ Below w.heap.size w W)
    (fun c pre W => (Boxed W w.heap.size 25 (.int .i64 11) ∧ c = .ret ∧ pre.any badQ = true) ∧ Below w.heap.size w W)
    (OwnFrom.and (OwnFrom.and (Own.from (boxed_own _ _ _) _) (ownFrom_pure _ _)) (ownFrom_below (Nat.le_refl _) (by simp; omega)))
    (fun c => OwnFrom.and (OwnFrom.and (Own.from (boxed_own _ _ _) _) (ownFrom_pure _ _)) (ownFrom_below (Nat.le_refl _) (by simp; omega)))
    ⟨⟨(Boxed.new _ _ _).alloc _, rfl⟩, ((Below.refl _ _).alloc (Nat.le_refl _) _).alloc (by simp) _⟩
    (fun x => { tmps := #[.string s, undef, .pointer (some ⟨w.heap.size, 0, none⟩), .int .u8 x.1.toNat, .string x.2, .string s, .int .i64 s.size, .bool (decide (65536 < (s.size : Int))), .string s, .func (.func 163) #[] #[.pointer (some ⟨w.heap.size + 1, 0, none⟩)], .int .u8 x.1.toNat, .string x.2, undef, undef, undef, undef, undef, undef, undef, undef, undef, undef, undef, undef, undef, undef], defers := [] }) ?assign ?body ?done ?stop
  case assign =>
    intro l x W K hK
    gi_wp2
    exact hK
  case body =>
    rintro l pre x W ⟨⟨hb, hn⟩, hB⟩ hlt
    have hc := hb.cell
    have hf := hb.frozen
    have HN := Lib.hid hn
    clear hn
    gi_wp2_with (first
      | (exfalso; rename_i hh _; cases hh; done)
      | (gi_at_call 137; refine (CallsIn.inRound l (callsIn_wide.2 (kind_any _ _))).mono ?_; rintro e w' ⟨rfl, rfl⟩)
      | (gi_at_call 138; refine (CallsIn.inRound l (callsIn_wide.2 (stands_any _ _ _))).mono ?_; rintro e w' ⟨rfl, rfl⟩))
    · have hz : kindI x.1.toNat = 0 := by assumption
      refine ⟨(KeepsOthers.setCell _ _ _).from _, ⟨hb.set _, rfl, ?_⟩, hB.setCell (p := ⟨w.heap.size, 0, none⟩) (Nat.le_refl _) _⟩
      rw [List.any_append, HN.out]; simp [badQ, badB, kd, hz]
    · rename_i h0 h2 hf2
      refine ⟨(KeepsOthers.setCell _ _ _).from _, ⟨hb.set _, rfl, ?_⟩, hB.setCell (p := ⟨w.heap.size, 0, none⟩) (Nat.le_refl _) _⟩
      have h3 : ¬ 1 < x.2.size := by simpa using hf2
      rw [List.any_append, HN.out]; simp [badQ, badB, qflag, kd, h2, h3]
    · rename_i h0 h2 hf2
      refine ⟨KeepsFrom.refl _ _, Below.refl _ _, ⟨hb, ?_⟩, hB⟩
      have h3 : 1 < x.2.size := by simpa using hf2
      rw [List.any_append, HN.out]; simp [badQ, badB, qflag, kd, h2, h3]
    · have h0 : ¬ kindI x.1.toNat = 0 := by assumption
      have h2 : ¬ kindI x.1.toNat = 2 := by assumption
      refine ⟨KeepsFrom.refl _ _, Below.refl _ _, ⟨hb, ?_⟩, hB⟩
      rw [List.any_append, HN.out]; simp [badQ, badB, kd, h0, h2]
  case done =>
    rintro D xs W hD rfl ⟨⟨hb, hn⟩, hB⟩ hK
    have hc := hb.cell
    have hf := hb.frozen
    have HN := Lib.hid hn
    clear hn
    gi_wp2
    have hb' := hb.set (.int .i64 0)
    have hK' := fin_store (B := w.heap.size) (.int .i64 0) hK
    have hc5 := fin_cell hb' hK'
    refine ⟨by simp, .inl ⟨_, _, rfl, run_takeDeferred hK', ?_⟩⟩
    refine ⟨.int .i64 0, by simp [results, Tryz.f114, go_sem, hc5], ret_int ?_, fin_below (hB.setCell (p := ⟨w.heap.size, 0, none⟩) (Nat.le_refl _) _) (by simp; omega) hD hK'⟩
    rw [chk_small h, if_pos (by rw [acc_prs, HN.out]; rfl)]
  case stop =>
    rintro D c pre W hD hpre ⟨⟨hb, rfl, hn⟩, hB⟩ hK
    have HN := Lib.hid hn
    clear hn
    gi_wp2
    have hc5 := fin_cell hb hK
    refine ⟨by simp, .inl ⟨_, _, rfl, run_takeDeferred hK, ?_⟩⟩
    refine ⟨.int .i64 11, by simp [results, Tryz.f114, go_sem, hc5], ret_int ?_, fin_below hB (by simp; omega) hD hK⟩
    rw [chk_small h, if_neg (by rw [acc_prs, any_of_prefix hpre HN.out]; simp)]
theorem check_any (s : ByteArray) (hs : s.size ≤ maxLen) (w : World) :
    Calls Tryz.prog 114 #[.string s] w fun e w' => e = .returned (.int .i64 (chk s.data.toList)) ∧ Below w.heap.size w w' := by
  by_cases h : 65536 < s.size
  · exact check_big s h hs w
  · exact check_small s h w
set_option linter.unusedSimpArgs false
set_option linter.unusedVariables false
open Go.RowKit Go.Shelf
attribute [local go_sem] Oper.semAt_some wide_fn
def badW (p : UInt8 × ByteArray) : Bool := !okW p.1 (qflag p)
theorem allW_prs (l : List UInt8) : allW l = !((prs l).any badW) := by
  unfold allW
  have := any_map_zip Prod.fst pflag (fun c f => !okW c f) (pairs l)
  rw [pairs_fst, pairs_flag] at this
  rw [this, prs, List.any_map]; rfl
theorem sz_ne {s : ByteArray} (h : 0 < s.size) : ((s.size : Int) == 0) = false := by
  simp only [beq_eq_false_iff_ne, ne_eq]; omega
theorem headLd_eq {s : ByteArray} (h0 : 0 < s.size) : headLd s.data.toList = ldI s[0].toNat := by
  have e := drop_at s 0 h0
  rw [List.drop_zero] at e
  rw [e]; rfl
set_option maxHeartbeats 400000 in
theorem word_no (s : ByteArray) (h : s.size = 0 ∨ 64 < s.size) (w : World) :
    Calls Tryz.prog 126 #[.string s] w fun e w' => e = .returned (.bool (wordB s.data.toList)) ∧ Below w.heap.size w w' := by
  have hr : wordB s.data.toList = false := by
    unfold wordB; rw [size_list]
    rcases h with h | h
    · simp [h]
    · have : ¬ s.size ≤ 64 := by omega
      simp [this]
  rw [hr]
  clear hr
  go_enter Tryz.func126, Tryz.ntmps126
  rcases h with h | h
  · have h' : ((s.size : Int) == 0) = true := by simp [h]
    have H := Lib.hid h
    clear h
    go_wp2
    exact bodyPost_ret (v := .bool false) (by simp [results, Tryz.results126, go_sem]) rfl ⟨rfl, (Below.refl _ _).alloc (Nat.le_refl _) _⟩
  · have h' := sz_ne (s := s) (by omega)
    go_wp2
    exact bodyPost_ret (v := .bool false) (by simp [results, Tryz.results126, go_sem]) rfl ⟨rfl, (Below.refl _ _).alloc (Nat.le_refl _) _⟩
set_option maxHeartbeats 400000 in
theorem word_head (s : ByteArray) (h0 : 0 < s.size) (h : s.size ≤ 64) (hh : ldI s[0].toNat = false) (w : World) :
    Calls Tryz.prog 126 #[.string s] w fun e w' => e = .returned (.bool (wordB s.data.toList)) ∧ Below w.heap.size w w' := by
  have hr : wordB s.data.toList = false := by
    unfold wordB; rw [headLd_eq h0, hh]; simp
  rw [hr]
  clear hr
  have h' := sz_ne (s := s) (by omega)
  have H := Lib.hid hh
  clear hh
  go_enter Tryz.func126, Tryz.ntmps126
  go_wp2_with (go_at_call 151; refine (ld_any _ _).mono ?_; rw [H.out]; rintro e w' ⟨rfl, rfl⟩)
  exact bodyPost_ret (v := .bool false) (by simp [results, Tryz.results126, go_sem]) rfl ⟨rfl, (Below.refl _ _).alloc (Nat.le_refl _) _⟩
theorem any_snoc {α : Type} {p : α → Bool} {a : List α} {x : α} (h : a.any p = false) (hx : p x = false) : (a ++ [x]).any p = false := by
  rw [List.any_append, h]; simp [hx]
theorem any_snoc' {α : Type} {p : α → Bool} {a : List α} {x : α} (hx : p x = true) : (a ++ [x]).any p = true := by
  rw [List.any_append]; simp [hx]
section
variable {x : UInt8 × ByteArray}
theorem bw1 (h : (kindI x.1.toNat == 1) = true) : badW x = false := by
  have h' := of_beq h; simp [badW, okW, kd, h']
theorem bw3 (h : (kindI x.1.toNat == 3) = true) : badW x = false := by
  have h' := of_beq h; simp [badW, okW, kd, h']
theorem bw4 (h : (kindI x.1.toNat == 4) = true) : badW x = false := by
  have h' := of_beq h; simp [badW, okW, kd, h']
theorem bw2 (h : (kindI x.1.toNat == 2) = true) (hf : (!decide (kindI x.1.toNat = 2)) = false ∧ (!decide (1 < x.2.size)) = false) : badW x = false := by
  have h' := of_beq h
  have h2 : 1 < x.2.size := by simpa using hf.2
  simp [badW, okW, qflag, kd, h', h2]
theorem bw2n (h : (kindI x.1.toNat == 2) = true) (hf : (!decide (kindI x.1.toNat = 2)) = true ∨ (!decide (1 < x.2.size)) = true) : badW x = true := by
  have h' := of_beq h
  have h2 : ¬ 1 < x.2.size := by simpa [h'] using hf
  simp [badW, okW, qflag, kd, h', h2]
theorem bw0 (h1 : (kindI x.1.toNat == 1) = false) (h3 : (kindI x.1.toNat == 3) = false) (h4 : (kindI x.1.toNat == 4) = false) (h2 : (kindI x.1.toNat == 2) = false) : badW x = true := by
  have a := ne_of_beq h1
  have b := ne_of_beq h3
  have c := ne_of_beq h4
  have d := ne_of_beq h2
  simp [badW, okW, kd, a, b, c, d]
end
set_option maxRecDepth 100000 in
set_option maxHeartbeats 2000000 in
theorem word_yes (s : ByteArray) (h0 : 0 < s.size) (h : s.size ≤ 64) (hh : ldI s[0].toNat = true) (w : World) :
    Calls Tryz.prog 126 #[.string s] w fun e w' => e = .returned (.bool (wordB s.data.toList)) ∧ Below w.heap.size w w' := by
  have hr : wordB s.data.toList = !((prs s.data.toList).any badW) := by
    unfold wordB; rw [headLd_eq h0, hh, allW_prs, size_list]; simp [h0, h]
  rw [hr]
  clear hr
  have h' := sz_ne (s := s) (by omega)
  have H := Lib.hid hh
  clear hh
  refine (callsIn_wide (n := 9)).1 ?_
  refine callsIn_of_wp_marks Tryz.func126 rfl trivial ?_ rfl
  simp only [Tryz.ntmps126, List.size_toArray, List.length_cons, List.length_nil, Nat.reduceAdd, Nat.reduceSub, Array.replicate_succ, Array.replicate_zero, List.push_toArray, List.append_toArray, List.nil_append, List.cons_append]
  gi_wp2_with (first
    | (exfalso; rename_i hh _; cases hh; done)
    | (gi_at_call 151; refine (callsIn_wide.2 (ld_any _ _)).mono ?_; rw [H.out]; rintro e w' ⟨rfl, rfl⟩)
    | (gi_at_call 136; refine (callsIn_wide.2 (chars_in s _)).mono ?_; rintro e w' ⟨rfl, rfl⟩))
  have bN := Boxed.new (w.alloc (.cells #[.bool false] 4)) 9 (.string s)
  rw [World.size_alloc] at bN
  have hs : s.size ≤ maxLen := by unfold maxLen; omega
  refine wpIn_rangeFunc_ownG rfl (by omega) (gf := 163) (lb := #[.pointer (some ⟨w.heap.size + 1, 0, none⟩)]) rfl trivial (enters_of Tryz.func163 (by kernel_rfl) rfl)
    (chars_stops (w.heap.size + 1) w.heap.size s hs _ (by simp) bN.cell) belowK_t (belowK_b (by simp; omega)) (Below.refl _ _) (fun _ => rfl)
    (fun pre W => (Boxed W w.heap.size 4 (.bool false) ∧ pre.any badW = false) ∧ Below w.heap.size w W)
    (fun c pre W => (Boxed W w.heap.size 4 (.bool false) ∧ c = .ret ∧ pre.any badW = true) ∧ Below w.heap.size w W)
    (OwnFrom.and (OwnFrom.and (Own.from (boxed_own _ _ _) _) (ownFrom_pure _ _)) (ownFrom_below (Nat.le_refl _) (by simp; omega)))
    (fun c => OwnFrom.and (OwnFrom.and (Own.from (boxed_own _ _ _) _) (ownFrom_pure _ _)) (ownFrom_below (Nat.le_refl _) (by simp; omega)))
    ⟨⟨(Boxed.new _ _ _).alloc _, rfl⟩, ((Below.refl _ _).alloc (Nat.le_refl _) _).alloc (by simp) _⟩
    (fun x => { tmps := #[.string s, undef, .pointer (some ⟨w.heap.size, 0, none⟩), .int .u8 x.1.toNat, .string x.2, .string s, .int .i64 s.size, .bool false, .bool false, .string s, .int .i64 s.size, .bool (decide (64 < (s.size : Int))), .bool (decide (64 < (s.size : Int))), .bool (decide (64 < (s.size : Int))), .string s, .int .u8 s[0].toNat, .bool true, .bool false, .bool (decide (64 < (s.size : Int))), .string s, .func (.func 163) #[] #[.pointer (some ⟨w.heap.size + 1, 0, none⟩)], .int .u8 x.1.toNat, .string x.2, undef, undef, undef, undef, undef, undef, undef, undef, undef, undef, undef, undef], defers := [] }) ?assign ?body ?done ?stop
  case assign =>
    intro l x W K hK
    gi_wp2
    exact hK
  case body =>
    rintro l pre x W ⟨⟨hb, hn⟩, hB⟩ hlt
    have hc := hb.cell
    have hf := hb.frozen
    have HN := Lib.hid hn
    clear hn
    gi_wp2_with (first
      | (exfalso; rename_i hh _; cases hh; done)
      | (gi_at_call 137; refine (CallsIn.inRound l (callsIn_wide.2 (kind_any _ _))).mono ?_; rintro e w' ⟨rfl, rfl⟩)
      | (gi_at_call 138; refine (CallsIn.inRound l (callsIn_wide.2 (stands_any _ _ _))).mono ?_; rintro e w' ⟨rfl, rfl⟩))
    · exact ⟨KeepsFrom.refl _ _, Below.refl _ _, ⟨hb, any_snoc HN.out (bw1 (by assumption))⟩, hB⟩
    · exact ⟨KeepsFrom.refl _ _, Below.refl _ _, ⟨hb, any_snoc HN.out (bw3 (by assumption))⟩, hB⟩
    · exact ⟨KeepsFrom.refl _ _, Below.refl _ _, ⟨hb, any_snoc HN.out (bw4 (by assumption))⟩, hB⟩
    · exact ⟨(KeepsOthers.setCell _ _ _).from _, ⟨hb.set _, rfl, any_snoc' (bw2n (by assumption) (by assumption))⟩, hB.setCell (p := ⟨w.heap.size, 0, none⟩) (Nat.le_refl _) _⟩
    · exact ⟨KeepsFrom.refl _ _, Below.refl _ _, ⟨hb, any_snoc HN.out (bw2 (by assumption) (by assumption))⟩, hB⟩
    · exact ⟨(KeepsOthers.setCell _ _ _).from _, ⟨hb.set _, rfl, any_snoc' (bw0 (by assumption) (by assumption) (by assumption) (by assumption))⟩, hB.setCell (p := ⟨w.heap.size, 0, none⟩) (Nat.le_refl _) _⟩
  case done =>
    rintro D xs W hD rfl ⟨⟨hb, hn⟩, hB⟩ hK
    have hc := hb.cell
    have hf := hb.frozen
    have HN := Lib.hid hn
    clear hn
    gi_wp2
    have hb' := hb.set (.bool true)
    have hK' := fin_store (B := w.heap.size) (.bool true) hK
    have hc5 := fin_cell hb' hK'
    refine ⟨by simp, .inl ⟨_, _, rfl, run_takeDeferred hK', ?_⟩⟩
    exact ⟨.bool true, by simp [results, Tryz.f126, go_sem, hc5], ret_bool (by rw [HN.out]; rfl), fin_below (hB.setCell (p := ⟨w.heap.size, 0, none⟩) (Nat.le_refl _) _) (by simp; omega) hD hK'⟩
  case stop =>
    rintro D c pre W hD hpre ⟨⟨hb, rfl, hn⟩, hB⟩ hK
    have HN := Lib.hid hn
    clear hn
    gi_wp2
    have hc5 := fin_cell hb hK
    refine ⟨by simp, .inl ⟨_, _, rfl, run_takeDeferred hK, ?_⟩⟩
    exact ⟨.bool false, by simp [results, Tryz.f126, go_sem, hc5], ret_bool (by rw [any_of_prefix hpre HN.out]; rfl), fin_below hB (by simp; omega) hD hK⟩
theorem word_any (s : ByteArray) (w : World) :
    Calls Tryz.prog 126 #[.string s] w fun e w' => e = .returned (.bool (wordB s.data.toList)) ∧ Below w.heap.size w w' := by
  by_cases h : s.size = 0 ∨ 64 < s.size
  · exact word_no s h w
  · have h0 : 0 < s.size := by omega
    by_cases hh : ldI s[0].toNat = true
    · exact word_yes s h0 (by omega) hh w
    · exact word_head s h0 (by omega) (by simpa using hh) w
set_option linter.unusedSimpArgs false
set_option linter.unusedVariables false
open Go.RowKit
theorem lettersN_le (l : List UInt8) : lettersN l ≤ l.length := List.length_filter_le _ _
theorem take_snoc (s : ByteArray) (k : Nat) (h : k < s.size) : s.data.toList.take (k + 1) = s.data.toList.take k ++ [s[k]] := by
  rw [List.take_succ_eq_append_getElem (by simpa using h)]; rfl
theorem take_all (s : ByteArray) (k : Nat) (h : s.size ≤ k) : s.data.toList.take k = s.data.toList := List.take_of_length_le (by simpa using h)
theorem letters_snoc (s : ByteArray) (k : Nat) (h : k < s.size) : lettersN (s.data.toList.take (k + 1)) = lettersN (s.data.toList.take k) + if ldI s[k].toNat = true then 1 else 0 := by
  rw [take_snoc s k h, lettersN, lettersN, List.filter_append, List.length_append]
  by_cases hl : ldI s[k].toNat = true
  · rw [if_pos hl]; simp [List.filter_cons, ldB, hl]
  · rw [if_neg hl]; simp [List.filter_cons, ldB, hl]
theorem ldI_kind (c : Int) : ldI c = ((kindI c == 1) || (kindI c == 3)) := by simp [ldI, beqd]
theorem ldk1 {c : Int} (h : kindI c = 1) : ldI c = true := by simp [ldI, h]
theorem ldk3 {c : Int} (h : (kindI c == 1) = true ∨ (kindI c == 3) = true) : ldI c = true := by
  rw [ldI_kind]; simpa using h
theorem ldkn {c : Int} (h : (kindI c == 1) = false ∧ (kindI c == 3) = false) : ¬ ldI c = true := by
  rw [ldI_kind, h.1, h.2]; simp
set_option maxHeartbeats 400000 in
theorem letters_any (s : ByteArray) (hs : s.size ≤ maxLen) (w : World) :
    Calls Tryz.prog 150 #[.string s] w fun e w' => e = .returned (.int .i64 (lettersN s.data.toList)) ∧ w = w' := by
  unfold maxLen at hs
  go_enter Tryz.func150, Tryz.ntmps150
  go_wp2
  go_loop [3, 7] (fun n i => ∃ k : Nat, k ≤ s.size ∧ i = .int .i64 k ∧ n = .int .i64 (lettersN (s.data.toList.take k))) (fun _ i => s.size - (intOf i).toNat)
  case atStart => exact ⟨0, Nat.zero_le _, rfl, rfl⟩
  case round =>
    obtain ⟨k, hk, rfl, rfl⟩ := hrel
    have hd := lettersN_le (s.data.toList.take k)
    have hl : (s.data.toList.take k).length ≤ k := List.length_take_le _ _
    by_cases hlt : k < s.size
    · have HS := Lib.hid (letters_snoc s k hlt)
      by_cases ht : ldI s[k].toNat = true
      · have HT := Lib.hid ht
        clear ht
        go_wp2_with (go_at_call 151; refine (ld_any _ _).mono ?_; rw [HT.out]; rintro e w' ⟨rfl, rfl⟩)
        go_round
        case rel => exact ⟨k + 1, by omega, by go_num, by rw [HS.out, if_pos HT.out]; go_num⟩
        case measure => simp [intOf]; omega
      · have ht' : ldI s[k].toNat = false := by simpa using ht
        have HT := Lib.hid ht'
        clear ht ht'
        go_wp2_with (go_at_call 151; refine (ld_any _ _).mono ?_; rw [HT.out]; rintro e w' ⟨rfl, rfl⟩)
        go_round
        case rel => exact ⟨k + 1, by omega, by go_num, by rw [HS.out, HT.out]; rfl⟩
        case measure => simp [intOf]; omega
    · go_wp2
      go_ret
      exact ⟨ret_int (by rw [take_all s k (by omega)]), rfl⟩
set_option maxHeartbeats 400000 in
theorem name_any (s : ByteArray) (hs : s.size ≤ maxLen) (w : World) :
    Calls Tryz.prog 125 #[.string s] w fun e w' => e = .returned (.bool (nameB s.data.toList)) ∧ w = w' := by
  go_enter Tryz.func125, Tryz.ntmps125
  go_wp2_with (go_at_call 150; refine (letters_any s hs _).mono ?_; rintro e w' ⟨rfl, rfl⟩)
  · have h16 : (s.size : Int) ≤ 16 := by assumption
    have h0 : 0 < s.size := by assumption
    go_ret
    refine ⟨ret_bool ?_, rfl⟩
    have h' : s.size ≤ 16 := by omega
    rw [nameB, size_list]
    by_cases hE : lettersN s.data.toList = s.size
    · rw [hE]; simp [h0, h']
    · have hE' : ¬ ((lettersN s.data.toList : Nat) : Int) = (s.size : Int) := by omega
      simp [hE, hE']
  · have h16 : (16 : Int) < s.size := by assumption
    go_ret
    refine ⟨ret_bool ?_, rfl⟩
    have h' : ¬ s.size ≤ 16 := by omega
    rw [nameB, size_list]; simp [h']
  · have h0 : ¬ 0 < s.size := by assumption
    go_ret
    refine ⟨ret_bool ?_, rfl⟩
    rw [nameB, size_list]; simp [h0]
end Go.Proofs.YtmfcepfagbkceaaGreatDoor.C01
