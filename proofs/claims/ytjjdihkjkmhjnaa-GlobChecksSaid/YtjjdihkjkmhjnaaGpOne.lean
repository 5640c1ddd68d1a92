/- Kind, isOfWords, oneOf. -/
import Derived.Test.YtjjdihkjkmhjnaaGpAll
import Derived.WalkLawsBesides
namespace Go.Proofs.Ytjjdihkjkmhjnaa
set_option linter.unusedSimpArgs false
set_option linter.unusedVariables false
set_option maxRecDepth 100000
open Go.RowKit Go.Deep

set_option maxHeartbeats 1000000 in
theorem kind_any (c : Int) (w : World) :
    Calls Try.prog 84 #[.int .u8 c] w fun e w' => e = .returned (intV (kindI c)) ∧ w = w' := by
  go_enter Try.func84, Try.ntmps84
  go_wp2
  all_goals go_ret
  all_goals refine ⟨ret_int ?_, rfl⟩
  all_goals try simp only [beq_iff_eq, beq_eq_false_iff_ne, ne_eq] at *
  all_goals unfold kindI
  all_goals omega
theorem isOf_at (c : UInt8) (b : Bool) (hb : chW c = b) (w : World) :
    Calls Try.prog 81 #[.int .u8 c.toNat] w fun e w' => e = .returned (.bool b) ∧ w = w' := by
  unfold chW chI at hb
  have HK := Lib.hid (kind_any c.toNat w)
  obtain ⟨k, hk⟩ : ∃ k, kindI c.toNat = k := ⟨_, rfl⟩
  rw [hk] at hb HK
  obtain ⟨b1, h1⟩ : ∃ b1, ((c.toNat : Int) == 42) = b1 := ⟨_, rfl⟩
  obtain ⟨b2, h2⟩ : ∃ b2, (k != 0) = b2 := ⟨_, rfl⟩
  obtain ⟨b3, h3⟩ : ∃ b3, (k != 6) = b3 := ⟨_, rfl⟩
  rw [h1, h2, h3] at hb
  subst hb
  clear hk
  go_enter Try.func81, Try.ntmps81
  go_wp2_with fail
  refine HK.out.mono ?_
  rintro e w1 ⟨rfl, rfl⟩
  cases b1 <;> cases b2 <;> cases b3
  all_goals go_wp2_with fail
  all_goals go_ret
  all_goals exact ⟨rfl, rfl⟩
def bytesOf (l : List UInt8) : Nat → Bool := fun i => l.any fun c => c.toNat == i
/-- what oneOf gives -/
def oneV (tx : ByteArray) (cs : List UInt8) : Array Value × Int := if cs.all chW then (cellA tx (bytesOf cs) false, 0) else (zeroA, 11)
theorem load_el {W : World} {A : Array Value} {g : Nat} {t : TypeId} (hg : W.heap[g]? = some (.cells A t (0, 0))) (hA : A.size = 258) : (loadVar 55 ⟨g, 0, none⟩).run Try.prog W = .ok (.agg A) W :=
  run_loadVar_row W g t _ A (0, 0) _ hg Try.underlying55 rfl (by rw [hA]; exact (zero_of_info info_el).2)
set_option maxHeartbeats 1000000 in
theorem oneOf_at (cs tx : ByteArray) (hcs : cs.size ≤ 64) (A : Array Value) (r : Int) (h : oneV tx cs.data.toList = (A, r)) (w : World) :
    Calls Try.prog 71 #[.string cs, .string tx] w fun e w' => e = .returned (.tuple #[.agg A, intV r]) ∧ Below w.heap.size w w' := by
  obtain ⟨hz, hi⟩ := zero_of_info info_el
  have HH := Lib.hid h
  clear hi h
  go_enter Try.func71, Try.ntmps71
  go_wp2_with (first
    | (refine wpList_build_as rfl 55 #[(0, .tmp 8)] rfl [(0, .string tx)] rfl _ (built_text tx) ?_)
    | (refine wpList_store_into rfl 55 (.tmp 6) (.tmp 9) rfl (w.heap.size + 1) (cellA tx (fun _ => false) false) rfl rfl 55 zeroA (heap_alloc2_new w (.cells zeroA 55) (.cells zeroA 55)) (size_el _ _ _) (by rw [zeroA_eq, cellA_size, cellA_size]) (cellA_one _ _ _) ?_; intro W0 g1 g2 g3; have HG := Lib.hid (And.intro g1 (And.intro ((g2 w.heap.size (by omega)).trans (heap_alloc2_old w _ _)) (below_seq (((Below.refl w.heap.size w).alloc (Nat.le_refl _) (.cells zeroA 55)).alloc (by simp) (.cells zeroA 55)) (g3 w.heap.size (by omega)) (Nat.le_refl _)))); clear g1 g2 g3))
  go_loopw [12] (fun v12 wr => ∃ k : Nat, k ≤ cs.size ∧ v12 = .int .i64 k ∧ Hid ((cs.data.toList.take k).all chW = true ∧ wr.heap[w.heap.size + 1]? = some (.cells (cellA tx (bytesOf (cs.data.toList.take k)) false) 55 (0, 0)) ∧ wr.heap[w.heap.size]? = some (.cells zeroA 55 (0, 0)) ∧ Below w.heap.size w wr)) (fun v12 _ => cs.size - (intOf v12).toNat)
  case atStart =>
    refine ⟨0, by omega, rfl, Lib.hid ⟨rfl, ?_, HG.out.2.1, HG.out.2.2⟩⟩
    exact HG.out.1
  case round =>
    obtain ⟨k, hk, rfl, HR⟩ := hrel
    obtain ⟨wk, rfl⟩ : ∃ x, x = wr := ⟨_, rfl⟩
    by_cases hlt : k < cs.size
    · obtain ⟨c, hc⟩ : ∃ c, cs[k] = c := ⟨_, rfl⟩
      have hl : k < cs.data.toList.length := by rw [size_list]; exact hlt
      have htk : cs.data.toList.take (k + 1) = cs.data.toList.take k ++ [c] := by rw [List.take_succ_eq_append_getElem hl, ba_get cs k hlt, hc]
      have HTK := Lib.hid htk
      have hbc : (c.toNat : Int) < 256 := by have := UInt8.toNat_lt c; omega
      have hmem : c ∈ cs.data.toList := by rw [← hc, ← ba_get cs k hlt]; exact List.getElem_mem _
      have HM := Lib.hid hmem
      clear htk hmem hl
      obtain ⟨b, hb⟩ : ∃ b, chW c = b := ⟨_, rfl⟩
      have HW := Lib.hid hb
      have HK := Lib.hid (isOf_at c b hb wk)
      clear hb
      cases b with
      | true =>
        have h1 := HR.out.2.1
        have hce : wk.cell? ⟨w.heap.size + 1, 1 + c.toNat, none⟩ = some (.bool (bytesOf (cs.data.toList.take k) c.toNat)) := by
          rw [cell_of_row wk _ _ _ _ _ h1, cellA, List.getElem?_toArray, cellL_byte _ _ _ (UInt8.toNat_lt c)]
        have hfr : wk.frozen? ⟨w.heap.size + 1, 1 + c.toNat, none⟩ = false := frozen_of_row wk _ _ _ _ h1
        clear h1
        go_wp2_with fail
        refine HK.out.mono ?_
        rintro e w1 ⟨rfl, rfl⟩
        go_wp2_with fail
        refine ⟨⟨k + 1, by omega, by go_num, Lib.hid ⟨?_, ?_, ?_, ?_⟩⟩, by simp [intOf]; omega⟩
        · rw [HTK.out, List.all_append, HR.out.1]; simp [HW.out]
        · rw [heap_setCell_same _ _ _ _ _ _ HR.out.2.1, cellA_set _ _ _ (UInt8.toNat_lt c)]
          have : cellA tx (fun i => if i = c.toNat then true else bytesOf (cs.data.toList.take k) i) false = cellA tx (bytesOf (cs.data.toList.take (k + 1))) false := by
            unfold cellA cellL
            rw [rowL_congr]
            intro i hi
            unfold bytesOf
            rw [HTK.out, List.any_append]
            by_cases e : i = c.toNat
            · subst e; simp
            · rw [if_neg e]
              have : (c.toNat == i) = false := by simpa using fun h : c.toNat = i => e h.symm
              simp [this]
          rw [this]
        · rw [heap_setCell_other _ _ _ _ (by show w.heap.size ≠ w.heap.size + 1; omega)]; exact HR.out.2.2.1
        · exact HR.out.2.2.2.setCell (by show w.heap.size ≤ w.heap.size + 1; omega) _
      | false =>
        have hh := HH.out
        rw [oneV, if_neg (by rw [List.all_eq_true]; intro h; have := h c HM.out; rw [HW.out] at this; cases this)] at hh
        simp only [Prod.mk.injEq] at hh
        obtain ⟨rfl, rfl⟩ := hh
        go_wp2_with fail
        refine HK.out.mono ?_
        rintro e w1 ⟨rfl, rfl⟩
        go_wp2_with (refine wpList_store_into rfl 55 (.tmp 4) (.tmp 20) rfl w.heap.size zeroA rfl rfl 55 zeroA HR.out.2.2.1 (size_el _ _ _) rfl (cellA_one _ _ _) ?_; intro W1 g1 g2 g3; have HG1 := Lib.hid (And.intro g1 (below_seq HR.out.2.2.2 (g3 w.heap.size (Nat.le_refl _)) (Nat.le_refl _))); clear g1 g2 g3)
        have hl := load_el HG1.out.1 (cellA_size _ _ _)
        refine bodyPost_ret (v := .tuple #[.agg zeroA, intV 11]) ?_ rfl ⟨rfl, HG1.out.2⟩
        simp [results, Try.results71, asAddr, hl]
    · obtain rfl : k = cs.size := by omega
      have hr := HR.out
      rw [List.take_of_length_le (by rw [size_list]; exact Nat.le_refl _)] at hr
      have hh := HH.out
      rw [oneV, if_pos hr.1] at hh
      simp only [Prod.mk.injEq] at hh
      obtain ⟨rfl, rfl⟩ := hh
      have HRR := Lib.hid hr
      clear hr
      go_wp2_with (first
        | (refine wpList_load_row rfl 55 (.tmp 6) rfl (w.heap.size + 1) rfl 55 _ (0, 0) _ HRR.out.2.1 Try.underlying55 rfl (size_el _ _ _) ?_)
        | (refine wpList_store_into rfl 55 (.tmp 4) (.tmp 27) rfl w.heap.size (cellA tx (bytesOf cs.data.toList) false) rfl rfl 55 zeroA HRR.out.2.2.1 (size_el _ _ _) (by rw [zeroA_eq, cellA_size, cellA_size]) (cellA_one _ _ _) ?_; intro W1 g1 g2 g3; have HG1 := Lib.hid (And.intro g1 (below_seq HRR.out.2.2.2 (g3 w.heap.size (Nat.le_refl _)) (Nat.le_refl _))); clear g1 g2 g3))
      have hl := load_el HG1.out.1 (cellA_size _ _ _)
      refine bodyPost_ret (v := .tuple #[.agg (cellA tx (bytesOf cs.data.toList) false), intV 0]) ?_ rfl ⟨rfl, HG1.out.2⟩
      simp [results, Try.results71, asAddr, hl]
end Go.Proofs.Ytjjdihkjkmhjnaa
