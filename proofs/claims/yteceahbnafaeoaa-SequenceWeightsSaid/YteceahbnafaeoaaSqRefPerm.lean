/- The reference's Permutation. -/
import Derived.Test.YteceahbnafaeoaaSqClone
import Derived.Test.YteceahbnafaeoaaSqRow
import Derived.StillTailTactics
import Derived.Deep.OwnRows
namespace Go.Proofs.Yteceahbnafaeoaa
set_option linter.unusedSimpArgs false
set_option linter.unusedVariables false
set_option maxRecDepth 100000
open Go.RowKit Go.Deep

set_option maxHeartbeats 8000000 in
theorem refPerm_any (l : List Int) (hl : l.length ≤ 1000000) (v : Value) (w : World) (hv : IntsAt w v l) (r : Bool) (hr : permB l = r) :
    Calls Try.prog 26 #[v] w fun e w' => e = .returned (.bool r) ∧ Below w.heap.size w w' := by
  have HV := Lib.hid hv
  obtain ⟨a, cap, rfl⟩ := hv.slice
  have HR := Lib.hid hr
  have hmk := run_make_row' (P := Try.prog) 72 4 (.bool false) 1 rfl info_bool rfl
  have hmk1 := fun W => hmk .i64 .i64 l.length (by omega) (by omega) W
  clear hv hr hmk
  go_enter Try.func26, Try.ntmps26
  go_wp2_with fail
  clear hmk1
  have hrow := RowN.of_row (World.rowIs_made w (.bool false) l.length 4)
  obtain ⟨wa, hwa⟩ : ∃ x, w.alloc (.cells (madeCells #[.bool false] l.length) 4) = x := ⟨_, rfl⟩
  have hBa : Below w.heap.size w wa := by rw [← hwa]; exact (Below.refl _ _).alloc (Nat.le_refl _) _
  rw [hwa] at hrow
  try rw [hwa]
  have HROW0 := Lib.hid hrow
  have HB0 := Lib.hid hBa
  obtain ⟨R, hR⟩ : ∃ R, w.heap.size = R := ⟨_, rfl⟩
  rw [hR] at HROW0
  try rw [hR]
  have hRw : w.heap.size ≤ R := by omega
  clear hwa hrow hBa
  go_loopw [4] (fun i wr => ∃ k : Nat, k ≤ l.length ∧ i = .int .i64 k ∧ Below w.heap.size w wr ∧ (l.take k).all (inB l) = true ∧ (l.take k).Nodup ∧ RowN wr R 4 l.length (fun j => .bool (decide ((j : Int) ∈ l.take k)))) (fun i _ => l.length - (intOf i).toNat)
  case atStart => exact ⟨0, Nat.zero_le _, rfl, HB0.out, rfl, List.nodup_nil, HROW0.out.congr fun j _ => by simp⟩
  case round =>
    obtain ⟨k, hk, rfl, hB, h1, h2, hrow⟩ := hrel
    obtain ⟨wk, rfl⟩ : ∃ x, x = wr := ⟨_, rfl⟩
    have HB := Lib.hid hB
    have H12 := Lib.hid (And.intro h1 h2)
    have HROW := Lib.hid hrow
    by_cases hlt : k < l.length
    · obtain ⟨b, off, rfl, hbb, c0⟩ := HV.out.elem hlt
      have hcell : wk.cell? ⟨b, off + k, none⟩ = some (.int .i64 l[k]) := (hB.cell (p := ⟨b, off + k, none⟩) hbb).trans c0
      have HOUT := Lib.hid (fun h => perm_out hlt h)
      have HTW := Lib.hid (fun h => perm_twice hlt h)
      have HPT := Lib.hid (fun hi hn => perm_take hlt h1 h2 hi hn)
      have HTK := Lib.hid (take_succ_int l k hlt)
      obtain ⟨x, hx⟩ : ∃ x, l[k] = x := ⟨_, rfl⟩
      rw [hx] at hcell HOUT HTW HPT HTK
      clear hx c0 h1 h2 hB hrow
      by_cases hin : 0 ≤ x ∧ x < (l.length : Int)
      · obtain ⟨y, rfl⟩ : ∃ y : Nat, x = y := ⟨x.toNat, by omega⟩
        have hyl : y < l.length := by omega
        have hcy := HROW.out.cell hyl
        have hfy := HROW.out.frozen y
        have hd1 : decide ((y : Int) < 0) = false := decide_eq_false (by omega)
        have hd2 : decide ((l.length : Int) ≤ (y : Int)) = false := decide_eq_false (by omega)
        have hy0 : (0 : Int) ≤ (y : Int) := by omega
        have hy1 : (y : Int) < (l.length : Int) := by omega
        have HIN := Lib.hid (show inB l y = true by unfold inB; rw [decide_eq_true hy0, decide_eq_true hy1]; rfl)
        obtain ⟨s, hs⟩ : ∃ s, decide ((y : Int) ∈ l.take k) = s := ⟨_, rfl⟩
        simp only [hs] at hcy
        have HS := Lib.hid hs
        have HSET := Lib.hid (HROW.out.set y (.bool true))
        have HBS := Lib.hid (HB.out.setCell (p := ⟨R, y, none⟩) hRw (.bool true))
        clear hs hin
        cases s with
        | true =>
          go_wp2
          go_ret
          exact ⟨ret_bool (by rw [← HR.out, HTW.out (by simpa using HS.out)]), by first | exact HB.out | (rw [← hR]; exact HB.out)⟩
        | false =>
          go_wp2
          go_roundw
          case rel =>
            have hn : (y : Int) ∉ l.take k := by simpa using HS.out
            obtain ⟨p1, p2⟩ := HPT.out HIN.out hn
            refine ⟨k + 1, by omega, by go_num, HBS.out, p1, p2, HSET.out.congr fun j hj => ?_⟩
            rw [HTK.out]
            by_cases e : j = y
            · subst e; simp
            · rw [if_neg e]
              congr 1
              rw [decide_eq_decide, List.mem_append, List.mem_singleton]
              exact ⟨Or.inl, fun h => h.resolve_right (by omega)⟩
          case measure => simp [intOf]; omega
      · have HNI := Lib.hid (HOUT.out (by
          unfold inB
          rw [Bool.and_eq_false_iff, decide_eq_false_iff_not, decide_eq_false_iff_not]
          omega))
        by_cases h0 : x < 0
        · go_wp2
          go_ret
          exact ⟨ret_bool (by rw [← HR.out, HNI.out]), by first | exact HB.out | (rw [← hR]; exact HB.out)⟩
        · have hge : (l.length : Int) ≤ x := by omega
          clear hin
          go_wp2
          go_ret
          exact ⟨ret_bool (by rw [← HR.out, HNI.out]), by first | exact HB.out | (rw [← hR]; exact HB.out)⟩
    · obtain rfl : k = l.length := by omega
      clear hrow hB
      go_wp2
      go_ret
      refine ⟨ret_bool ?_, HB.out⟩
      have h3 := H12.out
      rw [List.take_length] at h3
      rw [← HR.out]
      unfold permB
      rw [show l.all (fun x => inB l x) = true from h3.1, decide_eq_true h3.2]; rfl
end Go.Proofs.Yteceahbnafaeoaa
