/- The reference's Great and GreatLists. -/
import Derived.Test.YteceahbnafaeoaaSqHelp
namespace Go.Proofs.Yteceahbnafaeoaa
set_option linter.unusedSimpArgs false
set_option linter.unusedVariables false
set_option maxRecDepth 100000
open Go.RowKit Go.Deep

def greatB (l : List Int) : Bool := decide (1027 < l.length) || (decide (12 < l.length) && (decide (l.length ≤ 1024) || l.any fun x => x != ix l 0))
theorem great_no {l : List Int} (h : greatB l = false) : l.length ≤ 12 ∨ 1024 < l.length ∧ l.length ≤ 1027 := by
  unfold greatB at h
  rw [Bool.or_eq_false_iff, decide_eq_false_iff_not, Bool.and_eq_false_iff, decide_eq_false_iff_not, Bool.or_eq_false_iff, decide_eq_false_iff_not] at h
  omega
set_option maxHeartbeats 4000000 in
theorem great_any (l : List Int) (hl : l.length ≤ maxLen) (r : Bool) (hr : greatB l = r) (v : Value) (w : World) (hv : IntsAt w v l) :
    Calls Try.prog 11 #[v] w fun e w' => e = .returned (.bool r) ∧ Below w.heap.size w w' := by
  have HV := Lib.hid hv
  have HR := Lib.hid hr
  obtain ⟨a, cap, rfl⟩ := hv.slice
  unfold maxLen at hl
  by_cases h1 : 1027 < l.length
  · have t1 : decide ((1027 : Int) < (l.length : Int)) = true := decide_eq_true (by omega)
    have e : r = true := by rw [← hr]; unfold greatB; rw [decide_eq_true h1]; rfl
    subst e
    clear hv hr
    go_enter Try.func11, Try.ntmps11
    go_wp2
    go_ret
    exact ⟨rfl, Below.refl _ _⟩
  · have t1 : decide ((1027 : Int) < (l.length : Int)) = false := decide_eq_false (by omega)
    have HL := Lib.hid h1
    have hl2 : l.length ≤ 1027 := by omega
    clear hv hr h1 hl
    go_enter Try.func11, Try.ntmps11
    go_wp2
    go_loopw [3] (fun i wr => ∃ k : Nat, k ≤ l.length ∧ i = .int .i64 k ∧ (12 < l.length → 0 < k → 1024 < l.length) ∧ (12 < l.length → ∀ x ∈ l.take k, x = ix l 0) ∧ Below w.heap.size w wr) (fun i _ => l.length - (intOf i).toNat)
    case atStart => exact ⟨0, Nat.zero_le _, rfl, fun _ h => absurd h (by decide), fun _ => by simp, Below.refl _ _⟩
    case round =>
      obtain ⟨k, hk, rfl, hz, hq, hB⟩ := hrel
      obtain ⟨wk, rfl⟩ : ∃ x, x = wr := ⟨_, rfl⟩
      have HB := Lib.hid hB
      have HQ := Lib.hid hq
      have HZ := Lib.hid hz
      by_cases hlt : k < l.length
      · by_cases h12 : 12 < l.length
        · have t12 : decide ((12 : Int) < (l.length : Int)) = true := decide_eq_true (by omega)
          by_cases h24 : l.length ≤ 1024
          · have t24 : decide ((l.length : Int) ≤ 1024) = true := decide_eq_true (by omega)
            have HE := Lib.hid (show r = true by rw [← HR.out]; unfold greatB; rw [decide_eq_true h12, decide_eq_true h24]; simp)
            clear hz hq hB
            go_wp2_with fail
            go_quiet (fail)
            go_wp2
            go_ret
            exact ⟨ret_bool (by rw [HE.out]), HB.out.trans (below_drewN_n _ _ _)⟩
          · have t24 : decide ((l.length : Int) ≤ 1024) = false := decide_eq_false (by omega)
            obtain ⟨b, off, rfl, hbb, c0⟩ := HV.out.elem hlt
            obtain ⟨b', off', e', _, c1⟩ := HV.out.elem (show 0 < l.length by omega)
            cases e'
            have h1 := (hB.cell (p := ⟨b, off + k, none⟩) hbb).trans c0
            have h2 := (hB.cell (p := ⟨b, off + 0, none⟩) hbb).trans c1
            have HX0 := Lib.hid (show ix l 0 = l[0] from ix_get l 0 (by omega))
            have HTK := Lib.hid (take_succ_int l k hlt)
            have HMEM := Lib.hid (List.getElem_mem hlt)
            obtain ⟨x, hx⟩ : ∃ x, l[k] = x := ⟨_, rfl⟩
            obtain ⟨y, hy⟩ : ∃ y, l[0] = y := ⟨_, rfl⟩
            rw [hx] at h1 HTK HMEM
            rw [hy] at h2 HX0
            rw [Nat.add_zero] at h2
            have k0 : (0 : Int) ≤ (k : Int) := by omega
            have k1 : (k : Int) < (l.length : Int) := by omega
            have k2 : (0 : Int) < (l.length : Int) := by omega
            clear hz hq hB c0 c1 hx hy
            by_cases hxy : x = y
            · have t3 : (x != y) = false := by rw [hxy]; simp
              have HXY := Lib.hid hxy
              clear hxy
              go_wp2_with fail
              go_quiet (fail)
              go_wp2
              go_roundw
              case rel =>
                refine ⟨k + 1, by omega, by go_num, fun _ _ => by omega, fun h z hz => ?_, HB.out.trans (below_drewN_n _ _ _)⟩
                rw [HTK.out] at hz
                rcases List.mem_append.1 hz with hz | hz
                · exact HQ.out h z hz
                · simp at hz; rw [hz, HX0.out, HXY.out]
              case measure => simp [intOf]; omega
            · have t3 : (x != y) = true := by rw [bne_iff_ne]; exact hxy
              have HE := Lib.hid (show r = true by
                rw [← HR.out]; unfold greatB
                rw [decide_eq_true h12]
                have : (l.any fun z => z != ix l 0) = true := by
                  rw [List.any_eq_true]
                  exact ⟨x, HMEM.out, by rw [HX0.out]; exact t3⟩
                rw [this]; simp)
              go_wp2_with fail
              go_quiet (fail)
              go_wp2
              go_ret
              exact ⟨ret_bool (by rw [HE.out]), HB.out.trans (below_drewN_n _ _ _)⟩
        · have t12 : decide ((12 : Int) < (l.length : Int)) = false := decide_eq_false (by omega)
          clear hz hq hB
          go_wp2_with fail
          go_quiet (fail)
          go_wp2
          go_roundw
          case rel => exact ⟨k + 1, by omega, by go_num, fun h => absurd h h12, fun h => absurd h h12, HB.out.trans (below_drewN_n _ _ _)⟩
          case measure => simp [intOf]; omega
      · obtain rfl : k = l.length := by omega
        have HE := Lib.hid (show r = false by
          rw [← HR.out]; unfold greatB
          rw [decide_eq_false (by omega), Bool.false_or]
          by_cases h : 12 < l.length
          · rw [decide_eq_true h, decide_eq_false (by have := hz h (by omega); omega), Bool.false_or, Bool.true_and, List.any_eq_false]
            intro x hx
            have := hq h x (by rw [List.take_length]; exact hx)
            simp [this]
          · rw [decide_eq_false h]; rfl)
        clear hz hq hB
        go_wp2
        go_ret
        exact ⟨ret_bool (by rw [HE.out]), HB.out⟩
def greatLB (L : List (List Int)) : Bool := L.any (fun l => decide (12 < l.length)) || decide (12 < L.length)
theorem greatL_no {L : List (List Int)} (h : greatLB L = false) : L.length ≤ 12 ∧ ∀ l ∈ L, l.length ≤ 12 := by
  unfold greatLB at h
  rw [Bool.or_eq_false_iff, decide_eq_false_iff_not, List.any_eq_false] at h
  exact ⟨by omega, fun l hl => by have := h.1 l hl; simpa using this⟩
set_option maxHeartbeats 4000000 in
theorem greatL_any (L : List (List Int)) (hl : L.length ≤ maxLen) (r : Bool) (hr : greatLB L = r) (v : Value) (w : World) (hv : ListsAt w v L) :
    Calls Try.prog 27 #[v] w fun e w' => e = .returned (.bool r) ∧ Below w.heap.size w w' := by
  have HV := Lib.hid hv
  have HR := Lib.hid hr
  obtain ⟨a, cap, rfl⟩ := hv.slice
  unfold maxLen at hl
  clear hv hr
  go_enter Try.func27, Try.ntmps27
  go_wp2
  go_loopw [3] (fun i wr => ∃ k : Nat, k ≤ L.length ∧ i = .int .i64 k ∧ (L.take k).any (fun l => decide (12 < l.length)) = false ∧ Below w.heap.size w wr) (fun i _ => L.length - (intOf i).toNat)
  case atStart => exact ⟨0, Nat.zero_le _, rfl, rfl, Below.refl _ _⟩
  case round =>
    obtain ⟨k, hk, rfl, hq, hB⟩ := hrel
    obtain ⟨wk, rfl⟩ : ∃ x, x = wr := ⟨_, rfl⟩
    have HB := Lib.hid hB
    have HQ := Lib.hid hq
    by_cases hlt : k < L.length
    · obtain ⟨b, off, u, c, rfl, hbb, h1, _⟩ := (HV.out.below hB).elem hlt
      have HTK := Lib.hid (take_succ_list L k hlt)
      have HMEM := Lib.hid (List.getElem_mem hlt)
      obtain ⟨x, hx⟩ : ∃ x, L[k] = x := ⟨_, rfl⟩
      rw [hx] at h1 HTK HMEM
      clear hq hB hx
      by_cases hx : 12 < x.length
      · have t1 : decide ((12 : Int) < (x.length : Int)) = true := decide_eq_true (by omega)
        have HE := Lib.hid (show r = true by
          rw [← HR.out]; unfold greatLB
          have : L.any (fun l => decide (12 < l.length)) = true := List.any_eq_true.2 ⟨x, HMEM.out, decide_eq_true hx⟩
          rw [this]; rfl)
        go_wp2
        go_ret
        exact ⟨ret_bool (by rw [HE.out]), HB.out⟩
      · have t1 : decide ((12 : Int) < (x.length : Int)) = false := decide_eq_false (by omega)
        go_wp2
        go_roundw
        case rel => exact ⟨k + 1, by omega, by go_num, by rw [HTK.out, List.any_append, HQ.out]; simp; omega, HB.out⟩
        case measure => simp [intOf]; omega
    · obtain rfl : k = L.length := by omega
      have HE := Lib.hid (show r = decide (12 < L.length) by rw [← HR.out]; unfold greatLB; rw [List.take_length] at hq; rw [hq, Bool.false_or])
      clear hq hB
      by_cases hx : 12 < L.length
      · have t1 : decide ((12 : Int) < (L.length : Int)) = true := decide_eq_true (by omega)
        go_wp2
        go_ret
        exact ⟨ret_bool (by rw [HE.out, decide_eq_true hx]), HB.out⟩
      · have t1 : decide ((12 : Int) < (L.length : Int)) = false := decide_eq_false (by omega)
        go_wp2
        go_ret
        exact ⟨ret_bool (by rw [HE.out, decide_eq_false hx]), HB.out⟩
end Go.Proofs.Yteceahbnafaeoaa
