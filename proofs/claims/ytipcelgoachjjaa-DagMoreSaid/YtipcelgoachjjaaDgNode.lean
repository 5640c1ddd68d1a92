/- isNode, Check, checkNodes. -/
import Derived.Test.YtipcelgoachjjaaDgVals
namespace Go.Proofs.Ytipcelgoachjjaa
set_option linter.unusedSimpArgs false
set_option linter.unusedVariables false
set_option maxRecDepth 100000
open Go.RowKit Go.Deep

set_option maxHeartbeats 400000 in
theorem isNode_any (n i : Int) (r : Bool) (hr : decide (inN n i) = r) (w : World) :
    Calls Try.prog 45 #[intV n, intV i] w fun e w' => e = .returned (.bool r) ∧ w = w' := by
  have HR := Lib.hid hr
  clear hr
  by_cases h : 0 ≤ i
  · go_enter Try.func45, Try.ntmps45
    go_wp2
    go_ret
    exact ⟨ret_bool (by rw [← HR.out]; apply decide_eq_decide.2; rw [inN]; omega), rfl⟩
  · go_enter Try.func45, Try.ntmps45
    go_wp2
    go_ret
    exact ⟨ret_bool (by rw [← HR.out, eq_comm, decide_eq_false_iff_not, inN]; omega), rfl⟩
theorem drop_lk {ls : List LkV} {k : Nat} (h : k < ls.length) : ls.drop k = lk ls k :: ls.drop (k + 1) := by rw [List.drop_eq_getElem_cons h, lk_get h]

set_option maxHeartbeats 2000000 in
theorem check_any (n : Int) (ls : List LkV) (v : Value) (w : World) (hv : LinksAt w v ls) (hl : ls.length ≤ maxLen) (r : Int) (hr : checkR n ls = r) :
    Calls Try.prog 17 #[intV n, v] w fun e w' => e = .returned (intV r) ∧ Below w.heap.size w w' := by
  unfold maxLen at hl
  have HV := Lib.hid hv
  obtain ⟨a, cap, rfl⟩ := hv.slice
  have HR := Lib.hid hr
  clear hv hr
  by_cases h1 : n < 1
  · go_enter Try.func17, Try.ntmps17
    go_wp2
    go_ret
    exact ⟨ret_int (by rw [← HR.out, checkR, if_pos (by omega)]), Below.refl _ _⟩
  by_cases h2 : 4096 < n
  · go_enter Try.func17, Try.ntmps17
    go_wp2
    go_ret
    exact ⟨ret_int (by rw [← HR.out, checkR, if_pos (by omega)]), Below.refl _ _⟩
  by_cases h3 : 65536 < ls.length
  · go_enter Try.func17, Try.ntmps17
    go_wp2
    go_ret
    exact ⟨ret_int (by rw [← HR.out, checkR, if_neg (by omega), if_pos h3]), Below.refl _ _⟩
  have he : errLs n ls = r := by rw [← HR.out, checkR, if_neg (by omega), if_neg h3]
  have HE := Lib.hid he
  clear HR he
  go_enter Try.func17, Try.ntmps17
  go_wp2
  go_loopw [18] (fun i wr => ∃ k : Nat, k ≤ ls.length ∧ i = .int .i64 k ∧ Below w.heap.size w wr ∧ errLs n (ls.drop k) = r) (fun i _ => ls.length - (intOf i).toNat)
  case atStart => exact ⟨0, Nat.zero_le _, rfl, Below.refl _ _, HE.out⟩
  case round =>
    obtain ⟨k, hk, rfl, hB, he⟩ := hrel
    obtain ⟨wk, rfl⟩ : ∃ x, x = wr := ⟨_, rfl⟩
    by_cases hlt : k < ls.length
    · obtain ⟨b, off, rfl, hbb, q1, q2, q3⟩ := HV.out.elem hlt
      have c1 := (hB.cell (p := ⟨b, off + k * 3, none⟩) hbb).trans q1
      have c2 := (hB.cell (p := ⟨b, off + k * 3 + 1, none⟩) hbb).trans q2
      have c3 := (hB.cell (p := ⟨b, off + k * 3 + 2, none⟩) hbb).trans q3
      rw [drop_lk hlt, errLs, errLk] at he
      obtain ⟨⟨f, t, c⟩, hx⟩ : ∃ x, lk ls k = x := ⟨_, rfl⟩
      rw [hx] at c1 c2 c3 he
      clear q1 q2 q3 hx
      have HB := Lib.hid hB
      clear hB
      dsimp only at c1 c2 c3 he
      have HB1 := Lib.hid (HB.out.alloc HB.out.size (.cells #[intV f, intV t, intV c] 52))
      by_cases f1 : inN n f
      · have HF := Lib.hid (show decide (inN n f) = true by simpa using f1)
        by_cases t1 : inN n t
        · have HT := Lib.hid (show decide (inN n t) = true by simpa using t1)
          unfold inN at f1 t1
          by_cases c0 : c < 0
          · rw [if_pos (by split <;> (first | omega | decide)), if_pos (by omega)] at he
            subst he
            go_wp2_with fail
            refine (isNode_any n f true HF.out _).mono ?_
            rintro e w1 ⟨rfl, rfl⟩
            go_wp2_with fail
            refine (isNode_any n t true HT.out _).mono ?_
            rintro e w1 ⟨rfl, rfl⟩
            go_wp2
            go_ret
            exact ⟨rfl, HB1.out⟩
          by_cases c1 : 1073741824 < c
          · rw [if_pos (by split <;> (first | omega | decide)), if_pos (by omega)] at he
            subst he
            go_wp2_with fail
            refine (isNode_any n f true HF.out _).mono ?_
            rintro e w1 ⟨rfl, rfl⟩
            go_wp2_with fail
            refine (isNode_any n t true HT.out _).mono ?_
            rintro e w1 ⟨rfl, rfl⟩
            go_wp2
            go_ret
            exact ⟨rfl, HB1.out⟩
          by_cases o1 : t ≤ f
          · rw [if_pos (by rw [if_neg (by omega), if_pos o1]; decide), if_neg (by omega), if_pos o1] at he
            subst he
            go_wp2_with fail
            refine (isNode_any n f true HF.out _).mono ?_
            rintro e w1 ⟨rfl, rfl⟩
            go_wp2_with fail
            refine (isNode_any n t true HT.out _).mono ?_
            rintro e w1 ⟨rfl, rfl⟩
            go_wp2
            go_ret
            exact ⟨rfl, HB1.out⟩
          · rw [if_neg (by rw [if_neg (by omega), if_neg o1]; decide)] at he
            have HE := Lib.hid he
            clear he
            go_wp2_with fail
            refine (isNode_any n f true HF.out _).mono ?_
            rintro e w1 ⟨rfl, rfl⟩
            go_wp2_with fail
            refine (isNode_any n t true HT.out _).mono ?_
            rintro e w1 ⟨rfl, rfl⟩
            go_wp2
            go_roundw
            case rel => exact ⟨k + 1, by omega, by go_num, HB1.out, HE.out⟩
            case measure => simp [intOf]; omega
        · have HT := Lib.hid (show decide (inN n t) = false by simpa using t1)
          unfold inN at f1 t1
          rw [if_pos (by split <;> (first | omega | decide)), if_pos (by omega)] at he
          subst he
          go_wp2_with fail
          refine (isNode_any n f true HF.out _).mono ?_
          rintro e w1 ⟨rfl, rfl⟩
          go_wp2_with fail
          refine (isNode_any n t false HT.out _).mono ?_
          rintro e w1 ⟨rfl, rfl⟩
          go_wp2
          go_ret
          exact ⟨rfl, HB1.out⟩
      · have HF := Lib.hid (show decide (inN n f) = false by simpa using f1)
        unfold inN at f1
        rw [if_pos (by split <;> (first | omega | decide)), if_pos (by omega)] at he
        subst he
        go_wp2_with fail
        refine (isNode_any n f false HF.out _).mono ?_
        rintro e w1 ⟨rfl, rfl⟩
        go_wp2
        go_ret
        exact ⟨rfl, HB1.out⟩
    · obtain rfl : k = ls.length := by omega
      rw [List.drop_length] at he
      have HE := Lib.hid he
      clear he
      go_wp2
      go_ret
      exact ⟨ret_int HE.out, hB⟩

set_option maxHeartbeats 1000000 in
/-- why there is no graph with the nodes -/
theorem nodes_any (n : Int) (ls : List LkV) (ns : List Int) (v u : Value) (w : World) (hv : LinksAt w v ls) (hu : IntsAt w u ns) (hl : ls.length ≤ maxLen) (hn : ns.length ≤ maxLen) (r : Int) (hr : nodesR n ls ns = r) :
    Calls Try.prog 39 #[intV n, v, u] w fun e w' => e = .returned (intV r) ∧ Below w.heap.size w w' := by
  unfold maxLen at hn
  obtain ⟨q, hq⟩ : ∃ q, checkR n ls = q := ⟨_, rfl⟩
  have HC := Lib.hid (check_any n ls v w hv hl q hq)
  have HU := Lib.hid hu
  obtain ⟨a, cap, rfl⟩ := hv.slice
  obtain ⟨b, cap2, rfl⟩ := hu.slice
  rw [nodesR, hq] at hr
  have HR := Lib.hid hr
  clear hv hu hq hr
  by_cases h : q = 0
  · subst h
    go_enter Try.func39, Try.ntmps39
    go_wp2_with fail
    refine HC.out.mono ?_
    rintro e w1 ⟨rfl, hB⟩
    have HB := Lib.hid hB
    clear hB
    go_wp2
    go_loop [15] (fun i => ∃ k : Nat, k ≤ ns.length ∧ i = .int .i64 k ∧ ∀ x ∈ ns.take k, inN n x) (fun i => ns.length - (intOf i).toNat)
    case atStart => exact ⟨0, Nat.zero_le _, rfl, by simp⟩
    case round =>
      obtain ⟨k, hk, rfl, hn'⟩ := hrel
      have HN := Lib.hid hn'
      clear hn'
      by_cases hlt : k < ns.length
      · obtain ⟨b, off, rfl, hbb, q1⟩ := HU.out.elem hlt
        have c1 := (HB.out.cell (p := ⟨b, off + k, none⟩) hbb).trans q1
        have HT := Lib.hid (List.take_succ_eq_append_getElem hlt)
        have HM := Lib.hid (List.getElem_mem hlt)
        obtain ⟨x, hx⟩ : ∃ x, ns[k] = x := ⟨_, rfl⟩
        rw [hx] at c1 HT HM
        clear q1 hx
        by_cases h : inN n x
        · have HI := Lib.hid h
          clear h
          go_wp2_with fail
          refine (isNode_any n x true (by simpa using HI.out) _).mono ?_
          rintro e w2 ⟨rfl, rfl⟩
          go_wp2
          go_round
          case rel =>
            refine ⟨k + 1, by omega, by go_num, ?_⟩
            rw [HT.out]
            intro y hy
            rcases List.mem_append.1 hy with h' | h'
            · exact HN.out y h'
            · simp at h'; rw [h']; exact HI.out
          case measure => simp [intOf]; omega
        · have HI := Lib.hid h
          clear h
          go_wp2_with fail
          refine (isNode_any n x false (by simpa using HI.out) _).mono ?_
          rintro e w2 ⟨rfl, rfl⟩
          go_wp2
          go_ret
          exact ⟨ret_int (by rw [← HR.out, if_neg (by decide), if_neg (fun h => HI.out (h x HM.out))]), HB.out⟩
      · obtain rfl : k = ns.length := by omega
        go_wp2
        go_ret
        refine ⟨ret_int ?_, HB.out⟩
        have := HN.out
        rw [List.take_length] at this
        rw [← HR.out, if_neg (by decide), if_pos this]
  · have hb : (q != 0) = true := by rw [bne_iff_ne]; exact h
    go_enter Try.func39, Try.ntmps39
    go_wp2_with fail
    refine HC.out.mono ?_
    rintro e w1 ⟨rfl, hB⟩
    have HB := Lib.hid hB
    clear hB
    go_wp2
    go_ret
    exact ⟨ret_int (by rw [← HR.out, if_pos h]), HB.out⟩
end Go.Proofs.Ytipcelgoachjjaa
