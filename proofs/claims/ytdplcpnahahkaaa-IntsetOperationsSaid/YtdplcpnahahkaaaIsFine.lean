/- fine, ContainsFunc. -/
import Derived.Test.YtdplcpnahahkaaaIsRefs
namespace Go.Proofs.Ytdplcpnahahkaaa
set_option linter.unusedSimpArgs false
set_option linter.unusedVariables false
set_option maxRecDepth 100000
open Go.RowKit Go.Deep

def okL (l : List Int) : Prop := l.length ≤ 12 ∧ errL l = 0
instance (l : List Int) : Decidable (okL l) := by unfold okL; exact inferInstance
set_option maxHeartbeats 1000000 in
theorem fine1_any (l : List Int) (r : Bool) (hr : decide (¬ okL l) = r) (v : Value) (w : World) (hv : IntsAt w v l) :
    Calls Try.prog 62 #[v] w fun e w' => e = .returned (.bool r) ∧ ∃ m, w' = w.drewN m := by
  have HR := Lib.hid hr
  clear hr
  by_cases h : 12 < l.length
  · have G := Lib.hid (great_any l true (by simpa using h) v w hv)
    obtain ⟨a, cap, rfl, _⟩ := hv
    go_enter Try.func62, Try.ntmps62
    go_wp2_with fail
    refine G.out.mono ?_
    rintro e w1 ⟨rfl, rfl⟩
    go_wp2
    go_ret
    exact ⟨ret_bool (by rw [← HR.out, eq_comm, decide_eq_true_eq]; rintro ⟨a, _⟩; omega), 0, rfl⟩
  · have G := Lib.hid (great_any l false (by simpa using h) v w hv)
    have C := Lib.hid (refCheck_any l v w hv (by omega))
    obtain ⟨a, cap, rfl, _⟩ := hv
    have HQ := Lib.hid (show decide (¬ errL l = 0) = r by rw [← HR.out]; apply decide_eq_decide.2; exact ⟨fun h1 h2 => h1 h2.2, fun h1 h2 => h1 ⟨by omega, h2⟩⟩)
    obtain ⟨q, hq⟩ : ∃ q, errL l = q := ⟨_, rfl⟩
    rw [hq] at C HQ
    clear hq
    go_enter Try.func62, Try.ntmps62
    go_wp2_with fail
    refine G.out.mono ?_
    rintro e w1 ⟨rfl, rfl⟩
    go_wp2_with fail
    refine C.out.mono ?_
    rintro e w1 ⟨rfl, m, rfl⟩
    go_wp2
    go_ret
    exact ⟨ret_bool (by rw [← HQ.out, Bool.eq_iff_iff]; simp), _, rfl⟩

set_option maxHeartbeats 1000000 in
theorem indexL_any (L : List (List Int)) (r : Bool) (hr : decide (∃ l ∈ L, ¬ okL l) = r) (v : Value) (w : World) (hv : ListsAt w v L) (hl : L.length ≤ maxLen) :
    Calls Try.prog 70 #[v, .func (.func 62) #[] #[]] w fun e w' => (∃ i : Int, e = .returned (intV i) ∧ decide (0 ≤ i) = r) ∧ ∃ m, w' = w.drewN m := by
  unfold maxLen at hl
  obtain ⟨a, cap, rfl, _⟩ := id hv
  have HV := Lib.hid hv
  have HR := Lib.hid hr
  clear hv hr
  go_enter Try.func70, Try.ntmps70
  go_wp2
  go_loopw [8] (fun i wr => ∃ k m : Nat, k ≤ L.length ∧ i = .int .i64 k ∧ wr = w.drewN m ∧ ∀ l ∈ L.take k, okL l) (fun i _ => L.length - (intOf i).toNat)
  case atStart => exact ⟨0, 0, Nat.zero_le _, rfl, rfl, by simp⟩
  case round =>
    obtain ⟨k, m, hk, rfl, hwr, ha⟩ := hrel
    have HW := Lib.hid hwr
    have HA := Lib.hid ha
    obtain ⟨wk, rfl⟩ : ∃ x, x = wr := ⟨_, rfl⟩
    have hB : Below w.heap.size w wk := by rw [hwr]; exact below_drewN _ _
    clear ha hwr
    by_cases hlt : k < L.length
    · obtain ⟨b, off, u, c, rfl, hb, hcell, hx⟩ := (HV.out.below hB).elem hlt
      have HT := Lib.hid (List.take_succ_eq_append_getElem hlt)
      have HM := Lib.hid (List.getElem_mem hlt)
      obtain ⟨x, hxx⟩ : ∃ x, L[k] = x := ⟨_, rfl⟩
      rw [hxx] at hcell hx HT HM
      clear hxx hB
      by_cases hok : okL x
      · have C := Lib.hid (fine1_any x false (by simpa using hok) _ wk hx)
        have HK := Lib.hid hok
        clear hx hok
        go_wp2_with fail
        refine C.out.mono ?_
        rintro e w1 ⟨rfl, q, hq⟩
        have HQ := Lib.hid hq
        clear hq
        go_wp2
        go_roundw
        case rel =>
          refine ⟨k + 1, _, by omega, by go_num, by rw [HQ.out, HW.out, World.drewN_drewN], ?_⟩
          rw [HT.out]
          intro l hl
          rcases List.mem_append.1 hl with h | h
          · exact HA.out l h
          · simp at h; rw [h]; exact HK.out
        case measure => simp [intOf]; omega
      · have C := Lib.hid (fine1_any x true (by simpa using hok) _ wk hx)
        have HK := Lib.hid hok
        clear hx hok
        go_wp2_with fail
        refine C.out.mono ?_
        rintro e w1 ⟨rfl, q, hq⟩
        have HQ := Lib.hid hq
        clear hq
        go_wp2
        go_ret
        exact ⟨⟨_, rfl, by rw [← HR.out]; apply decide_eq_decide.2; exact ⟨fun _ => ⟨x, HM.out, HK.out⟩, fun _ => by omega⟩⟩, _, by rw [HQ.out, HW.out, World.drewN_drewN]⟩
    · obtain rfl : k = L.length := by omega
      go_wp2
      go_ret
      refine ⟨⟨_, rfl, ?_⟩, _, HW.out⟩
      have := HA.out
      rw [List.take_length] at this
      rw [← HR.out]; apply decide_eq_decide.2
      exact ⟨fun h => absurd h (by decide), fun ⟨l, h1, h2⟩ => absurd (this l h1) h2⟩
set_option maxHeartbeats 1000000 in
theorem fine_any (L : List (List Int)) (r : Bool) (hr : decide (∀ l ∈ L, okL l) = r) (v : Value) (w : World) (hv : ListsAt w v L) (hl : L.length ≤ maxLen) :
    Calls Try.prog 33 #[v] w fun e w' => e = .returned (.bool r) ∧ ∃ m, w' = w.drewN m := by
  have hi := indexL_any L (!r) (by
    rw [← hr, ← decide_not]; apply decide_eq_decide.2
    exact ⟨fun ⟨l, h1, h2⟩ h => h2 (h l h1), fun h => Classical.byContradiction fun hc => h fun l h1 => Classical.byContradiction fun h2 => hc ⟨l, h1, h2⟩⟩) v w hv hl
  obtain ⟨a, cap, rfl, _⟩ := hv
  have HI := Lib.hid hi
  clear hi hr
  have hc : Calls Try.prog 61 #[.slice a L.length cap, .func (.func 62) #[] #[]] w fun e w' => e = .returned (.bool (!r)) ∧ ∃ m, w' = w.drewN m := by
    go_enter Try.func61, Try.ntmps61
    go_wp2_with fail
    refine HI.out.mono ?_
    rintro e w1 ⟨⟨i, rfl, hi⟩, m, rfl⟩
    have HD := Lib.hid hi
    clear hi
    go_wp2
    go_ret
    exact ⟨ret_bool HD.out, _, rfl⟩
  have HC := Lib.hid hc
  clear hc
  go_enter Try.func33, Try.ntmps33
  go_wp2_with fail
  refine HC.out.mono ?_
  rintro e w1 ⟨rfl, m, rfl⟩
  go_wp2
  go_ret
  exact ⟨ret_bool (by simp), _, rfl⟩

set_option maxHeartbeats 1000000 in
/-- a function that answers p for the elements, and reads only -/
theorem containsF_any (xs : List Int) (p : Int → Bool) (fe : Nat) (cs : Array Value) (hce : ∀ args W, Sem.run Try.prog (callFunc fe args) W = .ok (.enter fe args) W) (r : Bool) (hr : decide (∃ x ∈ xs, p x = true) = r) (v : Value) (w : World) (hv : IntsAt w v xs) (hl : xs.length ≤ 1000000)
    (hf : ∀ m, ∀ x ∈ xs, Calls Try.prog fe (#[intV x] ++ cs) (w.drewN m) fun e w' => e = .returned (.bool (p x)) ∧ ∃ m, w' = w.drewN m) :
    Calls Try.prog 37 #[v, .func (.func fe) #[] cs] w fun e w' => e = .returned (.bool r) ∧ ∃ m, w' = w.drewN m := by
  have hidx : Calls Try.prog 64 #[v, .func (.func fe) #[] cs] w fun e w' => (∃ i : Int, e = .returned (intV i) ∧ decide (0 ≤ i) = r) ∧ ∃ m, w' = w.drewN m := by
    obtain ⟨a, cap, rfl, hc⟩ := hv
    have HC := Lib.hid hc
    have HR := Lib.hid hr
    have HF := Lib.hid hf
    clear hc hr hf
    go_enter Try.func64, Try.ntmps64
    go_wp2
    go_loopw [8] (fun i wr => ∃ k m : Nat, k ≤ xs.length ∧ i = .int .i64 k ∧ wr = w.drewN m ∧ ∀ x ∈ xs.take k, p x = false) (fun i _ => xs.length - (intOf i).toNat)
    case atStart => exact ⟨0, 0, Nat.zero_le _, rfl, rfl, by simp⟩
    case round =>
      obtain ⟨k, m, hk, rfl, hwr, hn⟩ := hrel
      have HN := Lib.hid hn
      have HW := Lib.hid hwr
      obtain ⟨wk, rfl⟩ : ∃ x, x = wr := ⟨_, rfl⟩
      clear hn
      by_cases hlt : k < xs.length
      · obtain ⟨b, off, rfl, hbb, hcs⟩ := HC.out (by omega)
        have hcell : wk.cell? ⟨b, off + k, none⟩ = some (.int .i64 xs[k]) := by rw [hwr]; exact hcs k hlt
        have HT := Lib.hid (take_succ_int xs k hlt)
        have HM := Lib.hid (List.getElem_mem hlt)
        have hcall := HF.out m _ (List.getElem_mem hlt)
        rw [← hwr] at hcall
        clear hcs hwr
        obtain ⟨x, hx⟩ : ∃ x, xs[k] = x := ⟨_, rfl⟩
        rw [hx] at hcell HT HM hcall
        have HCALL := Lib.hid hcall
        clear hx hcall
        go_wp2_with fail
        refine HCALL.out.mono ?_
        rintro e w1 ⟨rfl, m', hm'⟩
        have HM' := Lib.hid hm'
        clear hm' HCALL hcell
        cases hp : p x
        · have HP := Lib.hid hp
          clear hp
          go_wp2
          go_roundw
          case rel =>
            refine ⟨k + 1, m', by omega, by go_num, HM'.out, ?_⟩
            rw [HT.out]
            intro y hy
            rcases List.mem_append.1 hy with h' | h'
            · exact HN.out y h'
            · simp at h'; rw [h']; exact HP.out
          case measure => simp [intOf]; omega
        · have HP := Lib.hid hp
          clear hp
          go_wp2
          go_ret
          exact ⟨⟨_, rfl, by rw [← HR.out]; apply decide_eq_decide.2; exact ⟨fun _ => ⟨x, HM.out, HP.out⟩, fun _ => by omega⟩⟩, m', HM'.out⟩
      · obtain rfl : k = xs.length := by omega
        clear hwr
        go_wp2
        go_ret
        refine ⟨⟨_, rfl, ?_⟩, m, HW.out⟩
        have := HN.out
        rw [List.take_length] at this
        rw [← HR.out]; apply decide_eq_decide.2
        exact ⟨fun h => absurd h (by decide), fun ⟨x, h1, h2⟩ => by rw [this x h1] at h2; cases h2⟩
  obtain ⟨a, cap, rfl, _⟩ := hv
  have HI := Lib.hid hidx
  clear hidx hr hf
  go_enter Try.func37, Try.ntmps37
  go_wp2_with fail
  refine HI.out.mono ?_
  rintro e w1 ⟨⟨i, rfl, hi⟩, m, hm⟩
  have HD := Lib.hid hi
  have HM := Lib.hid hm
  clear hi hm
  go_wp2
  go_ret
  exact ⟨ret_bool HD.out, m, HM.out⟩
end Go.Proofs.Ytdplcpnahahkaaa
