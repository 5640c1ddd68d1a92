/- The reference's Great, GreatList and Same. -/
import Derived.Test.YtdgihkgomfpmoaaGreatDoorMkVals
namespace Go.Proofs.YtdgihkgomfpmoaaGreatDoor
set_option linter.unusedSimpArgs false
set_option linter.unusedVariables false
set_option maxRecDepth 100000
open Go.RowKit Go.Deep

def greatB (n : Nat) : Bool := decide (200 < n) && decide (n ≤ 65536) || decide (65539 < n)
theorem great_any (s : Bs) (hs : s.length ≤ maxLen) (r : Bool) (hr : greatB s.length = r) (w : World) :
    Calls Tryz.prog 5 #[sV s] w fun e w' => e = .returned (.bool r) ∧ w' = w := by
  obtain ⟨b, hb⟩ : ∃ b, baL s = b := ⟨_, rfl⟩
  obtain ⟨n, hn⟩ : ∃ n, s.length = n := ⟨_, rfl⟩
  have hsz : b.size = n := by rw [← hb, baL_size, hn]
  rw [hn] at hr
  show Calls Tryz.prog _ #[.string (baL s)] w _
  rw [hb]
  unfold greatB at hr
  clear hb hn hs
  by_cases h1 : 200 < n
  · by_cases h2 : n ≤ 65536
    · have e : r = true := by rw [← hr, decide_eq_true h1, decide_eq_true h2]; rfl
      subst e
      have t1 : decide ((200 : Int) < (n : Int)) = true := decide_eq_true (by omega)
      have t2 : decide ((n : Int) ≤ 65536) = true := decide_eq_true (by omega)
      clear hr
      go_enter Tryz.func5, Tryz.ntmps5
      go_wp2
      go_ret
      exact ⟨rfl, rfl⟩
    · have t2 : decide ((n : Int) ≤ 65536) = false := decide_eq_false (by omega)
      have t1 : decide ((200 : Int) < (n : Int)) = true := decide_eq_true (by omega)
      by_cases h3 : 65539 < n
      · have e : r = true := by rw [← hr, decide_eq_true h3, Bool.or_true]
        subst e
        have t3 : decide ((65539 : Int) < (n : Int)) = true := decide_eq_true (by omega)
        clear hr
        go_enter Tryz.func5, Tryz.ntmps5
        go_wp2
        go_ret
        exact ⟨rfl, rfl⟩
      · have e : r = false := by rw [← hr, decide_eq_false h2, decide_eq_false h3, Bool.and_false]; rfl
        subst e
        have t3 : decide ((65539 : Int) < (n : Int)) = false := decide_eq_false (by omega)
        clear hr
        go_enter Tryz.func5, Tryz.ntmps5
        go_wp2
        go_ret
        exact ⟨rfl, rfl⟩
  · have e : r = false := by rw [← hr, decide_eq_false h1, Bool.false_and, Bool.false_or]; exact decide_eq_false (by omega)
    subst e
    have t1 : decide ((200 : Int) < (n : Int)) = false := decide_eq_false (by omega)
    have t3 : decide ((65539 : Int) < (n : Int)) = false := decide_eq_false (by omega)
    clear hr
    go_enter Tryz.func5, Tryz.ntmps5
    go_wp2
    go_ret
    exact ⟨rfl, rfl⟩
/-- how many characters the name and the value of a lexeme have, as a machine integer -/
def lenW (x : Lx) : Int := IntKind.i64.wrap ((x.n.length : Int) + (x.v.length : Int))
def gX (last : Bool) (x : Lx) : Bool := decide (80 < lenW x) && (!last || decide (lenW x < 65456) || decide (65536 < lenW x))
def gF : List Lx → Bool
  | [] => false
  | x :: L => gX L.isEmpty x || gF L
def greatLB (L : List Lx) : Bool := gF L || decide (24 < L.length)
theorem gF_at : ∀ (L : List Lx) (i : Nat) (h : i < L.length), gX (decide (i + 1 = L.length)) L[i] = true → gF L = true
  | [], i, h, _ => by simp at h
  | x :: L, 0, _, hx => by
    rw [gF]
    have e : L.isEmpty = decide (0 + 1 = (x :: L).length) := by cases L <;> simp
    rw [e, Bool.or_eq_true]
    exact .inl hx
  | x :: L, i + 1, h, hx => by
    rw [gF, Bool.or_eq_true]
    refine .inr (gF_at L i (by simpa using h) ?_)
    have e : decide (i + 1 + 1 = (x :: L).length) = decide (i + 1 = L.length) := by rw [List.length_cons]; exact decide_eq_decide.2 (by omega)
    rw [← e]
    exact hx
theorem gF_no : ∀ (L : List Lx), (∀ (i : Nat) (h : i < L.length), gX (decide (i + 1 = L.length)) L[i] = false) → gF L = false
  | [], _ => rfl
  | x :: L, h => by
    rw [gF, Bool.or_eq_false_iff]
    have e : L.isEmpty = decide (0 + 1 = (x :: L).length) := by cases L <;> simp
    refine ⟨by rw [e]; exact h 0 (by simp), gF_no L (fun i hi => ?_)⟩
    have e : decide (i + 1 + 1 = (x :: L).length) = decide (i + 1 = L.length) := by rw [List.length_cons]; exact decide_eq_decide.2 (by omega)
    rw [← e]
    exact h (i + 1) (by simpa using hi)
theorem gF_get : ∀ (L : List Lx), gF L = false → ∀ x ∈ L, ∃ b, gX b x = false
  | [], _, x, hx => by cases hx
  | y :: L, h, x, hx => by
    rw [gF, Bool.or_eq_false_iff] at h
    rcases List.mem_cons.1 hx with rfl | hx
    · exact ⟨_, h.1⟩
    · exact gF_get L h.2 x hx
theorem greatL_no {L : List Lx} (h : greatLB L = false) (hs : ∀ x ∈ L, x.n.length ≤ 140737488351232 ∧ x.v.length ≤ 140737488351232) : L.length ≤ 24 ∧ ∀ x ∈ L, x.n.length + x.v.length ≤ 65536 := by
  unfold greatLB at h
  rw [Bool.or_eq_false_iff, decide_eq_false_iff_not] at h
  refine ⟨by omega, fun x hx => ?_⟩
  obtain ⟨b, hb⟩ := gF_get L h.1 x hx
  obtain ⟨h1, h2⟩ := hs x hx
  have e : lenW x = ((x.n.length + x.v.length : Nat) : Int) := by
    unfold lenW
    rw [show (x.n.length : Int) + (x.v.length : Int) = ((x.n.length + x.v.length : Nat) : Int) by omega]
    exact IntWalk.i64_in _ (by omega)
  unfold gX at hb
  rw [e, Bool.and_eq_false_iff, decide_eq_false_iff_not, Bool.or_eq_false_iff, Bool.or_eq_false_iff, decide_eq_false_iff_not, decide_eq_false_iff_not] at hb
  omega
set_option maxHeartbeats 4000000 in
theorem greatL_any (L : List Lx) (hl : L.length ≤ maxLen) (r : Bool) (hr : greatLB L = r) (v : Value) (w : World) (hv : LexAt w v L) :
    Calls Tryz.prog 15 #[v] w fun e w' => e = .returned (.bool r) ∧ Below w.heap.size w w' := by
  have HV := Lib.hid hv
  obtain ⟨a, cap, rfl⟩ := hv.slice
  have HR := Lib.hid hr
  unfold maxLen at hl
  clear hv hr
  go_enter Tryz.func15, Tryz.ntmps15
  go_wp2
  go_loopw [3] (fun iv wr => ∃ i : Nat, i ≤ L.length ∧ iv = .int .i64 i ∧ Below w.heap.size w wr ∧ ∀ (j : Nat) (hl : j < L.length), j < i → gX (decide (j + 1 = L.length)) L[j] = false) (fun iv _ => L.length - (intOf iv).toNat)
  case atStart => exact ⟨0, Nat.zero_le _, rfl, Below.refl _ _, fun j _ hj => by omega⟩
  case round =>
    obtain ⟨i, hi, rfl, hB, hno⟩ := hrel
    obtain ⟨wk, rfl⟩ : ∃ x, x = wr := ⟨_, rfl⟩
    have HB := Lib.hid hB
    have HNO := Lib.hid hno
    have HBD := Lib.hid (fun j => hB.trans (below_drewN_n w.heap.size wk j))
    by_cases hlt : i < L.length
    · obtain ⟨b, off, rfl, hbb, _, c1, c2, _⟩ := HV.out.elem hlt
      have d1 := (hB.cell (p := ⟨b, off + i * 4 + 1, none⟩) hbb).trans c1
      have d2 := (hB.cell (p := ⟨b, off + i * 4 + 2, none⟩) hbb).trans c2
      have HYES := Lib.hid (fun h => gF_at L i hlt h)
      have HZ := Lib.hid (show lenW L[i] = IntKind.i64.wrap (((baL L[i].n).size : Int) + ((baL L[i].v).size : Int)) by rw [baL_size, baL_size]; rfl)
      obtain ⟨x, hx⟩ : ∃ x, L[i] = x := ⟨_, rfl⟩
      rw [hx] at d1 d2 HYES HZ
      have HX := Lib.hid hx
      obtain ⟨sn, hsn⟩ : ∃ s, baL x.n = s := ⟨_, rfl⟩
      obtain ⟨sv, hsv⟩ : ∃ s, baL x.v = s := ⟨_, rfl⟩
      replace d1 : wk.cell? ⟨b, off + i * 4 + 1, none⟩ = some (.string sn) := by rw [← hsn]; exact d1
      replace d2 : wk.cell? ⟨b, off + i * 4 + 2, none⟩ = some (.string sv) := by rw [← hsv]; exact d2
      rw [hsn, hsv] at HZ
      obtain ⟨z, hz⟩ : ∃ z, IntKind.i64.wrap ((sn.size : Int) + (sv.size : Int)) = z := ⟨_, rfl⟩
      rw [hz] at HZ
      have i0 : (0 : Int) ≤ (i : Int) := by omega
      have i1 : (i : Int) < (L.length : Int) := by omega
      have hwi : IntKind.i64.wrap ((i : Int) + 1) = (i : Int) + 1 := IntWalk.i64_in _ (by omega)
      clear hno hB c1 c2 hbb hx hsn hsv
      have HGX := Lib.hid (show gX (decide (i + 1 = L.length)) x = (decide (80 < z) && (!decide (i + 1 = L.length) || decide (z < 65456) || decide (65536 < z))) by unfold gX; rw [HZ.out])
      obtain ⟨q, hq⟩ : ∃ q, gX (decide (i + 1 = L.length)) x = q := ⟨_, rfl⟩
      have HQ := Lib.hid hq
      clear hq
      by_cases z1 : (80 : Int) < z
      · by_cases z2 : (i : Int) + 1 < (L.length : Int)
        · have HT := Lib.hid (show r = true by
            rw [← HR.out]
            unfold greatLB
            rw [HYES.out (by rw [HGX.out, decide_eq_true z1, decide_eq_false (show ¬ i + 1 = L.length by omega)]; rfl)]; rfl)
          go_wp2_with fail
          go_quiet (fail)
          clear d1 d2
          go_wp2
          go_ret
          exact ⟨by rw [HT.out]; rfl, HBD.out _⟩
        · by_cases z3 : z < 65456
          · have HT := Lib.hid (show r = true by
              rw [← HR.out]
              unfold greatLB
              rw [HYES.out (by rw [HGX.out, decide_eq_true z1, decide_eq_true z3]; simp)]; rfl)
            go_wp2_with fail
            go_quiet (fail)
            clear d1 d2
            go_wp2
            go_ret
            exact ⟨by rw [HT.out]; rfl, HBD.out _⟩
          · by_cases z4 : (65536 : Int) < z
            · have HT := Lib.hid (show r = true by
                rw [← HR.out]
                unfold greatLB
                rw [HYES.out (by rw [HGX.out, decide_eq_true z1, decide_eq_true z4]; simp)]; rfl)
              go_wp2_with fail
              go_quiet (fail)
              clear d1 d2
              go_wp2
              go_ret
              exact ⟨by rw [HT.out]; rfl, HBD.out _⟩
            · have HF := Lib.hid (show gX (decide (i + 1 = L.length)) x = false by
                rw [HGX.out, decide_eq_true (show i + 1 = L.length by omega), decide_eq_false z3, decide_eq_false z4]; simp)
              go_wp2_with fail
              go_quiet (fail)
              clear d1 d2
              go_wp2
              go_roundw
              case rel => exact ⟨i + 1, by omega, by go_num, HBD.out _, fun j hl hj => by
                rcases Nat.lt_or_ge j i with h | h
                · exact HNO.out j hl h
                · obtain rfl : j = i := by omega
                  rw [HX.out]; exact HF.out⟩
              case measure => simp [intOf]; omega
      · have HF := Lib.hid (show gX (decide (i + 1 = L.length)) x = false by rw [HGX.out, decide_eq_false z1]; rfl)
        go_wp2_with fail
        go_quiet (fail)
        clear d1 d2
        go_wp2
        go_roundw
        case rel => exact ⟨i + 1, by omega, by go_num, HBD.out _, fun j hl hj => by
          rcases Nat.lt_or_ge j i with h | h
          · exact HNO.out j hl h
          · obtain rfl : j = i := by omega
            rw [HX.out]; exact HF.out⟩
        case measure => simp [intOf]; omega
    · obtain rfl : i = L.length := by omega
      have HE := Lib.hid (show decide (24 < L.length) = r by rw [← HR.out]; unfold greatLB; rw [gF_no L (fun i hi => hno i hi hi)]; rfl)
      clear hno hB
      go_wp2
      go_ret
      refine ⟨?_, HB.out⟩
      rw [← HE.out]
      exact ret_bool (decide_eq_decide.2 (by constructor <;> intro h <;> omega))
end Go.Proofs.YtdgihkgomfpmoaaGreatDoor
