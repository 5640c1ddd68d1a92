/- Partition of layer 4's own code. -/
import Derived.Test.YtdplcpnahahkaaaIsComp
namespace Go.Proofs.Ytdplcpnahahkaaa
set_option linter.unusedSimpArgs false
set_option linter.unusedVariables false
set_option maxRecDepth 100000
open Go.RowKit Go.Shelf

theorem cnt_append (A B : List (List Int)) (x : Nat) : cnt (A ++ B) x = cnt A x + cnt B x := by rw [cnt, List.filter_append, List.length_append]; rfl
theorem cnt_one (l : List Int) (x : Nat) : cnt [l] x = if has l x = true then 1 else 0 := by
  by_cases h : has l x = true
  · simp [cnt, h]
  · simp [cnt, h]
theorem cnt_take (L : List (List Int)) (k : Nat) (x : Nat) : cnt (L.take k) x ≤ cnt L x := by
  have := cnt_append (L.take k) (L.drop k) x
  rw [List.take_append_drop] at this
  omega
/-- what the marking m says of the lists that have been seen -/
def Seen (A : List (List Int)) (m : Nat) : Prop := m < 18446744073709551616 ∧ (∀ l ∈ A, l ≠ []) ∧ ∀ x, x < 64 → cnt A x ≤ 1 ∧ (m.testBit x = true ↔ cnt A x = 1)
theorem Seen.zero : Seen [] 0 := ⟨by decide, by simp, fun x _ => by simp [cnt]⟩
theorem Seen.step {A : List (List Int)} {m : Nat} {l : List Int} (h : Seen A m) (hR : InR l) (h0 : l ≠ []) (hd : mask l &&& m = 0) : Seen (A ++ [l]) (m ||| mask l) := by
  obtain ⟨h1, h2, h3⟩ := h
  refine ⟨by have := Nat.or_lt_two_pow (n := 64) (by simpa using h1) (by simpa using mask_lt hR); simpa using this, ?_, ?_⟩
  · intro a ha
    rcases List.mem_append.1 ha with h | h
    · exact h2 a h
    · simp at h; rw [h]; exact h0
  · intro x hx
    obtain ⟨c1, c2⟩ := h3 x hx
    have hb := congrArg (fun q => q.testBit x) hd
    simp only [Nat.testBit_and, Nat.zero_testBit, mask_bit hR] at hb
    rw [cnt_append, cnt_one, Nat.testBit_or, mask_bit hR]
    by_cases hh : has l x = true
    · rw [if_pos hh, hh]
      rw [hh] at hb
      simp only [Bool.true_and] at hb
      have : ¬ cnt A x = 1 := fun e => by rw [c2.2 e] at hb; cases hb
      simp; omega
    · have : has l x = false := by simpa using hh
      rw [if_neg hh, this]
      simp [c2]; omega
theorem partB_no_empty {n : Int} {L : List (List Int)} {l : List Int} (h : l ∈ L) (h0 : l = []) : partB n L = false := by
  rw [partB, decide_eq_false_iff_not]
  exact fun ⟨a, _⟩ => a l h h0
theorem partB_no_twice {n : Int} {L : List (List Int)} {k : Nat} {m : Nat} (hk : k < L.length) (h : Seen (L.take k) m) (hR : InR L[k]) (hd : mask L[k] &&& m ≠ 0) : partB n L = false := by
  rw [partB, decide_eq_false_iff_not]
  rintro ⟨_, a⟩
  refine hd ?_
  refine Nat.eq_of_testBit_eq fun x => ?_
  rw [Nat.testBit_and, Nat.zero_testBit, mask_bit hR]
  cases h1 : has L[k] x
  · rfl
  · cases h2 : m.testBit x
    · rfl
    · have hx : x < 64 := by
        rw [has, decide_eq_true_eq] at h1
        have := hR _ h1
        omega
      have h3 := ((h.2.2 x hx).2).1 h2
      have h4 := cnt_take L (k + 1) x
      rw [List.take_succ_eq_append_getElem hk, cnt_append, cnt_one, if_pos h1] at h4
      have := a x hx
      split at this <;> omega
theorem partB_seen {n : Nat} (hn : n ≤ 64) {L : List (List Int)} {m : Nat} (h : Seen L m) : partB n L = decide ((m : Int) = ((2 ^ n - 1 : Nat) : Int)) := by
  rw [partB]
  apply decide_eq_decide.2
  have e : ((m : Int) = ((2 ^ n - 1 : Nat) : Int)) ↔ m = 2 ^ n - 1 := by omega
  rw [e]
  constructor
  · rintro ⟨_, a⟩
    refine ext_bits h.1 (ones_lt hn) fun x hx => ?_
    rw [ones_bit, Bool.eq_iff_iff, (h.2.2 x hx).2, a x hx, decide_eq_true_eq]
    split <;> omega
  · rintro rfl
    refine ⟨h.2.1, fun x hx => ?_⟩
    obtain ⟨c1, c2⟩ := h.2.2 x hx
    rw [ones_bit, decide_eq_true_eq] at c2
    split <;> omega

set_option maxHeartbeats 2000000 in
theorem part_any (n : Int) (L : List (List Int)) (r : Bool × Int) (hr : partR n L = r) (v : Value) (w : World) (hv : ListsAt w v L) (hl : L.length ≤ 1000000) (hs : ∀ l ∈ L, l.length ≤ 1000000) :
    Calls Try.prog 18 #[intV n, v] w fun e w' => e = .returned (.tuple #[.bool r.1, intV r.2]) ∧ w = w' := by
  have HV := Lib.hid hv
  have HL := Lib.hid hs
  obtain ⟨a, cap, rfl, _⟩ := hv
  have HR := Lib.hid hr
  clear hr hs
  by_cases hn : n < 0 ∨ 64 < n
  · have HRR := Lib.hid (show r = (false, 2) by rw [← HR.out, partR, if_pos hn])
    have HS := Lib.hid (size_any n false (by rw [decide_eq_false_iff_not]; omega))
    clear HV HR hn
    go_enter Try.func18, Try.ntmps18
    go_wp2_with fail
    refine (HS.out _).mono ?_
    rintro e w1 ⟨rfl, rfl⟩
    go_wp2
    go_ret2
    exact ⟨ret_of HRR.out, rfl⟩
  · have HS := Lib.hid (size_any n true (by rw [decide_eq_true_eq]; omega))
    obtain ⟨n, rfl⟩ : ∃ k : Nat, n = k := ⟨n.toNat, by omega⟩
    have hn' : n ≤ 64 := by omega
    by_cases he : ∀ l ∈ L, errL l = 0
    · have HA := Lib.hid (areSets_any L true (by simpa using he) _ w HV.out hl HL.out)
      have HRR := Lib.hid (show r = (partB n L, 0) by rw [← HR.out, partR, if_neg hn, if_neg (by rintro ⟨l, h1, h2⟩; exact h2 (he l h1))])
      have HI := Lib.hid (show ∀ l ∈ L, InR l from fun l h => ((err_iff l).1 (he l h)).2)
      have HF := Lib.hid (first_any n hn')
      obtain ⟨f, hf⟩ : ∃ f, 2 ^ n - 1 = f := ⟨_, rfl⟩
      have HP := Lib.hid (fun m (h : Seen L m) => partB_seen hn' h)
      rw [hf] at HF HP
      clear he hn HR hf hn'
      go_enter Try.func18, Try.ntmps18
      go_wp2_with fail
      refine (HS.out _).mono ?_
      rintro e w1 ⟨rfl, rfl⟩
      go_wp2_with fail
      refine HA.out.mono ?_
      rintro e w1 ⟨rfl, rfl⟩
      clear HS HA
      go_wp2
      go_loop [6, 18] (fun m i => ∃ (k : Nat) (q : Nat), k ≤ L.length ∧ i = .int .i64 k ∧ m = u64V q ∧ Seen (L.take k) q) (fun _ i => L.length - (intOf i).toNat)
      case atStart => exact ⟨0, 0, Nat.zero_le _, rfl, rfl, by rw [List.take_zero]; exact Seen.zero⟩
      case round =>
        obtain ⟨k, q, hk, rfl, rfl, hS⟩ := hrel
        by_cases hlt : k < L.length
        · obtain ⟨b, off, u, c, rfl, hb, hcell, hx⟩ := HV.out.elem hlt
          have HT := Lib.hid (List.take_succ_eq_append_getElem hlt)
          have hmem := List.getElem_mem hlt
          have hlen := HL.out _ hmem
          have hRx := HI.out _ hmem
          have hno := partB_no_twice (n := (n : Int)) hlt hS hRx
          have hne := partB_no_empty (n := (n : Int)) hmem
          have hst := fun h0 => hS.step hRx h0
          obtain ⟨x, hxx⟩ : ∃ x, L[k] = x := ⟨_, rfl⟩
          rw [hxx] at hcell hx HT hmem hlen hRx hno hne hst
          have HM := Lib.hid (mark_any x hRx _ w hx hlen)
          have hmk := mask_lt hRx
          have hz := mask_zero hRx
          have hq := hS.1
          obtain ⟨y, hy⟩ : ∃ y, mask x = y := ⟨_, rfl⟩
          rw [hy] at HM hmk hz hno hst
          obtain ⟨z, hzz⟩ : ∃ z, y &&& q = z := ⟨_, rfl⟩
          rw [hzz] at hno hst
          have hand : bits BinOp.and IntKind.u64 (y : Int) (q : Int) = (z : Int) := by rw [u64_and_nat y q hmk hq, hzz]
          have hor : bits BinOp.or IntKind.u64 (q : Int) (y : Int) = ((q ||| y : Nat) : Int) := u64_or_nat q y hq hmk
          have HNO := Lib.hid hno
          have HNE := Lib.hid hne
          have HST := Lib.hid hst
          have HZ := Lib.hid hz
          clear hxx hx hmem hRx hno hne hst hS hy hz hzz hmk hq
          by_cases h0 : y = 0
          · have HN := Lib.hid (HNE.out (HZ.out.1 h0))
            clear HNO HNE HST HZ
            subst h0
            go_wp2_with fail
            refine HM.out.mono ?_
            rintro e w1 ⟨rfl, rfl⟩
            go_wp2
            go_ret2
            exact ⟨ret_of (by rw [HRR.out, HN.out]), rfl⟩
          · by_cases h1 : z = 0
            · have HN := Lib.hid (HST.out (fun e => h0 (HZ.out.2 e)) h1)
              have hz0 : ((z : Int) != 0) = false := by rw [h1]; rfl
              have hy0 : ((y : Int) == 0) = false := by rw [beq_eq_false_iff_ne]; omega
              clear HNO HNE HST HZ
              go_wp2_with fail
              refine HM.out.mono ?_
              rintro e w1 ⟨rfl, rfl⟩
              go_wp2
              go_round
              case rel => exact ⟨k + 1, _, by omega, by go_num, rfl, by rw [HT.out]; exact HN.out⟩
              case measure => simp [intOf]; omega
            · have HN := Lib.hid (HNO.out h1)
              have hz0 : ((z : Int) != 0) = true := by rw [bne_iff_ne]; omega
              have hy0 : ((y : Int) == 0) = false := by rw [beq_eq_false_iff_ne]; omega
              clear HNO HNE HST HZ
              go_wp2_with fail
              refine HM.out.mono ?_
              rintro e w1 ⟨rfl, rfl⟩
              go_wp2
              go_ret2
              exact ⟨ret_of (by rw [HRR.out, HN.out]), rfl⟩
        · obtain rfl : k = L.length := by omega
          rw [List.take_length] at hS
          have HQ := Lib.hid (HP.out q hS)
          clear hS
          go_wp2_with fail
          refine (HF.out _).mono ?_
          rintro e w1 ⟨rfl, rfl⟩
          go_wp2
          go_ret2
          refine ⟨ret_of ?_, rfl⟩
          rw [HRR.out, HQ.out]
          exact congrArg (fun b => (b, (0 : Int))) (by rw [Bool.eq_iff_iff]; simp)
    · have HA := Lib.hid (areSets_any L false (by simpa using he) _ w HV.out hl HL.out)
      have HRR := Lib.hid (show r = (false, 1) by
        rw [← HR.out, partR, if_neg hn, if_pos]
        exact Classical.byContradiction fun hc => he fun l h1 => Classical.byContradiction fun h2 => hc ⟨l, h1, h2⟩)
      clear he hn HR
      go_enter Try.func18, Try.ntmps18
      go_wp2_with fail
      refine (HS.out _).mono ?_
      rintro e w1 ⟨rfl, rfl⟩
      go_wp2_with fail
      refine HA.out.mono ?_
      rintro e w1 ⟨rfl, rfl⟩
      go_wp2
      go_ret2
      exact ⟨ret_of HRR.out, rfl⟩
end Go.Proofs.Ytdplcpnahahkaaa
