/- The reference: number, right. -/
import Derived.Test.YtdgihkgomfpmoaaGreatDoorMkRefA
namespace Go.Proofs.YtdgihkgomfpmoaaGreatDoor
set_option linter.unusedSimpArgs false
set_option linter.unusedVariables false
set_option maxRecDepth 100000
open Go.RowKit Go.Deep

theorem valN_snoc (l : Bs) (c : UInt8) : valN (l ++ [c]) = 10 * valN l + (c.toNat - 48) := by
  unfold valN
  rw [List.foldl_append]; rfl
theorem valN_fold : ∀ (l : Bs) (n : Nat), l.all digC = true → l.foldl (fun n c => 10 * n + (c.toNat - 48)) n < (n + 1) * 10 ^ l.length
  | [], n, _ => by simp
  | c :: l, n, h => by
    rw [List.all_cons, Bool.and_eq_true] at h
    have h1 := valN_fold l (10 * n + (c.toNat - 48)) h.2
    have h2 : digC c = true := h.1
    unfold digC at h2
    simp only [Bool.and_eq_true, decide_eq_true_eq] at h2
    rw [List.foldl_cons, List.length_cons, Nat.pow_succ]
    have h3 : (10 * n + (c.toNat - 48) + 1) * 10 ^ l.length ≤ (10 * (n + 1)) * 10 ^ l.length := Nat.mul_le_mul_right _ (by omega)
    have h4 : (n + 1) * (10 ^ l.length * 10) = (10 * (n + 1)) * 10 ^ l.length := by rw [Nat.mul_comm (10 ^ l.length) 10, ← Nat.mul_assoc, Nat.mul_comm (n + 1) 10]
    rw [h4]
    omega
theorem valN_le (l : Bs) (h : l.all digC = true) : valN l < 10 ^ l.length := by
  have := valN_fold l 0 h
  rw [Nat.zero_add, Nat.one_mul] at this
  exact this
/-- what the loop has seen -/
def preN (l : Bs) : Bool := l.all digC && decide (l.head? ≠ some 48) && decide (l.length ≤ 4)
theorem numB_pre (m : Nat) (l : Bs) : numB m l = (preN l && (decide (1 ≤ valN l) && decide (valN l ≤ m))) := by
  unfold numB preN
  simp only [Bool.and_assoc]
theorem preN_snoc {l : Bs} {c : UInt8} (h : preN l = true) : preN (l ++ [c]) = (digC c && !(decide (l.length = 0) && decide (c = 48)) && decide (l.length < 4)) := by
  unfold preN at h ⊢
  simp only [Bool.and_eq_true, decide_eq_true_eq] at h
  obtain ⟨⟨h1, h2⟩, h3⟩ := h
  rw [List.all_append, h1, Bool.true_and, List.length_append, List.length_singleton]
  have e1 : [c].all digC = digC c := by simp
  have e3 : decide (l.length + 1 ≤ 4) = decide (l.length < 4) := decide_eq_decide.2 (by omega)
  rw [e1, e3]
  congr 2
  cases l with
  | nil => simp
  | cons d t =>
    have : (d :: t ++ [c]).head? = (d :: t).head? := rfl
    rw [this]
    simp [h2] at *
    simpa using h2
theorem pre_less {l m : Bs} (h : preN (l ++ m) = true) : preN l = true := by
  unfold preN at h ⊢
  simp only [Bool.and_eq_true, decide_eq_true_eq, List.all_append, List.length_append] at h ⊢
  refine ⟨⟨h.1.1.1, ?_⟩, by omega⟩
  cases l with
  | nil => simp
  | cons d t => exact h.1.2
set_option maxHeartbeats 2000000 in
theorem number_any (s : Bs) (m : Nat) (hm : m ≤ 100) (r : Bool) (hr : numB m s = r) (hs : s.length ≤ maxLen) (w : World) :
    Calls Tryz.prog 49 #[sV s, intV m] w fun e w' => e = .returned (.bool r) ∧ w' = w := by
  have HR := Lib.hid hr
  have hsz : (baL s).size = s.length := baL_size s
  have HZ := Lib.hid (show ∀ k (h : k < s.length), (baL s)[k]'(by rw [baL_size]; exact h) = s[k] from fun k h => rfl)
  have hm1 : ((m : Nat) : Int) ≤ 100 := by omega
  unfold maxLen at hs
  obtain ⟨z, hz⟩ : ∃ z, baL s = z := ⟨_, rfl⟩
  have HZ2 := Lib.hid (show ∀ k (h : k < s.length), ∃ (h2 : k < z.size), z[k]'h2 = s[k] from fun k h => by
    subst hz
    exact ⟨by rw [hsz]; exact h, HZ.out k h⟩)
  show Calls Tryz.prog _ #[.string (baL s), _] w _
  rw [hz] at hsz ⊢
  clear hr hz HZ
  go_enter Tryz.func49, Tryz.ntmps49
  go_wp2
  go_loopw [5, 6] (fun nv iv wr => ∃ k : Nat, k ≤ s.length ∧ iv = .int .i64 k ∧ nv = .int .i64 (valN (s.take k) : Nat) ∧ Hid (preN (s.take k) = true) ∧ wr = w) (fun _ iv _ => s.length - (intOf iv).toNat)
  case atStart => exact ⟨0, Nat.zero_le _, rfl, rfl, Lib.hid rfl, rfl⟩
  case round =>
    obtain ⟨k, hk, rfl, rfl, HP, rfl⟩ := hrel
    obtain ⟨wk, rfl⟩ : ∃ x, x = wr := ⟨_, rfl⟩
    have hp := HP.out
    have hk4 : k ≤ 4 := by
      unfold preN at hp
      simp only [Bool.and_eq_true, decide_eq_true_eq] at hp
      have := hp.2
      rw [List.length_take] at this
      omega
    have hv : valN (s.take k) < 10000 := by
      have h1 := valN_le (s.take k) (by unfold preN at hp; simp only [Bool.and_eq_true] at hp; exact hp.1.1)
      have h2 : (s.take k).length ≤ 4 := by rw [List.length_take]; omega
      have h3 : 10 ^ (s.take k).length ≤ 10 ^ 4 := Nat.pow_le_pow_right (by decide) h2
      omega
    by_cases hlt : k < s.length
    · obtain ⟨hkz, hc⟩ := HZ2.out k hlt
      have htk : s.take (k + 1) = s.take k ++ [s[k]] := List.take_succ_eq_append_getElem hlt
      have hsn := preN_snoc (c := s[k]) hp
      have hvs := valN_snoc (s.take k) s[k]
      have hlk : (s.take k).length = k := by rw [List.length_take]; omega
      rw [← htk] at hsn hvs
      rw [hlk] at hsn
      have hdr : s = s.take (k + 1) ++ s.drop (k + 1) := (List.take_append_drop _ _).symm
      have hbad : preN (s.take (k + 1)) = false → r = false := fun h => by
        rw [← HR.out, numB_pre]
        have : preN s = false := by
          rw [Bool.eq_false_iff]
          intro h2
          rw [hdr] at h2
          rw [pre_less h2] at h
          cases h
        rw [this]; rfl
      obtain ⟨c, hcc⟩ : ∃ c, s[k] = c := ⟨_, rfl⟩
      rw [hcc] at hc hsn hvs
      obtain ⟨n, hn⟩ : ∃ n, valN (s.take k) = n := ⟨_, rfl⟩
      rw [hn] at hvs hv ⊢
      have hcb := c.toNat_lt
      unfold digC at hsn
      by_cases d1 : c.toNat < 48
      · have HF := Lib.hid (hbad (by rw [hsn, decide_eq_false (show ¬ 48 ≤ c.toNat by omega)]; rfl))
        have q1 : decide ((c.toNat : Int) < 48) = true := decide_eq_true (by omega)
        have q1b : (c.toNat : Int) < 48 := by omega
        clear hsn hvs hdr hbad hcc hn htk hp
        go_wp2
        go_ret
        exact ⟨ret_bool HF.out.symm, rfl⟩
      · have q1 : decide ((c.toNat : Int) < 48) = false := decide_eq_false (by omega)
        have q1b : (48 : Int) ≤ (c.toNat : Int) := by omega
        by_cases d2 : 57 < c.toNat
        · have HF := Lib.hid (hbad (by rw [hsn, decide_eq_false (show ¬ c.toNat ≤ 57 by omega), Bool.and_false]; rfl))
          have q2 : decide ((57 : Int) < (c.toNat : Int)) = true := decide_eq_true (by omega)
          clear hsn hvs hdr hbad hcc hn htk hp
          go_wp2
          go_ret
          exact ⟨ret_bool HF.out.symm, rfl⟩
        · have q2 : decide ((57 : Int) < (c.toNat : Int)) = false := decide_eq_false (by omega)
          have q2b : (c.toNat : Int) ≤ 57 := by omega
          rw [decide_eq_true (show 48 ≤ c.toNat by omega), decide_eq_true (show c.toNat ≤ 57 by omega), Bool.true_and, Bool.true_and] at hsn
          have h48 : c = 48 ↔ c.toNat = 48 := ⟨fun h => by rw [h]; rfl, fun h => UInt8.toNat.inj (by rw [h]; rfl)⟩
          by_cases d3 : k = 0 ∧ c = 48
          · have HF := Lib.hid (hbad (by rw [hsn, decide_eq_true d3.1, decide_eq_true d3.2]; rfl))
            have q3 : ((k : Int) == 0) = true := by simp [d3.1]
            have q4 : ((c.toNat : Int) == 48) = true := by rw [h48.1 d3.2]; rfl
            have D3 := Lib.hid d3
            clear hsn hvs hdr hbad hcc hn htk hp d3 h48
            go_wp2
            go_ret
            exact ⟨ret_bool HF.out.symm, rfl⟩
          · have q34 : ((k : Int) == 0) = false ∨ (((k : Int) == 0) = true ∧ ((c.toNat : Int) == 48) = false) := by
              by_cases h0 : k = 0
              · refine .inr ⟨by simp [h0], ?_⟩
                rw [beq_eq_false_iff_ne]
                intro h
                exact d3 ⟨h0, h48.2 (by omega)⟩
              · exact .inl (by rw [beq_eq_false_iff_ne]; omega)
            have hx : (decide (k = 0) && decide (c = 48)) = false := by
              rw [Bool.and_eq_false_iff, decide_eq_false_iff_not, decide_eq_false_iff_not]
              by_cases h0 : k = 0
              · exact .inr fun h => d3 ⟨h0, h⟩
              · exact .inl h0
            rw [hx, Bool.not_false, Bool.true_and] at hsn
            by_cases d4 : 3 < k
            · have HF := Lib.hid (hbad (by rw [hsn, decide_eq_false (by omega)]))
              have q5 : decide ((3 : Int) < (k : Int)) = true := decide_eq_true (by omega)
              have q5b : (3 : Int) < (k : Int) := by omega
              clear hsn hvs hdr hbad hcc hn htk hp d3 h48 hx
              rcases q34 with q3 | ⟨q3, q4⟩
              all_goals
                go_wp2
                go_ret
                exact ⟨ret_bool HF.out.symm, rfl⟩
            · have HNX := Lib.hid (show preN (s.take (k + 1)) = true by rw [hsn]; exact decide_eq_true (by omega))
              have q5 : decide ((3 : Int) < (k : Int)) = false := decide_eq_false (by omega)
              have q5b : ¬ (3 : Int) < (k : Int) := by omega
              obtain ⟨x, hx1⟩ : ∃ x : Int, ((10 * n : Nat) : Int) = x := ⟨_, rfl⟩
              obtain ⟨y, hy1⟩ : ∃ y : Int, (c.toNat : Int) - 48 = y := ⟨_, rfl⟩
              obtain ⟨t, ht⟩ : ∃ t : Int, x + y = t := ⟨_, rfl⟩
              have w1 : IntKind.i64.wrap (10 * (n : Int)) = x := by rw [← hx1, show (10 : Int) * (n : Int) = ((10 * n : Nat) : Int) by omega]; exact IntWalk.i64_in _ (by omega)
              have w2 : IntKind.u8.wrap ((c.toNat : Int) - 48) = y := by rw [← hy1]; unfold IntKind.wrap; simp [IntKind.bits, IntKind.signed]; omega
              have w3 : IntKind.i64.wrap y = y := IntWalk.i64_in _ (by omega)
              have w4 : IntKind.i64.wrap (x + y) = t := by rw [ht]; exact IntWalk.i64_in _ (by omega)
              have HT := Lib.hid (show (valN (s.take (k + 1)) : Int) = t by rw [hvs]; omega)
              clear hsn hvs hdr hbad hcc hn htk hp d3 h48 hx hx1 hy1 ht
              rcases q34 with q3 | ⟨q3, q4⟩
              all_goals
                go_wp2
                go_roundw
                case rel => exact ⟨k + 1, by omega, by go_num, by rw [HT.out], HNX, trivial⟩
                case measure => simp [intOf]; omega
    · obtain rfl : k = s.length := by omega
      rw [List.take_length] at hp hv ⊢
      have HF := Lib.hid (show r = (decide (1 ≤ valN s) && decide (valN s ≤ m)) by rw [← HR.out, numB_pre, hp, Bool.true_and])
      obtain ⟨n, hn⟩ : ∃ n, valN s = n := ⟨_, rfl⟩
      rw [hn] at HF hv ⊢
      clear hp hn
      by_cases d1 : 1 ≤ n
      · have q1 : decide ((1 : Int) ≤ (n : Int)) = true := decide_eq_true (by omega)
        have q1b : (1 : Int) ≤ (n : Int) := by omega
        by_cases d2 : n ≤ m
        · have q2 : decide ((n : Int) ≤ (m : Int)) = true := decide_eq_true (by omega)
          have HG := Lib.hid (show r = true by rw [HF.out, decide_eq_true d1, decide_eq_true d2]; rfl)
          go_wp2
          go_ret
          exact ⟨ret_bool (by rw [HG.out]), rfl⟩
        · have q2 : decide ((n : Int) ≤ (m : Int)) = false := decide_eq_false (by omega)
          have HG := Lib.hid (show r = false by rw [HF.out, decide_eq_false d2, Bool.and_false])
          go_wp2
          go_ret
          exact ⟨ret_bool (by rw [HG.out]), rfl⟩
      · have q1 : decide ((1 : Int) ≤ (n : Int)) = false := decide_eq_false (by omega)
        have q1b : ¬ (1 : Int) ≤ (n : Int) := by omega
        have HG := Lib.hid (show r = false by rw [HF.out, decide_eq_false d1, Bool.false_and])
        go_wp2
        go_ret
        exact ⟨ret_bool (by rw [HG.out]), rfl⟩
end Go.Proofs.YtdgihkgomfpmoaaGreatDoor
