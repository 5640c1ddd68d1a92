/- Stage 10 (transcript): MkRefA MkRefB MkRefC, put together by merge10.py. -/
import Derived.Test.YtmfcepfagbkceaaGreatDoorRs
namespace Go.Proofs.YtmfcepfagbkceaaGreatDoor
set_option linter.unusedSimpArgs false
set_option linter.unusedVariables false
set_option maxRecDepth 100000
open Go.RowKit Go.Deep
theorem baL_toList (s : Bs) : (baL s).toList = s := by rw [ByteArray.toList_eq]; rfl
theorem refTags_any (w : World) : Calls Tryz.prog 122 #[] w fun e w' => ∃ v, e = .returned v ∧ WordsAt w' v tagsL ∧ Below w.heap.size w w' := by
  have hw := words_lit w tagsL (tagsL.map sV).toArray (by simp) (by decide)
  have hb := alloc_below w (.cells (tagsL.map sV).toArray 9)
  have HW := Lib.hid hw
  have HB := Lib.hid hb
  clear hw hb
  go_enter Tryz.func122, Tryz.ntmps122
  go_wp2
  go_ret
  exact ⟨_, rfl, HW.out, HB.out⟩
set_option maxHeartbeats 1000000 in
theorem known_any (s : Bs) (r : Bool) (hr : isTag s = r) (w : World) :
    Calls Tryz.prog 96 #[sV s] w fun e w' => e = .returned (.bool r) ∧ Below w.heap.size w w' := by
  have HT := Lib.hid (refTags_any w)
  have HR := Lib.hid hr
  have hs := baL_toList s
  clear hr
  go_enter Tryz.func96, Tryz.ntmps96
  go_wp2_with fail
  refine HT.out.mono ?_
  rintro e w1 ⟨v, rfl, hv, h1⟩
  have HV := Lib.hid hv
  have HB := Lib.hid h1
  obtain ⟨a, cap, rfl⟩ : ∃ a c, v = .slice a 10 c := hv.slice
  clear hv h1
  go_wp2
  go_loopw [4] (fun iv wr => ∃ k : Nat, k ≤ 10 ∧ iv = .int .i64 k ∧ Hid (∀ j (h : j < tagsL.length), j < k → tagsL[j] ≠ s) ∧ wr = w1) (fun iv _ => 10 - (intOf iv).toNat)
  case atStart => exact ⟨0, Nat.zero_le _, rfl, Lib.hid (fun j _ hj => by omega), rfl⟩
  case round =>
    obtain ⟨k, hk, rfl, HN, rfl⟩ := hrel
    obtain ⟨wk, rfl⟩ : ∃ x, x = wr := ⟨_, rfl⟩
    by_cases hlt : k < 10
    · have hltT : k < tagsL.length := hlt
      obtain ⟨b, off, rfl, _, c1⟩ := HV.out.elem hltT
      have hmem := List.getElem_mem hltT
      obtain ⟨t, ht⟩ : ∃ t, tagsL[k] = t := ⟨_, rfl⟩
      rw [ht] at c1 hmem
      have htl := baL_toList t
      have k0 : (0 : Int) ≤ (k : Int) := by omega
      have k1 : (k : Int) < 10 := by omega
      by_cases e : t = s
      · have hb : (t == s) = true := by simp [e]
        have HE := Lib.hid (show r = true by rw [← HR.out]; unfold isTag; rw [List.contains_iff_mem, ← e]; exact hmem)
        clear e ht hmem
        go_wp2
        go_ret
        exact ⟨ret_bool HE.out.symm, HB.out⟩
      · have hb : (t == s) = false := by simpa using e
        have HE := Lib.hid (show ∀ j (h : j < tagsL.length), j < k + 1 → tagsL[j] ≠ s from fun j h hj => by
          rcases Nat.lt_or_ge j k with h1 | h1
          · exact HN.out j h h1
          · obtain rfl : j = k := by omega
            rw [ht]; exact e)
        clear e ht hmem
        go_wp2
        go_roundw
        case rel => exact ⟨k + 1, by omega, by go_num, HE, trivial⟩
        case measure => simp [intOf]; omega
    · have HE := Lib.hid (show r = false by
        rw [← HR.out]; unfold isTag
        rw [Bool.eq_false_iff]
        intro h
        obtain ⟨j, hj, e⟩ := List.getElem_of_mem (List.contains_iff_mem.1 h)
        exact HN.out j hj (by have : j < 10 := hj; omega) e)
      go_wp2
      go_ret
      exact ⟨ret_bool HE.out.symm, HB.out⟩
theorem empty_or (n : Bs) : emptyT n = (n == [108, 98] || (n == [118] || (n == [112, 98] || (n == [115, 101, 99] || n == [103, 97, 112])))) := by
  unfold emptyT tLb tV tPb tSec tGap
  simp only [List.contains_cons, List.contains_nil, Bool.or_false]
set_option maxHeartbeats 1000000 in
theorem empty_any (s : Bs) (r : Bool) (hr : emptyT s = r) (w : World) :
    Calls Tryz.prog 97 #[sV s] w fun e w' => e = .returned (.bool r) ∧ w' = w := by
  rw [empty_or] at hr
  have hs := baL_toList s
  obtain ⟨b1, h1⟩ : ∃ b, (s == [108, 98]) = b := ⟨_, rfl⟩
  obtain ⟨b2, h2⟩ : ∃ b, (s == [118]) = b := ⟨_, rfl⟩
  obtain ⟨b3, h3⟩ : ∃ b, (s == [112, 98]) = b := ⟨_, rfl⟩
  obtain ⟨b4, h4⟩ : ∃ b, (s == [115, 101, 99]) = b := ⟨_, rfl⟩
  obtain ⟨b5, h5⟩ : ∃ b, (s == [103, 97, 112]) = b := ⟨_, rfl⟩
  rw [h1, h2, h3, h4, h5] at hr
  subst hr
  obtain ⟨z, hz⟩ : ∃ z, baL s = z := ⟨_, rfl⟩
  show Calls Tryz.prog _ #[.string (baL s)] w _
  rw [hz] at hs ⊢
  rw [← hs] at h1 h2 h3 h4 h5
  clear hs hz
  cases b1 <;> cases b2 <;> cases b3 <;> cases b4 <;> cases b5
  all_goals
    go_enter Tryz.func97, Tryz.ntmps97
    go_wp2
    go_ret
    exact ⟨rfl, rfl⟩
end Go.Proofs.YtmfcepfagbkceaaGreatDoor
namespace Go.Proofs.YtmfcepfagbkceaaGreatDoor
set_option linter.unusedSimpArgs false
set_option linter.unusedVariables false
set_option maxRecDepth 100000
open Go.RowKit Go.Deep
theorem valN_snoc (l : Bs) (c : UInt8) : valN (l ++ [c]) = 10 * valN l + (c.toNat - 48) := by
  unfold valN
  rw [List.foldl_append]; rfl
theorem valN_fold : ∀ (l : Bs) (n : Nat), l.all digC = true → l.foldl (fun n c => 10 * n + (c.toNat - 48)) n < (n + 1) * 10 ^ l.length
  | [], n, _ => by simp
  | c :: l, n, h => by
    rw [List.all_cons, Bool.and_eq_true] at h
    have h1 := valN_fold l (10 * n + (c.toNat - 48)) h.2
    have h2 : digC c = true := h.1
    unfold digC at h2
    simp only [Bool.and_eq_true, decide_eq_true_eq] at h2
    rw [List.foldl_cons, List.length_cons, Nat.pow_succ]
    have h3 : (10 * n + (c.toNat - 48) + 1) * 10 ^ l.length ≤ (10 * (n + 1)) * 10 ^ l.length := Nat.mul_le_mul_right _ (by omega)
    have h4 : (n + 1) * (10 ^ l.length * 10) = (10 * (n + 1)) * 10 ^ l.length := by rw [Nat.mul_comm (10 ^ l.length) 10, ← Nat.mul_assoc, Nat.mul_comm (n + 1) 10]
    rw [h4]
    omega
theorem valN_le (l : Bs) (h : l.all digC = true) : valN l < 10 ^ l.length := by
  have := valN_fold l 0 h
  rw [Nat.zero_add, Nat.one_mul] at this
  exact this
def preNM (l : Bs) : Bool := l.all digC && decide (l.head? ≠ some 48) && decide (l.length ≤ 4)
theorem numB_pre (m : Nat) (l : Bs) : numB m l = (preNM l && (decide (1 ≤ valN l) && decide (valN l ≤ m))) := by
  unfold numB preNM
  simp only [Bool.and_assoc]
theorem preN_snoc {l : Bs} {c : UInt8} (h : preNM l = true) : preNM (l ++ [c]) = (digC c && !(decide (l.length = 0) && decide (c = 48)) && decide (l.length < 4)) := by
  unfold preNM at h ⊢
  simp only [Bool.and_eq_true, decide_eq_true_eq] at h
  obtain ⟨⟨h1, h2⟩, h3⟩ := h
  rw [List.all_append, h1, Bool.true_and, List.length_append, List.length_singleton]
  have e1 : [c].all digC = digC c := by simp
  have e3 : decide (l.length + 1 ≤ 4) = decide (l.length < 4) := decide_eq_decide.2 (by omega)
  rw [e1, e3]
  congr 2
  cases l with
  | nil => simp
  | cons d t =>
    have : (d :: t ++ [c]).head? = (d :: t).head? := rfl
    rw [this]
    simp [h2] at *
    simpa using h2
theorem pre_less {l m : Bs} (h : preNM (l ++ m) = true) : preNM l = true := by
  unfold preNM at h ⊢
  simp only [Bool.and_eq_true, decide_eq_true_eq, List.all_append, List.length_append] at h ⊢
  refine ⟨⟨h.1.1.1, ?_⟩, by omega⟩
  cases l with
  | nil => simp
  | cons d t => exact h.1.2
set_option maxHeartbeats 2000000 in
theorem number_any (s : Bs) (m : Nat) (hm : m ≤ 100) (r : Bool) (hr : numB m s = r) (hs : s.length ≤ maxLen) (w : World) :
    Calls Tryz.prog 123 #[sV s, intV m] w fun e w' => e = .returned (.bool r) ∧ w' = w := by
  have HR := Lib.hid hr
  have hsz : (baL s).size = s.length := baL_size s
  have HZ := Lib.hid (show ∀ k (h : k < s.length), (baL s)[k]'(by rw [baL_size]; exact h) = s[k] from fun k h => rfl)
  have hm1 : ((m : Nat) : Int) ≤ 100 := by omega
  unfold maxLen at hs
  obtain ⟨z, hz⟩ : ∃ z, baL s = z := ⟨_, rfl⟩
  have HZ2 := Lib.hid (show ∀ k (h : k < s.length), ∃ (h2 : k < z.size), z[k]'h2 = s[k] from fun k h => by
    subst hz
    exact ⟨by rw [hsz]; exact h, HZ.out k h⟩)
  show Calls Tryz.prog _ #[.string (baL s), _] w _
  rw [hz] at hsz ⊢
  clear hr hz HZ
  go_enter Tryz.func123, Tryz.ntmps123
  go_wp2
  go_loopw [5, 6] (fun nv iv wr => ∃ k : Nat, k ≤ s.length ∧ iv = .int .i64 k ∧ nv = .int .i64 (valN (s.take k) : Nat) ∧ Hid (preNM (s.take k) = true) ∧ wr = w) (fun _ iv _ => s.length - (intOf iv).toNat)
  case atStart => exact ⟨0, Nat.zero_le _, rfl, rfl, Lib.hid rfl, rfl⟩
  case round =>
    obtain ⟨k, hk, rfl, rfl, HP, rfl⟩ := hrel
    obtain ⟨wk, rfl⟩ : ∃ x, x = wr := ⟨_, rfl⟩
    have hp := HP.out
    have hk4 : k ≤ 4 := by
      unfold preNM at hp
      simp only [Bool.and_eq_true, decide_eq_true_eq] at hp
      have := hp.2
      rw [List.length_take] at this
      omega
    have hv : valN (s.take k) < 10000 := by
      have h1 := valN_le (s.take k) (by unfold preNM at hp; simp only [Bool.and_eq_true] at hp; exact hp.1.1)
      have h2 : (s.take k).length ≤ 4 := by rw [List.length_take]; omega
      have h3 : 10 ^ (s.take k).length ≤ 10 ^ 4 := Nat.pow_le_pow_right (by decide) h2
      omega
    by_cases hlt : k < s.length
    · obtain ⟨hkz, hc⟩ := HZ2.out k hlt
      have htk : s.take (k + 1) = s.take k ++ [s[k]] := List.take_succ_eq_append_getElem hlt
      have hsn := preN_snoc (c := s[k]) hp
      have hvs := valN_snoc (s.take k) s[k]
      have hlk : (s.take k).length = k := by rw [List.length_take]; omega
      rw [← htk] at hsn hvs
      rw [hlk] at hsn
      have hdr : s = s.take (k + 1) ++ s.drop (k + 1) := (List.take_append_drop _ _).symm
      have hbad : preNM (s.take (k + 1)) = false → r = false := fun h => by
        rw [← HR.out, numB_pre]
        have : preNM s = false := by
          rw [Bool.eq_false_iff]
          intro h2
          rw [hdr] at h2
          rw [pre_less h2] at h
          cases h
        rw [this]; rfl
      obtain ⟨c, hcc⟩ : ∃ c, s[k] = c := ⟨_, rfl⟩
      rw [hcc] at hc hsn hvs
      obtain ⟨n, hn⟩ : ∃ n, valN (s.take k) = n := ⟨_, rfl⟩
      rw [hn] at hvs hv ⊢
      have hcb := c.toNat_lt
      unfold digC at hsn
      by_cases d1 : c.toNat < 48
      · have HF := Lib.hid (hbad (by rw [hsn, decide_eq_false (show ¬ 48 ≤ c.toNat by omega)]; rfl))
        have q1 : decide ((c.toNat : Int) < 48) = true := decide_eq_true (by omega)
        have q1b : (c.toNat : Int) < 48 := by omega
        clear hsn hvs hdr hbad hcc hn htk hp
        go_wp2
        go_ret
        exact ⟨ret_bool HF.out.symm, rfl⟩
      · have q1 : decide ((c.toNat : Int) < 48) = false := decide_eq_false (by omega)
        have q1b : (48 : Int) ≤ (c.toNat : Int) := by omega
        by_cases d2 : 57 < c.toNat
        · have HF := Lib.hid (hbad (by rw [hsn, decide_eq_false (show ¬ c.toNat ≤ 57 by omega), Bool.and_false]; rfl))
          have q2 : decide ((57 : Int) < (c.toNat : Int)) = true := decide_eq_true (by omega)
          clear hsn hvs hdr hbad hcc hn htk hp
          go_wp2
          go_ret
          exact ⟨ret_bool HF.out.symm, rfl⟩
        · have q2 : decide ((57 : Int) < (c.toNat : Int)) = false := decide_eq_false (by omega)
          have q2b : (c.toNat : Int) ≤ 57 := by omega
          rw [decide_eq_true (show 48 ≤ c.toNat by omega), decide_eq_true (show c.toNat ≤ 57 by omega), Bool.true_and, Bool.true_and] at hsn
          have h48 : c = 48 ↔ c.toNat = 48 := ⟨fun h => by rw [h]; rfl, fun h => UInt8.toNat.inj (by rw [h]; rfl)⟩
          by_cases d3 : k = 0 ∧ c = 48
          · have HF := Lib.hid (hbad (by rw [hsn, decide_eq_true d3.1, decide_eq_true d3.2]; rfl))
            have q3 : ((k : Int) == 0) = true := by simp [d3.1]
            have q4 : ((c.toNat : Int) == 48) = true := by rw [h48.1 d3.2]; rfl
            have D3 := Lib.hid d3
            clear hsn hvs hdr hbad hcc hn htk hp d3 h48
            go_wp2
            go_ret
            exact ⟨ret_bool HF.out.symm, rfl⟩
          · have q34 : ((k : Int) == 0) = false ∨ (((k : Int) == 0) = true ∧ ((c.toNat : Int) == 48) = false) := by
              by_cases h0 : k = 0
              · refine .inr ⟨by simp [h0], ?_⟩
                rw [beq_eq_false_iff_ne]
                intro h
                exact d3 ⟨h0, h48.2 (by omega)⟩
              · exact .inl (by rw [beq_eq_false_iff_ne]; omega)
            have hx : (decide (k = 0) && decide (c = 48)) = false := by
              rw [Bool.and_eq_false_iff, decide_eq_false_iff_not, decide_eq_false_iff_not]
              by_cases h0 : k = 0
              · exact .inr fun h => d3 ⟨h0, h⟩
              · exact .inl h0
            rw [hx, Bool.not_false, Bool.true_and] at hsn
            by_cases d4 : 3 < k
            · have HF := Lib.hid (hbad (by rw [hsn, decide_eq_false (by omega)]))
              have q5 : decide ((3 : Int) < (k : Int)) = true := decide_eq_true (by omega)
              have q5b : (3 : Int) < (k : Int) := by omega
              clear hsn hvs hdr hbad hcc hn htk hp d3 h48 hx
              rcases q34 with q3 | ⟨q3, q4⟩
              all_goals
                go_wp2
                go_ret
                exact ⟨ret_bool HF.out.symm, rfl⟩
            · have HNX := Lib.hid (show preNM (s.take (k + 1)) = true by rw [hsn]; exact decide_eq_true (by omega))
              have q5 : decide ((3 : Int) < (k : Int)) = false := decide_eq_false (by omega)
              have q5b : ¬ (3 : Int) < (k : Int) := by omega
              obtain ⟨x, hx1⟩ : ∃ x : Int, ((10 * n : Nat) : Int) = x := ⟨_, rfl⟩
              obtain ⟨y, hy1⟩ : ∃ y : Int, (c.toNat : Int) - 48 = y := ⟨_, rfl⟩
              obtain ⟨t, ht⟩ : ∃ t : Int, x + y = t := ⟨_, rfl⟩
              have w1 : IntKind.i64.wrap (10 * (n : Int)) = x := by rw [← hx1, show (10 : Int) * (n : Int) = ((10 * n : Nat) : Int) by omega]; exact IntWalk.i64_in _ (by omega)
              have w2 : IntKind.u8.wrap ((c.toNat : Int) - 48) = y := by rw [← hy1]; unfold IntKind.wrap; simp [IntKind.bits, IntKind.signed]; omega
              have w3 : IntKind.i64.wrap y = y := IntWalk.i64_in _ (by omega)
              have w4 : IntKind.i64.wrap (x + y) = t := by rw [ht]; exact IntWalk.i64_in _ (by omega)
              have HT := Lib.hid (show (valN (s.take (k + 1)) : Int) = t by rw [hvs]; omega)
              clear hsn hvs hdr hbad hcc hn htk hp d3 h48 hx hx1 hy1 ht
              rcases q34 with q3 | ⟨q3, q4⟩
              all_goals
                go_wp2
                go_roundw
                case rel => exact ⟨k + 1, by omega, by go_num, by rw [HT.out], HNX, trivial⟩
                case measure => simp [intOf]; omega
    · obtain rfl : k = s.length := by omega
      rw [List.take_length] at hp hv ⊢
      have HF := Lib.hid (show r = (decide (1 ≤ valN s) && decide (valN s ≤ m)) by rw [← HR.out, numB_pre, hp, Bool.true_and])
      obtain ⟨n, hn⟩ : ∃ n, valN s = n := ⟨_, rfl⟩
      rw [hn] at HF hv ⊢
      clear hp hn
      by_cases d1 : 1 ≤ n
      · have q1 : decide ((1 : Int) ≤ (n : Int)) = true := decide_eq_true (by omega)
        have q1b : (1 : Int) ≤ (n : Int) := by omega
        by_cases d2 : n ≤ m
        · have q2 : decide ((n : Int) ≤ (m : Int)) = true := decide_eq_true (by omega)
          have HG := Lib.hid (show r = true by rw [HF.out, decide_eq_true d1, decide_eq_true d2]; rfl)
          go_wp2
          go_ret
          exact ⟨ret_bool (by rw [HG.out]), rfl⟩
        · have q2 : decide ((n : Int) ≤ (m : Int)) = false := decide_eq_false (by omega)
          have HG := Lib.hid (show r = false by rw [HF.out, decide_eq_false d2, Bool.and_false])
          go_wp2
          go_ret
          exact ⟨ret_bool (by rw [HG.out]), rfl⟩
      · have q1 : decide ((1 : Int) ≤ (n : Int)) = false := decide_eq_false (by omega)
        have q1b : ¬ (1 : Int) ≤ (n : Int) := by omega
        have HG := Lib.hid (show r = false by rw [HF.out, decide_eq_false d1, Bool.false_and])
        go_wp2
        go_ret
        exact ⟨ret_bool (by rw [HG.out]), rfl⟩
end Go.Proofs.YtmfcepfagbkceaaGreatDoor
namespace Go.Proofs.YtmfcepfagbkceaaGreatDoor
set_option linter.unusedSimpArgs false
set_option linter.unusedVariables false
set_option maxRecDepth 100000
open Go.RowKit Go.Deep
set_option maxHeartbeats 4000000 in
theorem right_any (n v : Bs) (r : Bool) (hr : rightB n v = r) (hv : v.length ≤ maxLen) (w : World) :
    Calls Tryz.prog 99 #[sV n, sV v] w fun e w' => e = .returned (.bool r) ∧ Below w.heap.size w w' := by
  have HN64 := Lib.hid (fun W => number_any v 64 (by decide) (numB 64 v) rfl hv W)
  have HN8 := Lib.hid (fun W => number_any v 8 (by decide) (numB 8 v) rfl hv W)
  have HWO := Lib.hid (fun W => R01.refWord_at (baL v) (wordB v) rfl W)
  have HNA := Lib.hid (fun W => R01.refName_any (baL v) (by rw [baL_size]; exact hv) W)
  have hs := baL_toList n
  have hsv : (baL v).toList.isEmpty = decide (v = []) := by rw [baL_toList]; cases v <;> simp
  obtain ⟨ve, hve⟩ : ∃ b, decide (v = []) = b := ⟨_, rfl⟩
  rw [hve] at hsv
  obtain ⟨b1, h1⟩ : ∃ b, (n == [108, 98]) = b := ⟨_, rfl⟩
  obtain ⟨b2, h2⟩ : ∃ b, (n == [118]) = b := ⟨_, rfl⟩
  obtain ⟨b3, h3⟩ : ∃ b, (n == [117, 110, 99, 108, 101, 97, 114]) = b := ⟨_, rfl⟩
  obtain ⟨b4, h4⟩ : ∃ b, (n == [103, 97, 112]) = b := ⟨_, rfl⟩
  obtain ⟨b5, h5⟩ : ∃ b, (n == [97, 100, 100]) = b := ⟨_, rfl⟩
  obtain ⟨b6, h6⟩ : ∃ b, (n == [100, 101, 108]) = b := ⟨_, rfl⟩
  obtain ⟨b7, h7⟩ : ∃ b, (n == [97, 98]) = b := ⟨_, rfl⟩
  have hR : r = (if (b1 || b2 || b3) = true then ve else if b4 = true then numB 64 v else if (b5 || b6) = true then numB 8 v else if b7 = true then wordB v else nameB v) := by
    rw [← hr, ← h1, ← h2, ← h3, ← h4, ← h5, ← h6, ← h7, ← hve]
    unfold rightB tLb tV tUn tGap tAdd tDel tAb
    simp only [Bool.or_eq_true, beq_iff_eq, or_assoc]
  have HRR := Lib.hid hR
  obtain ⟨z, hz⟩ : ∃ z, baL n = z := ⟨_, rfl⟩
  show Calls Tryz.prog _ #[.string (baL n), .string (baL v)] w _
  obtain ⟨y, hy⟩ : ∃ y, baL v = y := ⟨_, rfl⟩
  rw [hz] at hs ⊢
  rw [← hs] at h1 h2 h3 h4 h5 h6 h7
  replace HN64 : Hid (∀ W, Calls Tryz.prog 123 #[.string y, .int .i64 64] W fun e w' => e = .returned (.bool (numB 64 v)) ∧ w' = W) := by rw [← hy]; exact HN64
  replace HN8 : Hid (∀ W, Calls Tryz.prog 123 #[.string y, .int .i64 8] W fun e w' => e = .returned (.bool (numB 8 v)) ∧ w' = W) := by rw [← hy]; exact HN8
  replace HWO : Hid (∀ W, Calls Tryz.prog 109 #[.string y] W fun e w' => e = .returned (.bool (wordB v)) ∧ Below W.heap.size W w') := by rw [← hy]; exact HWO
  replace HNA : Hid (∀ W, Calls Tryz.prog 108 #[.string y] W fun e w' => e = .returned (.bool (nameB v)) ∧ Below W.heap.size W w') := by rw [← hy]; exact HNA
  rw [hy] at hsv ⊢
  clear hr hv hs hve hR hz hy
  cases b1 with
  | true =>
    go_enter Tryz.func99, Tryz.ntmps99
    go_wp2
    go_ret
    exact ⟨ret_bool (by rw [HRR.out]; rfl), Below.refl _ _⟩
  | false =>
  cases b2 with
  | true =>
    go_enter Tryz.func99, Tryz.ntmps99
    go_wp2
    go_ret
    exact ⟨ret_bool (by rw [HRR.out]; rfl), Below.refl _ _⟩
  | false =>
  cases b3 with
  | true =>
    go_enter Tryz.func99, Tryz.ntmps99
    go_wp2
    go_ret
    exact ⟨ret_bool (by rw [HRR.out]; rfl), Below.refl _ _⟩
  | false =>
  cases b4 with
  | true =>
    go_enter Tryz.func99, Tryz.ntmps99
    go_wp2_with fail
    refine (HN64.out w).mono ?_
    rintro e w1 ⟨rfl, rfl⟩
    go_wp2
    go_ret
    exact ⟨ret_bool (by rw [HRR.out]; rfl), Below.refl _ _⟩
  | false =>
  cases b5 with
  | true =>
    go_enter Tryz.func99, Tryz.ntmps99
    go_wp2_with fail
    refine (HN8.out w).mono ?_
    rintro e w1 ⟨rfl, rfl⟩
    go_wp2
    go_ret
    exact ⟨ret_bool (by rw [HRR.out]; rfl), Below.refl _ _⟩
  | false =>
  cases b6 with
  | true =>
    go_enter Tryz.func99, Tryz.ntmps99
    go_wp2_with fail
    refine (HN8.out w).mono ?_
    rintro e w1 ⟨rfl, rfl⟩
    go_wp2
    go_ret
    exact ⟨ret_bool (by rw [HRR.out]; rfl), Below.refl _ _⟩
  | false =>
  cases b7 with
  | true =>
    go_enter Tryz.func99, Tryz.ntmps99
    go_wp2_with fail
    refine (HWO.out w).mono ?_
    rintro e w1 ⟨rfl, hb⟩
    have HB := Lib.hid hb
    clear hb
    go_wp2
    go_ret
    exact ⟨ret_bool (by rw [HRR.out]; rfl), HB.out⟩
  | false =>
    go_enter Tryz.func99, Tryz.ntmps99
    go_wp2_with fail
    refine (HNA.out w).mono ?_
    rintro e w1 ⟨rfl, hb⟩
    have HB := Lib.hid hb
    clear hb
    go_wp2
    go_ret
    exact ⟨ret_bool (by rw [HRR.out]; rfl), HB.out⟩
set_option maxHeartbeats 4000000 in
theorem form_any (k : Int) (n v : Bs) (o : Int) (t : Bs) (ht : formF k n v = t) (hl : n.length + v.length ≤ 200000) (w : World) :
    Calls Tryz.prog 98 #[.agg #[intV k, sV n, sV v, intV o]] w fun e w' => e = .returned (sV t) ∧ Below w.heap.size w w' := by
  have HT := Lib.hid ht
  have hve : (v = [] ∧ (!(baL v).toList.isEmpty) = false ∧ bodyL n v = n) ∨ (v ≠ [] ∧ (!(baL v).toList.isEmpty) = true ∧ bodyL n v = n ++ [32] ++ v) := by
    rw [baL_toList]
    cases v with
    | nil => exact .inl ⟨rfl, rfl, rfl⟩
    | cons c l => exact .inr ⟨by simp, rfl, by simp [bodyL]⟩
  obtain ⟨zn, hzn⟩ : ∃ z, baL n = z := ⟨_, rfl⟩
  obtain ⟨zv, hzv⟩ : ∃ z, baL v = z := ⟨_, rfl⟩
  obtain ⟨zb, hzb⟩ : ∃ z, baL (bodyL n v) = z := ⟨_, rfl⟩
  obtain ⟨zm, hzm⟩ : ∃ z, baL (n ++ [32]) = z := ⟨_, rfl⟩
  obtain ⟨z3, hz3⟩ : ∃ z, baL (60 :: bodyL n v) = z := ⟨_, rfl⟩
  obtain ⟨z6, hz6⟩ : ∃ z, baL (60 :: 47 :: n) = z := ⟨_, rfl⟩
  have hbl : (bodyL n v).length ≤ 200001 := by
    unfold bodyL
    split
    · omega
    · rw [List.length_append, List.length_cons]; omega
  have a1 : zn ++ (⟨#[32]⟩ : ByteArray) = zm := by rw [← hzm, ← hzn]; exact baL_append n [32]
  have a3 : (⟨#[60]⟩ : ByteArray) ++ zb = z3 := by rw [← hz3, ← hzb]; exact baL_append [60] _
  have a4 : z3 ++ (⟨#[62]⟩ : ByteArray) = baL (formF 2 n v) := by rw [← hz3]; exact baL_append _ [62]
  have a5 : z3 ++ (⟨#[47, 62]⟩ : ByteArray) = baL (formF 4 n v) := by rw [← hz3]; exact baL_append _ [47, 62]
  have a6 : (⟨#[60, 47]⟩ : ByteArray) ++ zn = z6 := by rw [← hz6, ← hzn]; exact baL_append [60, 47] n
  have a7 : z6 ++ (⟨#[62]⟩ : ByteArray) = baL (formF 3 n v) := by rw [← hz6]; exact baL_append _ [62]
  have l1 : zn.size ≤ 200001 := by rw [← hzn, baL_size]; omega
  have l2 : zv.size ≤ 200001 := by rw [← hzv, baL_size]; omega
  have l3 : zb.size ≤ 200001 := by rw [← hzb, baL_size]; exact hbl
  have l4 : zm.size ≤ 200001 := by rw [← hzm, baL_size, List.length_append]; simp; omega
  have l5 : z3.size ≤ 200002 := by rw [← hz3, baL_size, List.length_cons]; omega
  have l6 : z6.size ≤ 200002 := by rw [← hz6, baL_size, List.length_cons, List.length_cons]; omega
  have hbody : ((!zv.toList.isEmpty) = false ∧ zn = zb) ∨ ((!zv.toList.isEmpty) = true ∧ zm ++ zv = zb) := by
    rcases hve with ⟨_, h2, h3⟩ | ⟨_, h2, h3⟩
    · exact .inl ⟨by rw [← hzv]; exact h2, by rw [← hzn, ← hzb, h3]⟩
    · exact .inr ⟨by rw [← hzv]; exact h2, by rw [← hzm, ← hzv, ← hzb, h3, baL_append]⟩
  obtain ⟨y2, hy2⟩ : ∃ y, baL (formF 2 n v) = y := ⟨_, rfl⟩
  obtain ⟨y3, hy3⟩ : ∃ y, baL (formF 3 n v) = y := ⟨_, rfl⟩
  obtain ⟨y4, hy4⟩ : ∃ y, baL (formF 4 n v) = y := ⟨_, rfl⟩
  rw [hy2] at a4
  rw [hy3] at a7
  rw [hy4] at a5
  have HY2 := Lib.hid hy2
  have HY3 := Lib.hid hy3
  have HY4 := Lib.hid hy4
  have HYV := Lib.hid hzv
  have HB := Lib.hid (fun o => alloc_below w o)
  show Calls Tryz.prog _ #[.agg #[intV k, .string (baL n), .string (baL v), intV o]] w _
  rw [hzn, hzv]
  clear ht hve hzn hzv hzb hzm hz3 hz6 hbl hy2 hy3 hy4 hl
  rcases hbody with ⟨h1, h2⟩ | ⟨h1, h2⟩
  · subst h2
    by_cases k2 : k = 2
    · have q2 : (k == 2) = true := by simp [k2]
      have HK := Lib.hid k2
      clear k2
      go_enter Tryz.func98, Tryz.ntmps98
      go_wp2
      go_ret
      exact ⟨by rw [← HT.out, HK.out, ← HY2.out]; rfl, HB.out _⟩
    · have q2 : (k == 2) = false := by simpa using k2
      by_cases k3 : k = 3
      · have q3 : (k == 3) = true := by simp [k3]
        have HK := Lib.hid k3
        clear k2 k3
        go_enter Tryz.func98, Tryz.ntmps98
        go_wp2
        go_ret
        exact ⟨by rw [← HT.out, HK.out, ← HY3.out]; rfl, HB.out _⟩
      · have q3 : (k == 3) = false := by simpa using k3
        by_cases k4 : k = 4
        · have q4 : (k == 4) = true := by simp [k4]
          have HK := Lib.hid k4
          clear k2 k3 k4
          go_enter Tryz.func98, Tryz.ntmps98
          go_wp2
          go_ret
          exact ⟨by rw [← HT.out, HK.out, ← HY4.out]; rfl, HB.out _⟩
        · have q4 : (k == 4) = false := by simpa using k4
          have HK := Lib.hid (show formF k n v = v by unfold formF; rw [if_neg k2, if_neg k3, if_neg k4])
          clear k2 k3 k4
          go_enter Tryz.func98, Tryz.ntmps98
          go_wp2
          go_ret
          exact ⟨by rw [← HT.out, HK.out, ← HYV.out]; rfl, HB.out _⟩
  · by_cases k2 : k = 2
    · have q2 : (k == 2) = true := by simp [k2]
      have HK := Lib.hid k2
      clear k2
      go_enter Tryz.func98, Tryz.ntmps98
      go_wp2
      go_ret
      exact ⟨by rw [← HT.out, HK.out, ← HY2.out]; rfl, HB.out _⟩
    · have q2 : (k == 2) = false := by simpa using k2
      by_cases k3 : k = 3
      · have q3 : (k == 3) = true := by simp [k3]
        have HK := Lib.hid k3
        clear k2 k3
        go_enter Tryz.func98, Tryz.ntmps98
        go_wp2
        go_ret
        exact ⟨by rw [← HT.out, HK.out, ← HY3.out]; rfl, HB.out _⟩
      · have q3 : (k == 3) = false := by simpa using k3
        by_cases k4 : k = 4
        · have q4 : (k == 4) = true := by simp [k4]
          have HK := Lib.hid k4
          clear k2 k3 k4
          go_enter Tryz.func98, Tryz.ntmps98
          go_wp2
          go_ret
          exact ⟨by rw [← HT.out, HK.out, ← HY4.out]; rfl, HB.out _⟩
        · have q4 : (k == 4) = false := by simpa using k4
          have HK := Lib.hid (show formF k n v = v by unfold formF; rw [if_neg k2, if_neg k3, if_neg k4])
          clear k2 k3 k4
          go_enter Tryz.func98, Tryz.ntmps98
          go_wp2
          go_ret
          exact ⟨by rw [← HT.out, HK.out, ← HYV.out]; rfl, HB.out _⟩
end Go.Proofs.YtmfcepfagbkceaaGreatDoor
