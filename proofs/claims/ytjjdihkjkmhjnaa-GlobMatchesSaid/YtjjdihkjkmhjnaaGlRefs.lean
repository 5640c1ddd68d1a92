/- The reference's small functions: character, element, Check, checkWord, Great, stands. -/
import Derived.Test.YtjjdihkjkmhjnaaGlDefs
namespace Go.Proofs.Ytjjdihkjkmhjnaa
set_option linter.unusedSimpArgs false
set_option linter.unusedVariables false
set_option maxRecDepth 100000
open Go.RowKit Go.Deep

set_option maxHeartbeats 1000000 in
theorem refKind_any (c : Int) (w : World) :
    Calls Try.prog 72 #[.int .u8 c] w fun e w' => e = .returned (.int .i64 (kindI c)) ∧ w = w' := by
  go_enter Try.func72, Try.ntmps72
  go_wp2
  all_goals go_ret
  all_goals refine ⟨ret_int ?_, rfl⟩
  all_goals try simp only [beq_iff_eq, beq_eq_false_iff_ne, ne_eq] at *
  all_goals unfold kindI
  all_goals omega
set_option maxHeartbeats 1000000 in
theorem refCh_any (c : Int) (w : World) :
    Calls Try.prog 57 #[.int .u8 c] w fun e w' => e = .returned (.bool (chI c)) ∧ w = w' := by
  obtain ⟨k, hk⟩ : ∃ k, kindI c = k := ⟨_, rfl⟩
  have HK := Lib.hid (fun W => by have := refKind_any c W; rw [hk] at this; exact this)
  obtain ⟨r, hr⟩ : ∃ r, chI c = r := ⟨_, rfl⟩
  rw [hr]
  rw [chI, hk] at hr
  clear hk
  by_cases h1 : c = 42
  · subst h1
    have : r = true := by rw [← hr]; rfl
    subst this
    clear hr
    go_enter Try.func57, Try.ntmps57
    go_wp2_with fail
    go_ret
    exact ⟨rfl, rfl⟩
  · have hb : (c == 42) = false := by simpa using h1
    by_cases h2 : k = 0
    · subst h2
      have : r = false := by rw [← hr, hb]; rfl
      subst this
      clear hr h1
      go_enter Try.func57, Try.ntmps57
      go_wp2_with fail
      refine (HK.out _).mono ?_
      rintro e w1 ⟨rfl, rfl⟩
      go_wp2_with fail
      go_ret
      exact ⟨rfl, rfl⟩
    · have hb2 : (k != 0) = true := by simpa using h2
      have : r = (k != 6) := by rw [← hr, hb, hb2]; rfl
      subst this
      clear hr h1 h2
      go_enter Try.func57, Try.ntmps57
      go_wp2_with fail
      refine (HK.out _).mono ?_
      rintro e w1 ⟨rfl, rfl⟩
      go_wp2_with fail
      refine (HK.out _).mono ?_
      rintro e w1 ⟨rfl, rfl⟩
      go_wp2_with fail
      go_ret
      exact ⟨rfl, rfl⟩

/-- where the brackets end -/
theorem br_find (s : ByteArray) (h0 : 0 < s.size) : ∃ K, 1 ≤ K ∧ K ≤ s.size ∧ (∀ (j : Nat) (h : j < s.size), 1 ≤ j → j < K → ((s[j].toNat : Int) != 93) = true) ∧ (∀ (h : K < s.size), ((s[K].toNat : Int) != 93) = false) ∧
    ((K = s.size ∧ cutAt 93 (s.data.toList.drop 1) = none) ∨ (K < s.size ∧ ∃ t, cutAt 93 (s.data.toList.drop 1) = some ((s.data.toList.drop 1).take (K - 1), t))) := by
  have get : ∀ (j : Nat) (h : j < s.size) (h1 : 1 ≤ j), (s.data.toList.drop 1)[j - 1]'(by rw [List.length_drop, size_list]; omega) = s[j] := fun j h h1 => by
    rw [List.getElem_drop, ← ba_get s j h]
    congr 1; omega
  rcases cut_find 93 (s.data.toList.drop 1) with ⟨h1, h2⟩ | ⟨k, hk, h1, h2, h3⟩
  · refine ⟨s.size, h0, Nat.le_refl _, fun j h h1 _ => byte_bne (e := 93) rfl ?_, fun h => absurd h (Nat.lt_irrefl _), .inl ⟨rfl, h1⟩⟩
    rw [← get j h h1]; exact h2 _ _
  · have hk' : k + 1 < s.size := by rw [List.length_drop, size_list] at hk; omega
    refine ⟨k + 1, by omega, by omega, fun j h h1 h4 => byte_bne (e := 93) rfl ?_, fun h => byte_nbne (e := 93) rfl ?_, .inr ⟨hk', _, h1⟩⟩
    · rw [← get j h h1]; exact h3 _ (by omega)
    · rw [← get (k + 1) h (by omega)]; exact h2
theorem pel_cases (s : ByteArray) (h0 : 0 < s.size) : s.data.toList = s[0] :: s.data.toList.drop 1 := by
  have := drop_at s 0 h0
  simpa using this
theorem pel_93 {s : ByteArray} (h0 : 0 < s.size) (h : s[0] = 93) : pel s.data.toList = (3, .any, 0) := by
  rw [pel_cases s h0, pel, if_pos h]
theorem pel_other {s : ByteArray} (h0 : 0 < s.size) (h : s[0] ≠ 93) (h' : s[0] ≠ 91) : pel s.data.toList = (if chW s[0] then ((0 : Int), chEl s[0], (1 : Nat)) else (11, El.any, 0)) := by
  rw [pel_cases s h0, pel, if_neg h, if_neg h']
theorem pel_none {s : ByteArray} (h0 : 0 < s.size) (h : s[0] = 91) (hc : cutAt 93 (s.data.toList.drop 1) = none) : pel s.data.toList = (3, .any, 0) := by
  rw [pel_cases s h0, pel, if_neg (by rw [h]; decide), if_pos h, hc]
theorem pel_some {s : ByteArray} (h0 : 0 < s.size) (h : s[0] = 91) {d t : List UInt8} (hc : cutAt 93 (s.data.toList.drop 1) = some (d, t)) : pel s.data.toList = if d = [] then (3, .any, 0) else if d.all chW then (0, .cls d, d.length + 2) else (11, .any, 0) := by
  rw [pel_cases s h0, pel, if_neg (by rw [h]; decide), if_pos h, hc]
set_option maxHeartbeats 2000000 in
theorem refElement_at (s : ByteArray) (h0 : 0 < s.size) (hs : s.size ≤ 1048576) (er : Int) (n : Nat) (x : El) (hp : pel s.data.toList = (er, x, n)) (w : World) :
    Calls Try.prog 42 #[.string s] w fun e w' => e = .returned (.tuple #[intV n, intV er]) ∧ w = w' := by
  obtain ⟨c, hc⟩ : ∃ c, s[0] = c := ⟨_, rfl⟩
  by_cases k1 : c = 93
  · have kb : ((s[0].toNat : Int) == 93) = true := byte_eq rfl (hc.trans k1)
    rw [pel_93 h0 (hc.trans k1)] at hp
    simp only [Prod.mk.injEq] at hp
    obtain ⟨rfl, _, rfl⟩ := hp
    clear hc k1
    go_enter Try.func42, Try.ntmps42
    go_wp2_with fail
    go_ret2
    exact ⟨rfl, rfl⟩
  have kb : ((s[0].toNat : Int) == 93) = false := by rw [hc]; exact byte_ne (ev := 93) (e := 93) rfl k1
  by_cases k2 : c = 91
  · have kb2 : ((s[0].toNat : Int) != 91) = false := byte_nbne rfl (hc.trans k2)
    obtain ⟨K, hK1, hK2, hK3, hK4, hK5⟩ := br_find s h0
    have HK3 := Lib.hid hK3
    have HK4 := Lib.hid hK4
    have HP := Lib.hid hp
    have HK5 := Lib.hid hK5
    have HC := Lib.hid (hc.trans k2)
    clear hK3 hK4 hp hK5 hc k1 k2
    go_enter Try.func42, Try.ntmps42
    go_wp2_with fail
    go_loopw [5] (fun i wr => ∃ j : Nat, i = .int .i64 j ∧ 1 ≤ j ∧ j ≤ K ∧ w = wr) (fun i _ => K - (intOf i).toNat)
    case atStart => exact ⟨1, rfl, by omega, hK1, by trivial⟩
    case round =>
      obtain ⟨j, rfl, hj1, hj2, rfl⟩ := hrel
      by_cases hjK : j < K
      · have hjs : j < s.size := by omega
        have hq := HK3.out j hjs hj1 hjK
        go_wp2_with fail
        refine ⟨⟨j + 1, by go_num, by omega, by omega, by trivial⟩, ?_⟩
        simp [intOf]; omega
      · obtain rfl : j = K := by omega
        rcases HK5.out with ⟨h1, h2⟩ | ⟨h1, t, h2⟩
        · have hp := HP.out
          rw [pel_none h0 HC.out h2] at hp
          simp only [Prod.mk.injEq] at hp
          obtain ⟨rfl, _, rfl⟩ := hp
          clear HK3 HK4 HK5 h2
          subst h1
          go_wp2_with fail
          go_ret2
          exact ⟨rfl, rfl⟩
        · have hq := HK4.out h1
          have hp := HP.out
          rw [pel_some h0 HC.out h2] at hp
          have hjb : ((j : Int) == s.size) = false := by simp; omega
          have hlen : ((s.data.toList.drop 1).take (j - 1)).length = j - 1 := by rw [List.length_take, List.length_drop, size_list]; omega
          by_cases hj0 : j = 1
          · subst hj0
            rw [if_pos (by simp)] at hp
            simp only [Prod.mk.injEq] at hp
            obtain ⟨rfl, _, rfl⟩ := hp
            clear h2 hlen
            go_wp2_with fail
            go_ret2
            exact ⟨rfl, rfl⟩
          · have hj1b : ((j : Int) == 1) = false := by simp; omega
            rw [if_neg (by intro e; rw [e] at hlen; simp at hlen; omega)] at hp
            have HP2 := Lib.hid hp
            have HL := Lib.hid hlen
            clear HK3 HK4 HK5 h2 hlen hp HP
            go_wp2_with fail
            go_loopw [6] (fun i wr => ∃ k : Nat, i = .int .i64 k ∧ 1 ≤ k ∧ k ≤ j ∧ Hid (∀ (m : Nat) (h : m < s.size), 1 ≤ m → m < k → chW s[m] = true) ∧ w = wr) (fun i _ => j - (intOf i).toNat)
            case atStart => exact ⟨1, rfl, by omega, hj1, Lib.hid (fun m h h1 h2 => by omega), by trivial⟩
            case round =>
              obtain ⟨k, rfl, hk1, hk2, HA, rfl⟩ := hrel
              have get : ∀ (m : Nat) (h : m < s.size), 1 ≤ m → m < j → ∃ h', ((s.data.toList.drop 1).take (j - 1))[m - 1]'h' = s[m] := fun m h h1 h2 => by
                refine ⟨by rw [HL.out]; omega, ?_⟩
                rw [List.getElem_take, List.getElem_drop, ← ba_get s m h]
                congr 1; omega
              have HGET := Lib.hid get
              clear get
              by_cases hkj : k < j
              · have hks : k < s.size := by omega
                obtain ⟨q, hq⟩ : ∃ q, chW s[k] = q := ⟨_, rfl⟩
                have HQ := Lib.hid hq
                have HCH := Lib.hid (refCh_any s[k].toNat w)
                rw [show chI s[k].toNat = q from hq] at HCH
                clear hq
                go_wp2_with fail
                refine HCH.out.mono ?_
                rintro e w1 ⟨rfl, rfl⟩
                cases q with
                | true =>
                  go_wp2_with fail
                  refine ⟨⟨k + 1, by go_num, by omega, by omega, Lib.hid (fun m h h1 h2 => ?_), by trivial⟩, ?_⟩
                  · rcases Nat.lt_or_ge m k with h3 | h3
                    · exact HA.out m h h1 h3
                    · obtain rfl : m = k := by omega
                      exact HQ.out
                  · simp [intOf]; omega
                | false =>
                  have hp := HP2.out
                  rw [if_neg (by
                    intro hall
                    obtain ⟨h', hg⟩ := HGET.out k hks hk1 hkj
                    have := List.all_eq_true.1 hall _ (List.getElem_mem h')
                    rw [hg, HQ.out] at this
                    cases this)] at hp
                  simp only [Prod.mk.injEq] at hp
                  obtain ⟨rfl, _, rfl⟩ := hp
                  go_wp2_with fail
                  go_ret2
                  exact ⟨rfl, rfl⟩
              · obtain rfl : k = j := by omega
                have hp := HP2.out
                rw [if_pos (by
                  rw [List.all_eq_true]
                  intro y hy
                  obtain ⟨i, hi, rfl⟩ := List.getElem_of_mem hy
                  have hi' : i < k - 1 := by rw [HL.out] at hi; exact hi
                  obtain ⟨h', hg⟩ := HGET.out (i + 1) (by omega) (by omega) (by omega)
                  have := HA.out (i + 1) (by omega) (by omega) (by omega)
                  rw [← hg] at this
                  exact this)] at hp
                simp only [Prod.mk.injEq] at hp
                obtain ⟨rfl, _, rfl⟩ := hp
                have hnn : (((List.drop 1 s.data.toList).take (k - 1)).length + 2 : Nat) = k + 1 := by rw [HL.out]; omega
                have HNN := Lib.hid hnn
                clear hnn
                go_wp2_with fail
                go_ret2
                refine ⟨?_, by trivial⟩
                rw [HNN.out]
                simp
  · have kb2 : ((s[0].toNat : Int) != 91) = true := by rw [hc]; exact byte_bne (ev := 91) (e := 91) rfl k2
    rw [pel_other h0 (by rw [hc]; exact k1) (by rw [hc]; exact k2)] at hp
    obtain ⟨q, hq⟩ : ∃ q, chW s[0] = q := ⟨_, rfl⟩
    rw [hq] at hp
    have HCH := Lib.hid (refCh_any s[0].toNat w)
    rw [show chI s[0].toNat = q from hq] at HCH
    clear hq hc k1 k2
    go_enter Try.func42, Try.ntmps42
    go_wp2_with fail
    refine HCH.out.mono ?_
    rintro e w1 ⟨rfl, rfl⟩
    cases q with
    | true =>
      rw [if_pos rfl] at hp
      simp only [Prod.mk.injEq] at hp
      obtain ⟨rfl, _, rfl⟩ := hp
      go_wp2_with fail
      go_ret2
      exact ⟨rfl, rfl⟩
    | false =>
      rw [if_neg (by decide)] at hp
      simp only [Prod.mk.injEq] at hp
      obtain ⟨rfl, _, rfl⟩ := hp
      go_wp2_with fail
      go_ret2
      exact ⟨rfl, rfl⟩
end Go.Proofs.Ytjjdihkjkmhjnaa
