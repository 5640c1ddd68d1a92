/- The walk of EditdistanceBytes. -/
import Derived.Test.YtbdeakodmhcgdaaEdMetric
namespace Go.Proofs.Ytbdeakodmhcgdaa
set_option linter.unusedSimpArgs false
set_option linter.unusedVariables false
set_option maxRecDepth 100000
open Go.RowKit Go.Deep

set_option maxHeartbeats 2000000 in
theorem bytes_skip (w : World) (a b : ByteArray) (ha : a.size ≤ maxLen) (hb : b.size ≤ maxLen) (h : 12 < a.size ∨ 12 < b.size) :
    Calls Try.prog 10 #[.string a, .string b] w fun e w' => e = .returned (.bool true) ∧ Below w.heap.size w w' := by
  unfold maxLen at ha hb
  rcases (show (12 : Int) < a.size ∨ ((a.size : Int) ≤ 12 ∧ (12 : Int) < b.size) by omega) with h1 | ⟨h1, h2⟩
  all_goals
    clear h
    go_enter Try.func10, Try.ntmps10
    go_wp2_with fail
    refine (awake_any _).mono ?_
    rintro e w1 ⟨rfl, b1⟩
    have B1 := Lib.hid b1
    clear b1
    go_wp2
    go_ret
    exact ⟨rfl, B1.out⟩

set_option maxHeartbeats 1000000 in
theorem listOf_any (s : ByteArray) (hs : s.size ≤ 1000000) (w : World) :
    Calls Try.prog 36 #[.string s] w (OwnPost 9 ((s.data.toList.map oneB).map Value.string) w) := by
  obtain ⟨i0, hi, hz0, hz1, hz2⟩ := info_parts info_str
  go_enter Try.func36, Try.ntmps36
  go_wp2
  go_loopw [3, 4, 7] (fun v _ i wr => ∃ k : Nat, k ≤ s.size ∧ i = .int .i64 k ∧ wr.ownsRow w.heap.size 9 1 v k (((s.data.toList.map oneB).take k).map Value.string) ∧ Below w.heap.size w wr)
    (fun _ _ i _ => s.size - (intOf i).toNat)
  case atStart => exact ⟨0, Nat.zero_le _, rfl, ⟨rfl, .inl ⟨rfl, rfl⟩⟩, Below.refl _ _⟩
  case round =>
    obtain ⟨k, hk, rfl, hown, hB⟩ := hrel
    have HO := Lib.hid hown
    clear hown
    by_cases hlt : k < s.size
    · have HT := Lib.hid (take_one s k hlt)
      have HX := Lib.hid (ext_one s k hlt)
      go_wp2_with (at_builtin; refine wpList_append_own _ rfl _ _ 34 rfl w.heap.size 9 i0 (.string ⟨#[]⟩) 1 16 Try.underlying34 hi hz0 hz1 hz2 rfl (by decide) _ _ _ rfl (HO.out.alloc _) ⟨wr.heap.size, 0, none⟩ 1 1 [.string _] rfl rfl (one_news _ _ _ _ rfl) (by simp [Value.oneCell']) (by unfold maxLen; omega) (by omega) (by have := hB.size; simp; omega) ?_; intro v' w2 hown' hgrow hnn; clear hnn; have HO1 := Lib.hid hown'; have HB1 := Lib.hid (own_below hB hB.size HO.out hgrow); clear hown' hgrow)
      go_roundw
      case rel =>
        refine ⟨k + 1, by omega, by go_num, ?_, HB1.out⟩
        have h1 := HO1.out
        rw [HX.out] at h1
        rw [HT.out, List.map_append]
        exact h1
      case measure => simp [intOf]; omega
    · obtain rfl : k = s.size := by omega
      have h2 := HO.out
      rw [List.take_of_length_le (by rw [List.length_map, size_list]; exact Nat.le_refl _)] at h2
      have HO2 := Lib.hid h2
      clear h2
      go_wp2
      go_ret
      exact ⟨_, rfl, by rw [List.length_map, List.length_map, size_list]; exact HO2.out, hB⟩

set_option maxHeartbeats 4000000 in
theorem bytes_walk (w : World) (a b : ByteArray) (ha : a.size ≤ maxLen) (hb : b.size ≤ maxLen) :
    Calls Try.prog 10 #[.string a, .string b] w fun e w' => e = .returned (.bool true) ∧ Below w.heap.size w w' := by
  by_cases hbig : 12 < a.size ∨ 12 < b.size
  · exact bytes_skip w a b ha hb hbig
  · clear ha hb
    have ha : (a.size : Int) ≤ 12 := by omega
    have hb : (b.size : Int) ≤ 12 := by omega
    clear hbig
    have e1 := distR_small a b (by omega) (by omega)
    have e2 := (lists_dist a b).trans e1
    obtain ⟨x, hx⟩ : ∃ x, lev a.data.toList b.data.toList = x := ⟨_, rfl⟩
    rw [hx] at e1 e2
    clear hx
    have C1 := Lib.hid (dist_at a b _ e1 (by omega) (by omega))
    have E2 := Lib.hid e2
    clear e1 e2
    go_enter Try.func10, Try.ntmps10
    go_wp2_with fail
    refine (C1.out _).mono ?_
    rintro e w1 ⟨rfl, b1⟩
    have B1 := Lib.hid b1
    clear b1
    go_wp2_with fail
    refine (listOf_any a (by omega) _).mono ?_
    rintro e w2 ⟨v2, rfl, o2, b2⟩
    have S2 := Lib.hid (StrsAt.of_own o2)
    have B2 := Lib.hid (below_seq B1.out b2 B1.out.size)
    clear o2 b2
    go_wp2_with fail
    refine (listOf_any b (by omega) _).mono ?_
    rintro e w3 ⟨v3, rfl, o3, b3⟩
    have S3 := Lib.hid (StrsAt.of_own o3)
    have S2' := Lib.hid (S2.out.below b3)
    have B3 := Lib.hid (below_seq B2.out b3 B2.out.size)
    clear o3 b3
    go_wp2_with fail
    refine (lists_at _ _ _ E2.out _ _ _ S2'.out S3.out (by rw [List.length_map, size_list]; omega) (by rw [List.length_map, size_list]; omega)).mono ?_
    rintro e w4 ⟨rfl, b4⟩
    have B4 := Lib.hid (below_seq B3.out b4 B3.out.size)
    clear b4
    go_wp2_with fail
    refine (awake_any _).mono ?_
    rintro e w5 ⟨rfl, b5⟩
    have B5 := Lib.hid (below_seq B4.out b5 B4.out.size)
    clear b5
    go_wp2
    go_ret
    exact ⟨rfl, B5.out⟩
end Go.Proofs.Ytbdeakodmhcgdaa
