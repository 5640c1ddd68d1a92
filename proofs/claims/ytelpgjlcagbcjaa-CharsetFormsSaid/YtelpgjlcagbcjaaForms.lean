/- The walk of the statement CharsetForms. -/
import Derived.Test.YtelpgjlcagbcjaaRefClus
namespace Go.Proofs.Ytelpgjlcagbcjaa
set_option linter.unusedSimpArgs false
set_option linter.unusedVariables false
open Go.RowKit

theorem refPlain_at (s t : ByteArray) (h : t = ⟨(plainL s.data.toList).toArray⟩) (hs : s.size ≤ 140737488351232) (w : World) :
    Calls Try.prog 23 #[.string s] w fun e w' => e = .returned (.string t) ∧ Below w.heap.size w w' := by subst h; exact refPlain_any s hs w
theorem refFold_at (s t : ByteArray) (h : t = ⟨(foldL s.data.toList).toArray⟩) (hs : s.size ≤ 140737488351232) (w : World) :
    Calls Try.prog 21 #[.string s] w fun e w' => e = .returned (.string t) ∧ Below w.heap.size w w' := by subst h; exact refFold_any s hs w
theorem refCompare_at (a b : ByteArray) (r : Int) (h : cmpD a.data.toList b.data.toList = r) (ha : a.size ≤ 140737488351232) (hb : b.size ≤ 140737488351232) (w : World) : Calls Try.prog 30 #[.string a, .string b] w fun e w' => e = .returned (.int .i64 r) ∧ Below w.heap.size w w' := by
  subst h; exact refCompare_any a b ha hb w

set_option maxHeartbeats 2000000 in
theorem forms_small (s t : ByteArray) (hs : s.size ≤ 80) (ht : t.size ≤ 80) (w : World) :
    Calls Try.prog 4 #[.string s, .string t] w fun e w' => e = .returned (.bool true) ∧ Below w.heap.size w w' := by
  obtain ⟨f, hf⟩ : ∃ f : ByteArray, f = ⟨(foldL s.data.toList).toArray⟩ := ⟨_, rfl⟩
  obtain ⟨p, hp⟩ : ∃ p : ByteArray, p = ⟨(plainL s.data.toList).toArray⟩ := ⟨_, rfl⟩
  obtain ⟨n, hn⟩ : ∃ n, (lettersN s.data.toList : Int) = n := ⟨_, rfl⟩
  obtain ⟨r, hr⟩ : ∃ r, cmpD s.data.toList t.data.toList = r := ⟨_, rfl⟩
  obtain ⟨xs, hx⟩ : ∃ xs, (clus s.data.toList).map (fun c => (⟨c.toArray⟩ : ByteArray)) = xs := ⟨_, rfl⟩
  have HF := Lib.hid hf
  have HP := Lib.hid hp
  have HN := Lib.hid hn
  have HR := Lib.hid hr
  have HX := Lib.hid hx
  clear hf hp hn hr hx
  go_enter Try.func4, Try.ntmps4
  go_wp2_with fail
  refine (fold_at s f HF.out (by omega) _).mono ?_
  rintro e w1 ⟨rfl, h1⟩
  go_wp2_with fail
  refine (refFold_at s f HF.out (by omega) _).mono ?_
  rintro e w2 ⟨rfl, h2⟩
  have B2 := below_seq h1 h2 (Nat.le_refl _)
  clear h1 h2
  go_wp2_with fail
  refine (plain_at s p HP.out (by omega) _).mono ?_
  rintro e w3 ⟨rfl, h3⟩
  go_wp2_with fail
  refine (refPlain_at s p HP.out (by omega) _).mono ?_
  rintro e w4 ⟨rfl, h4⟩
  have B4 := below_seq (below_seq B2 h3 (Nat.le_refl _)) h4 (Nat.le_refl _)
  clear h3 h4 B2
  go_wp2_with fail
  refine (letters_at s n HN.out (by unfold maxLen; omega) _).mono ?_
  rintro e w5 ⟨rfl, rfl⟩
  go_wp2_with fail
  refine (refLetters_at s n HN.out (by unfold maxLen; omega) _).mono ?_
  rintro e w6 ⟨rfl, rfl⟩
  go_wp2_with fail
  refine (clusters_at s xs HX.out (by omega) _).mono ?_
  rintro e w7 ⟨v7, rfl, ho7, h7⟩
  have HO7 := Lib.hid ho7
  have B7 := below_seq B4 h7 (Nat.le_refl _)
  clear h7 B4 ho7
  go_wp2_with fail
  refine (refClusters_at s xs HX.out (by omega) _).mono ?_
  rintro e w8 ⟨v8, rfl, ho8, h8⟩
  have HO8 := Lib.hid ho8
  have HO7' := Lib.hid (own_below' HO7.out h8)
  have B8 := below_seq B7 h8 (Nat.le_refl _)
  clear h8 B7 ho8
  go_wp2_with fail
  refine (equal_own HO7'.out HO8.out).mono ?_
  rw [decide_eq_true rfl]
  rintro e w9 ⟨rfl, q, rfl⟩
  have B9 := below_drewN B8 q
  obtain ⟨w9, hw9⟩ : ∃ w9, w8.drewN q = w9 := ⟨_, rfl⟩
  rw [hw9] at B9 ⊢
  clear hw9 B8
  go_wp2_with fail
  refine (compare_at s t r HR.out (by omega) (by omega) _).mono ?_
  rintro e w10 ⟨rfl, h10⟩
  go_wp2_with fail
  refine (refCompare_at s t r HR.out (by omega) (by omega) _).mono ?_
  rintro e w11 ⟨rfl, h11⟩
  have B11 := below_seq (below_seq B9 h10 (Nat.le_refl _)) h11 (Nat.le_refl _)
  clear h10 h11 B9
  go_wp2_with fail
  refine (awake_any _).mono ?_
  rintro e w12 ⟨rfl, h12⟩
  go_wp2
  go_ret
  exact ⟨rfl, below_seq B11 h12 (Nat.le_refl _)⟩

theorem forms_awake (s t : ByteArray) (h : ¬ (s.size ≤ 80 ∧ t.size ≤ 80)) (w : World) :
    Calls Try.prog 4 #[.string s, .string t] w fun e w' => e = .returned (.bool true) ∧ Below w.heap.size w w' := by
  by_cases hs : s.size ≤ 80
  · have ht : ¬ t.size ≤ 80 := fun ht => h ⟨hs, ht⟩
    clear h
    go_enter Try.func4, Try.ntmps4
    go_wp2_with fail
    refine (awake_any _).mono ?_
    rintro e w2 ⟨rfl, h2⟩
    go_wp2
    go_ret
    exact ⟨rfl, h2⟩
  · clear h
    go_enter Try.func4, Try.ntmps4
    go_wp2_with fail
    refine (awake_any _).mono ?_
    rintro e w2 ⟨rfl, h2⟩
    go_wp2
    go_ret
    exact ⟨rfl, h2⟩

theorem forms_any (s t : ByteArray) (_hs : s.size ≤ maxLen) (_ht : t.size ≤ maxLen) (w : World) :
    Calls Try.prog 4 #[.string s, .string t] w fun e w' => e = .returned (.bool true) ∧ Below w.heap.size w w' := by
  by_cases h : s.size ≤ 80 ∧ t.size ≤ 80
  · exact forms_small s t h.1 h.2 w
  · exact forms_awake s t h w
end Go.Proofs.Ytelpgjlcagbcjaa
