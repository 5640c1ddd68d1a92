/- The examples of the chapter: awake() is true, whatever the memory. -/
import Derived.Test.YtelpgjlcagbcjaaCompare
import Derived.Test.YtelpgjlcagbcjaaClusters
namespace Go.Proofs.Ytelpgjlcagbcjaa
set_option linter.unusedSimpArgs false
set_option linter.unusedVariables false
open Go.RowKit

/-- slices.Equal of two lists of strings that the call owns -/
theorem equal_own {b1 b2 n m : Nat} {v1 v2 : Value} {xs ys : List ByteArray} {w : World} (h1 : w.ownsRow b1 9 1 v1 n (xs.map Value.string)) (h2 : w.ownsRow b2 9 1 v2 m (ys.map Value.string)) :
    Calls Try.prog 26 #[v1, v2] w fun e w' => e = .returned (.bool (decide (xs = ys))) ∧ ∃ q, w' = w.drewN q := by
  have hn : xs.length = n := by have := h1.1; simpa using this
  have hm : ys.length = m := by have := h2.1; simpa using this
  have c1 := fun g hg => h1.cells (g := g) hg
  have c2 := fun g hg => h2.cells (g := g) hg
  subst hn hm
  by_cases hne : xs.length = ys.length
  · by_cases h0 : xs.length = 0
    · have ex : xs = [] := List.length_eq_zero_iff.1 h0
      have ey : ys = [] := List.length_eq_zero_iff.1 (by omega)
      subst ex ey
      obtain ⟨a1, k1, rfl⟩ : ∃ a c, v1 = .slice a 0 c := by
        rcases h1.2 with ⟨rfl, _⟩ | ⟨g, cap, cur, rfl, _⟩
        · exact ⟨_, _, rfl⟩
        · exact ⟨_, _, rfl⟩
      obtain ⟨a2, k2, rfl⟩ : ∃ a c, v2 = .slice a 0 c := by
        rcases h2.2 with ⟨rfl, _⟩ | ⟨g, cap, cur, rfl, _⟩
        · exact ⟨_, _, rfl⟩
        · exact ⟨_, _, rfl⟩
      exact (Try.slices_Equal_string_empty a1 a2 k1 0 k2 w (by omega)).mono fun e w' h => ⟨by rw [h.1]; rfl, 0, by rw [h.2]; rfl⟩
    · rcases h1.2 with ⟨_, h⟩ | ⟨g1, cap1, cur1, rfl, hb1, _, hc1, hcm1, _⟩
      · exact absurd h h0
      rcases h2.2 with ⟨_, h⟩ | ⟨g2, cap2, cur2, rfl, hb2, _, hc2, hcm2, _⟩
      · omega
      unfold maxLen at hcm1 hcm2
      refine (Try.slices_Equal_string g1 0 xs.length cap1 g2 0 ys.length cap2 xs ys w (Nat.le_refl _) (Nat.le_refl _) (by omega) (by omega) ?_ ?_).mono fun e w' h => ⟨by rw [h.1, List.take_length, List.take_length], h.2⟩
      · intro j hj
        have := c1 g1 rfl j (.string (xs.getD j ByteArray.empty)) (by simp [hj])
        rw [Nat.zero_add]
        rwa [show (⟨g1, 0, none⟩ : Addr).add j = ⟨g1, j, none⟩ by unfold Addr.add; split <;> simp_all] at this
      · intro j hj
        have := c2 g2 rfl j (.string (ys.getD j ByteArray.empty)) (by simp [hj])
        rw [Nat.zero_add]
        rwa [show (⟨g2, 0, none⟩ : Addr).add j = ⟨g2, j, none⟩ by unfold Addr.add; split <;> simp_all] at this
  · have hxy : ¬ xs = ys := fun e => hne (by rw [e])
    obtain ⟨a1, k1, rfl⟩ : ∃ a c, v1 = .slice a xs.length c := by
      rcases h1.2 with ⟨rfl, h⟩ | ⟨g, cap, cur, rfl, _⟩
      · exact ⟨_, _, by rw [h]⟩
      · exact ⟨_, _, rfl⟩
    obtain ⟨a2, k2, rfl⟩ : ∃ a c, v2 = .slice a ys.length c := by
      rcases h2.2 with ⟨rfl, h⟩ | ⟨g, cap, cur, rfl, _⟩
      · exact ⟨_, _, by rw [h]⟩
      · exact ⟨_, _, rfl⟩
    exact (Try.slices_Equal_string_lens a1 a2 xs.length k1 ys.length k2 w hne).mono fun e w' h => ⟨by rw [h.1, decide_eq_false hxy], 0, by rw [h.2]; rfl⟩

theorem kind_at (c r : Int) (h : kindI c = r) (w : World) : Calls Try.prog 12 #[.int .u8 c] w fun e w' => e = .returned (.int .i64 r) ∧ w = w' := by
  subst h; exact kind_any c w
theorem name_at (s : ByteArray) (r : Bool) (h : nameB s.data.toList = r) (hs : s.size ≤ maxLen) (w : World) : Calls Try.prog 18 #[.string s] w fun e w' => e = .returned (.bool r) ∧ w = w' := by
  subst h; exact name_any s hs w
theorem word_at (s : ByteArray) (r : Bool) (h : wordB s.data.toList = r) (w : World) : Calls Try.prog 16 #[.string s] w fun e w' => e = .returned (.bool r) ∧ Below w.heap.size w w' := by
  subst h; exact word_any s w
theorem check_at (s : ByteArray) (r : Int) (h : chk s.data.toList = r) (hs : s.size ≤ maxLen) (w : World) : Calls Try.prog 14 #[.string s] w fun e w' => e = .returned (.int .i64 r) ∧ Below w.heap.size w w' := by
  subst h; exact check_any s hs w
theorem compare_at (a b : ByteArray) (r : Int) (h : cmpD a.data.toList b.data.toList = r) (ha : a.size ≤ 140737488351232) (hb : b.size ≤ 140737488351232) (w : World) : Calls Try.prog 29 #[.string a, .string b] w fun e w' => e = .returned (.int .i64 r) ∧ Below w.heap.size w w' := by
  subst h; exact compare_any a b ha hb w
theorem clusters_at (s : ByteArray) (r : List ByteArray) (h : (clus s.data.toList).map (fun c => (⟨c.toArray⟩ : ByteArray)) = r) (hs : s.size * 16 ≤ 140737488351232) (w : World) :
    Calls Try.prog 27 #[.string s] w fun e w' => ∃ v, e = .returned v ∧ w'.ownsRow w.heap.size 9 1 v r.length (r.map Value.string) ∧ Below w.heap.size w w' := by
  subst h
  refine (clusters_any s hs w).mono fun e w' ⟨v, he, ho, hb⟩ => ⟨v, he, ?_, hb⟩
  rw [List.length_map, List.map_map]; exact ho

set_option maxHeartbeats 1000000 in
theorem awake_any (w : World) : Calls Try.prog 11 #[] w fun e w' => e = .returned (.bool true) ∧ Below w.heap.size w w' := by
  go_enter Try.func11, Try.ntmps11
  go_wp2_with fail
  refine (clusters_at _ [⟨#[101, 94, 126]⟩, ⟨#[97]⟩, ⟨#[39]⟩, ⟨#[98]⟩] (by decide) (by decide) _).mono ?_
  rintro e w1 ⟨v, rfl, ho, h1⟩
  go_wp2_with fail
  refine (equal_own (b1 := w.heap.size) (b2 := w1.heap.size) (xs := [⟨#[101, 94, 126]⟩, ⟨#[97]⟩, ⟨#[39]⟩, ⟨#[98]⟩]) (ys := [⟨#[101, 94, 126]⟩, ⟨#[97]⟩, ⟨#[39]⟩, ⟨#[98]⟩]) (ho.alloc _) (World.ownsRow_lit w1 _ 4 (Nat.le_refl _) (by decide) rfl)).mono ?_
  rw [decide_eq_true rfl]
  rintro e w2 ⟨rfl, q, rfl⟩
  have B2 : Below w.heap.size w ((w1.alloc (.cells #[.string ⟨#[101, 94, 126]⟩, .string ⟨#[97]⟩, .string ⟨#[39]⟩, .string ⟨#[98]⟩] 9)).drewN q) := below_drewN (h1.alloc h1.size _) q
  clear ho h1
  go_wp2_with fail
  refine (compare_at _ _ (-1) (by decide) (by decide) (by decide) _).mono ?_
  rintro e w3 ⟨rfl, h3⟩
  have B3 := below_seq B2 h3 (Nat.le_refl _)
  clear B2 h3
  go_wp2_with fail
  refine (name_at _ true (by decide) (by decide) _).mono ?_
  rintro e w4 ⟨rfl, rfl⟩
  go_wp2_with fail
  refine (word_at _ true (by decide) _).mono ?_
  rintro e w5 ⟨rfl, h5⟩
  have B5 := below_seq B3 h5 (Nat.le_refl _)
  clear B3 h5
  go_wp2_with fail
  refine (word_at _ false (by decide) _).mono ?_
  rintro e w6 ⟨rfl, h6⟩
  have B6 := below_seq B5 h6 (Nat.le_refl _)
  clear B5 h6
  go_wp2_with fail
  refine (check_at _ 11 (by decide) (by decide) _).mono ?_
  rintro e w7 ⟨rfl, h7⟩
  have B7 := below_seq B6 h7 (Nat.le_refl _)
  clear B6 h7
  go_wp2_with fail
  refine (kind_at _ 5 (by decide) _).mono ?_
  rintro e w8 ⟨rfl, rfl⟩
  go_wp2
  go_ret
  exact ⟨rfl, B7⟩
end Go.Proofs.Ytelpgjlcagbcjaa
