/- The program's Script. -/
import Derived.Test.YtbdeakodmhcgdaaEdScr2
import Derived.Test.YtbdeakodmhcgdaaEdRev
namespace Go.Proofs.Ytbdeakodmhcgdaa
set_option linter.unusedSimpArgs false
set_option linter.unusedVariables false
set_option maxRecDepth 100000
open Go.RowKit Go.Deep

/-- the script of two strings, or why there is none -/
def scrR (a b : ByteArray) : List EdV × Int := if 256 < a.size ∨ 256 < b.size then ([], 4) else ((script a.data.toList b.data.toList).map edB, 0)
theorem SR_full (a b : ByteArray) : (SR a b a.size b.size).reverse = (script a.data.toList b.data.toList).map edB := by
  rw [SR, ← List.map_reverse, List.take_of_length_le (by rw [size_list]; exact Nat.le_refl _), List.take_of_length_le (by rw [size_list]; exact Nat.le_refl _), script]
def ScrPost (L : List EdV) (k : Int) (w : World) (e : Ending) (w' : World) : Prop := ∃ v, e = .returned (.tuple #[v, .int .i64 k]) ∧ EditsAt w' v L ∧ Below w.heap.size w w'
theorem SR_short (a b : ByteArray) (i j : Nat) (ha : a.size ≤ 256) (hb : b.size ≤ 256) (hi : i ≤ a.size) (hj : j ≤ b.size) : (SR a b i j).length ≤ 1000000 := by
  have h1 := SR_len a b i j
  have h2 := DG_bd a.data.toList b.data.toList i j (by rw [size_list]; exact hi) (by rw [size_list]; exact hj)
  omega

set_option maxHeartbeats 4000000 in
theorem script_any (a b : ByteArray) (ha : a.size ≤ 1000000) (hb : b.size ≤ 1000000) (w : World) :
    Calls Try.prog 16 #[.string a, .string b] w (ScrPost (scrR a b).1 (scrR a b).2 w) := by
  have hrun := conv_run
  obtain ⟨N, hN⟩ : ∃ N, w.heap.size = N := ⟨_, rfl⟩
  have c0 : (w.alloc (.cells #[.string b] 9)).cell? ⟨N, 0, none⟩ = some (.string b) := by rw [← hN, World.cell?_alloc_new]; rfl
  by_cases hlong : 256 < a.size ∨ 256 < b.size
  · have hR : scrR a b = ([], 4) := by rw [scrR, if_pos hlong]
    rw [hR]
    have HT := Lib.hid (tooLong_any a.size b.size true (by simpa using hlong))
    have HB := Lib.hid (show Below w.heap.size w (w.alloc (.cells #[.string b] 9)) from (Below.refl _ _).alloc (Nat.le_refl _) _)
    clear hR hlong hrun
    go_enter Try.func16, Try.ntmps16
    go_wp2_with fail
    refine (HT.out _).mono ?_
    rintro e w1 ⟨rfl, rfl⟩
    go_wp2
    go_ret2
    exact ⟨_, rfl, ⟨Option.none, 0, rfl, fun h => absurd h (by simp)⟩, HB.out⟩
  · have hR : scrR a b = ((script a.data.toList b.data.toList).map edB, 0) := by rw [scrR, if_neg hlong]
    rw [hR, ← SR_full]
    have ha2 : a.size ≤ 256 := by omega
    have hb2 : b.size ≤ 256 := by omega
    have HT := Lib.hid (tooLong_any a.size b.size false (by simpa using hlong))
    have hB0 : Below w.heap.size w (w.alloc (.cells #[.string b] 9)) := (Below.refl _ _).alloc (Nat.le_refl _) _
    have hN1 : N < (w.alloc (.cells #[.string b] 9)).heap.size := by rw [nblk_alloc]; omega
    obtain ⟨W0, hW0⟩ : ∃ W0, w.alloc (.cells #[.string b] 9) = W0 := ⟨_, rfl⟩
    rw [hW0] at c0 hB0 hN1
    have c1 : (convW W0 a).cell? ⟨N, 0, none⟩ = some (.string b) := ((conv_below W0 a).cell (p := ⟨N, 0, none⟩) hN1).trans c0
    have hs1 := (conv_below W0 a).size
    have hs2 := (conv_below (convW W0 a) b).size
    have HB1 := Lib.hid (below_seq (below_seq hB0 (conv_below W0 a) hB0.size) (conv_below (convW W0 a) b) (Nat.le_trans hB0.size hs1))
    have hs2' := Nat.lt_of_lt_of_le hN1 (Nat.le_trans hs1 hs2)
    have HN1 := Lib.hid hs2'
    have C2 := Lib.hid (((conv_below (convW W0 a) b).cell (p := ⟨N, 0, none⟩) (Nat.lt_of_lt_of_le hN1 hs1)).trans c1)
    have HL := Lib.hid (And.intro ha2 hb2)
    clear hR hlong hB0 hN1 hs1 hs2 hs2' ha2 hb2
    go_enter Try.func16, Try.ntmps16
    go_wp2_with fail
    refine (HT.out _).mono ?_
    rintro e w1 ⟨rfl, rfl⟩
    try rw [hW0]
    go_wp2_with fail
    clear hrun c0 c1
    refine (sameAtB_any a.data.toList b.data.toList _ _ _ ((conv_at W0 a _).below (conv_below _ b)) (conv_at _ b _)).mono ?_
    rintro e w1 ⟨F, rfl, hF, hb1⟩
    obtain ⟨b2, b3, va, vb, rfl, _⟩ := id hF
    have hB2 : Below w1.heap.size w1 (w1.alloc (.cells #[Value.func (.func 75) #[] #[.pointer (some ⟨b2, 0, none⟩), .pointer (some ⟨b3, 0, none⟩)]] 58)) := (Below.refl _ _).alloc (Nat.le_refl _) _
    have HN2 := Lib.hid (Nat.lt_of_lt_of_le HN1.out hb1.size)
    have hC3 := (hB2.cell (p := ⟨N, 0, none⟩) HN2.out).trans ((hb1.cell (p := ⟨N, 0, none⟩) HN1.out).trans C2.out)
    have HB2 := Lib.hid (below_seq (below_seq HB1.out hb1 HB1.out.size) hB2 (by have := HB1.out.size; have := hb1.size; omega))
    have HF := Lib.hid (hF.below hB2)
    obtain ⟨M, hM⟩ : ∃ M, w1.heap.size = M := ⟨_, rfl⟩
    have hst : (w1.alloc (.cells #[Value.nilFunc] 58)).cell? ⟨M, 0, none⟩ = some Value.nilFunc := by rw [← hM, World.cell?_alloc_new]; rfl
    have hfz : (w1.alloc (.cells #[Value.nilFunc] 58)).frozen? ⟨M, 0, none⟩ = false := by rw [← hM, World.frozen?_alloc_new]
    have HC := Lib.hid (show (w1.alloc (.cells #[Value.func (.func 75) #[] #[.pointer (some ⟨b2, 0, none⟩), .pointer (some ⟨b3, 0, none⟩)]] 58)).cell? ⟨M, 0, none⟩ = some (Value.func (.func 75) #[] #[.pointer (some ⟨b2, 0, none⟩), .pointer (some ⟨b3, 0, none⟩)]) by rw [← hM, World.cell?_alloc_new]; rfl)
    have HM := Lib.hid (show M < (w1.alloc (.cells #[Value.func (.func 75) #[] #[.pointer (some ⟨b2, 0, none⟩), .pointer (some ⟨b3, 0, none⟩)]] 58)).heap.size by rw [nblk_alloc]; omega)
    have HN3 := Lib.hid (Nat.lt_of_lt_of_le HN2.out hB2.size)
    clear hF hb1 hB2
    go_wp2_with fail
    clear hst hfz
    obtain ⟨W2, hW2⟩ : ∃ W2, w1.alloc (.cells #[Value.func (.func 75) #[] #[.pointer (some ⟨b2, 0, none⟩), .pointer (some ⟨b3, 0, none⟩)]] 58) = W2 := ⟨_, rfl⟩
    rw [hW2] at hC3 HB2 HF HC HM HN3
    rw [hW2]
    have ha2 := HL.out.1
    have hb2 := HL.out.2
    have hfill := fillC_any a.size b.size (by omega) (by omega) 45 50 #[.pointer (some ⟨N, 0, none⟩)] #[.pointer (some ⟨M, 0, none⟩), .pointer (some ⟨N, 0, none⟩)] (fun W i j p => ChainE W p (SR a b i j)) W2 Try.call45 Try.call50
      (fun W W' i j p h hB => h.below hB)
      (fun W i j p b c m x f h hr => h.store hr (by decide))
      (fun W => by rw [SR_zero]; rfl)
      (fun W j z hW hj hz => (edgeRow_any b j hj (by omega) z _ (SR_short a b 0 j ha2 hb2 (by omega) (by omega)) N W hz ((hW.cell (p := ⟨N, 0, none⟩) HN3.out).trans hC3)).mono (by
        rintro e w' ⟨q, rfl, hq, hb⟩
        exact ⟨q, rfl, by rw [SR_row a b j hj]; exact hq, hb⟩))
      (fun W i z hW hi hz => (edgeCol_any b i (by omega) z _ (SR_short a b i 0 ha2 hb2 (by omega) (by omega)) N W hz ((hW.cell (p := ⟨N, 0, none⟩) HN3.out).trans hC3)).mono (by
        rintro e w' ⟨q, rfl, hq, hb⟩
        exact ⟨q, rfl, by rw [SR_col a b i hi]; exact hq, hb⟩))
      (fun W i j z1 z2 z3 hW hi hj hz1 hz2 hz3 => entryE_any a b i j hi hj (by omega) (by omega) z1 z2 z3 M N _ W hz1 hz2 hz3 ((hW.cell (p := ⟨M, 0, none⟩) HM.out).trans HC.out) (HF.out.below hW) (Nat.lt_of_lt_of_le HN3.out hW.size) ((hW.cell (p := ⟨N, 0, none⟩) HN3.out).trans hC3))
    have hls := SR_short a b a.size b.size ha2 hb2 (Nat.le_refl _) (Nat.le_refl _)
    obtain ⟨L, hLe⟩ : ∃ L, SR a b a.size b.size = L := ⟨_, rfl⟩
    have hfill2 : Calls Try.prog 49 #[intV a.size, intV b.size, .func (.func 45) #[] #[.pointer (some ⟨N, 0, none⟩)], .func (.func 50) #[] #[.pointer (some ⟨M, 0, none⟩), .pointer (some ⟨N, 0, none⟩)]] W2 (fun e W' => ∃ z, e = .returned (.pointer z) ∧ ChainE W' z L ∧ Below W2.heap.size W2 W') := by
      rw [← hLe]; exact hfill
    rw [hLe] at hls ⊢
    have HLe := Lib.hid hLe
    clear hfill hLe hC3 ha2 hb2
    refine hfill2.mono ?_
    rintro e w3 ⟨z, rfl, hz, hb3⟩
    have HZ := Lib.hid hz
    have HB3 := Lib.hid (below_seq HB2.out hb3 HB2.out.size)
    clear hz hb3 hfill2
    go_wp2_with fail
    refine (elementsE_any z L _ HZ.out hls).mono ?_
    rintro e w4 ⟨v, rfl, ho4, hb4⟩
    have HO4 := Lib.hid ho4
    have HB4 := Lib.hid (below_seq HB3.out hb4 HB3.out.size)
    have HS4 := Lib.hid hb4.size
    clear ho4 hb4
    go_wp2_with fail
    refine (revE_any L v w3.heap.size hls _ HO4.out HS4.out).mono ?_
    rintro e w5 ⟨rfl, ho5, hb5⟩
    have HE := Lib.hid (EditsAt.of_own ho5)
    have HB5 := Lib.hid (below_seq HB4.out hb5 HB3.out.size)
    clear ho5 hb5
    go_wp2
    go_ret2
    refine ⟨v, rfl, ?_, HB5.out⟩
    rw [HLe.out]
    exact HE.out
end Go.Proofs.Ytbdeakodmhcgdaa
