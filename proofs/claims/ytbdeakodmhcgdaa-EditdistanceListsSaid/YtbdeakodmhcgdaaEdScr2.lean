/- The closures of the program's Script. -/
import Derived.Test.YtbdeakodmhcgdaaEdScr
namespace Go.Proofs.Ytbdeakodmhcgdaa
set_option linter.unusedSimpArgs false
set_option linter.unusedVariables false
set_option maxRecDepth 100000
open Go.RowKit Go.Deep

theorem sizeE_at (p : Option Addr) (l : List EdV) (n : Nat) (hn : l.length = n) (w : World) (h : ChainE w p l) :
    Calls Try.prog 51 #[.pointer p] w fun e w' => e = .returned (intV n) ∧ w = w' := by subst hn; exact sizeE_any p l w h

set_option maxHeartbeats 1000000 in
theorem edgeRow_any (b : ByteArray) (j : Nat) (hj : j < b.size) (hb : b.size ≤ 1000000) (p : Option Addr) (l : List EdV) (hl : l.length ≤ 1000000) (b3 : Nat) (w : World) (h : ChainE w p l) (h3 : w.cell? ⟨b3, 0, none⟩ = some (.string b)) :
    Calls Try.prog 45 #[intV 0, intV (j + 1 : Nat), .pointer p, .pointer (some ⟨b3, 0, none⟩)] w fun e w' => ∃ q, e = .returned (.pointer q) ∧ ChainE w' q (⟨0, 0, oneB b[j]⟩ :: l) ∧ Below w.heap.size w w' := by
  have HC := Lib.hid (insertion_any 0 j b (by omega) hj hb)
  obtain ⟨j1, hj1⟩ : ∃ j1, j + 1 = j1 := ⟨_, rfl⟩
  obtain ⟨x, hx⟩ : ∃ x, oneB b[j] = x := ⟨_, rfl⟩
  rw [hj1] at HC ⊢
  rw [hx] at HC ⊢
  have h0 : (0 : Int) < j1 := by omega
  have HH := Lib.hid h
  clear h hj1 hx
  go_enter Try.func45, Try.ntmps45
  go_wp2_with fail
  refine (HC.out _).mono ?_
  rintro e w1 ⟨rfl, hb1⟩
  have HB := Lib.hid hb1
  clear hb1
  go_wp2_with fail
  refine (withE_any p l _ _ (HH.out.below HB.out) hl).mono ?_
  rintro e w2 ⟨q, rfl, hc, hb2⟩
  have HQ := Lib.hid hc
  have HB2 := Lib.hid (below_seq HB.out hb2 HB.out.size)
  clear hc hb2
  go_wp2
  go_ret
  exact ⟨_, rfl, HQ.out, HB2.out⟩

set_option maxHeartbeats 1000000 in
theorem edgeCol_any (b : ByteArray) (i : Nat) (hi : i ≤ 1000000) (p : Option Addr) (l : List EdV) (hl : l.length ≤ 1000000) (b3 : Nat) (w : World) (h : ChainE w p l) (h3 : w.cell? ⟨b3, 0, none⟩ = some (.string b)) :
    Calls Try.prog 45 #[intV (i + 1 : Nat), intV 0, .pointer p, .pointer (some ⟨b3, 0, none⟩)] w fun e w' => ∃ q, e = .returned (.pointer q) ∧ ChainE w' q (⟨i, 1, ⟨#[]⟩⟩ :: l) ∧ Below w.heap.size w w' := by
  have HC := Lib.hid (deletion_any i hi)
  obtain ⟨i1, hi1⟩ : ∃ i1, i + 1 = i1 := ⟨_, rfl⟩
  rw [hi1] at HC ⊢
  have HH := Lib.hid h
  clear h hi1
  go_enter Try.func45, Try.ntmps45
  go_wp2_with fail
  refine (HC.out _).mono ?_
  rintro e w1 ⟨rfl, hb1⟩
  have HB := Lib.hid hb1
  clear hb1
  go_wp2_with fail
  refine (withE_any p l _ _ (HH.out.below HB.out) hl).mono ?_
  rintro e w2 ⟨q, rfl, hc, hb2⟩
  have HQ := Lib.hid hc
  have HB2 := Lib.hid (below_seq HB.out hb2 HB.out.size)
  clear hc hb2
  go_wp2
  go_ret
  exact ⟨_, rfl, HQ.out, HB2.out⟩

set_option maxHeartbeats 4000000 in
theorem entryE_any (a b : ByteArray) (i j : Nat) (hi : i < a.size) (hj : j < b.size) (ha : a.size ≤ 1000) (hb : b.size ≤ 1000) (p1 p2 p3 : Option Addr) (b5 b6 : Nat) (F : Value) (w : World)
    (h1 : ChainE w p1 (SR a b i j)) (h2 : ChainE w p2 (SR a b i (j + 1))) (h3 : ChainE w p3 (SR a b (i + 1) j))
    (c5 : w.cell? ⟨b5, 0, none⟩ = some F) (hF : SameFn 75 u8V w F a.data.toList b.data.toList) (l6 : b6 < w.heap.size) (c6 : w.cell? ⟨b6, 0, none⟩ = some (.string b)) :
    Calls Try.prog 50 #[intV (i + 1 : Nat), intV (j + 1 : Nat), .pointer p1, .pointer p2, .pointer p3, .pointer (some ⟨b5, 0, none⟩), .pointer (some ⟨b6, 0, none⟩)] w fun e w' => ∃ q, e = .returned (.pointer q) ∧ ChainE w' q (SR a b (i + 1) (j + 1)) ∧ Below w.heap.size w w' := by
  have hR := SR_step a b i j hi hj
  have hd1 := SR_len a b i j
  have hd2 := SR_len a b i (j + 1)
  have hd3 := SR_len a b (i + 1) j
  have bd1 := DG_bd a.data.toList b.data.toList i j (by rw [size_list]; omega) (by rw [size_list]; omega)
  have bd2 := DG_bd a.data.toList b.data.toList i (j + 1) (by rw [size_list]; omega) (by rw [size_list]; omega)
  have bd3 := DG_bd a.data.toList b.data.toList (i + 1) j (by rw [size_list]; omega) (by rw [size_list]; omega)
  obtain ⟨b2, b3, va, vb, rfl, l2, l3, c2, c3, hx, hy⟩ := hF
  obtain ⟨r, hr⟩ : ∃ r, decide (a[i] = b[j]) = r := ⟨_, rfl⟩
  have HC := Lib.hid (sameB_any a.data.toList b.data.toList i j (by rw [size_list]; exact hi) (by rw [size_list]; exact hj) r hr (by rw [size_list]; omega) (by rw [size_list]; omega) b2 b3 va vb w c2 c3 hx hy)
  have HD := Lib.hid (deletion_any i (by omega))
  have HP := Lib.hid (replacement_any i j b (by omega) hj (by omega))
  have HN := Lib.hid (insertion_any (i + 1) j b (by omega) hj (by omega))
  obtain ⟨L1, e1⟩ : ∃ L, SR a b i j = L := ⟨_, rfl⟩
  obtain ⟨L2, e2⟩ : ∃ L, SR a b i (j + 1) = L := ⟨_, rfl⟩
  obtain ⟨L3, e3⟩ : ∃ L, SR a b (i + 1) j = L := ⟨_, rfl⟩
  obtain ⟨LR, e4⟩ : ∃ L, SR a b (i + 1) (j + 1) = L := ⟨_, rfl⟩
  rw [e1] at hR h1 hd1
  rw [e2] at hR h2 hd2
  rw [e3] at hR h3 hd3
  rw [e4] at hR ⊢
  obtain ⟨x, hxx⟩ : ∃ x, oneB b[j] = x := ⟨_, rfl⟩
  rw [hxx] at hR HP HN
  obtain ⟨n1, hn1⟩ : ∃ n, L1.length = n := ⟨_, rfl⟩
  obtain ⟨n2, hn2⟩ : ∃ n, L2.length = n := ⟨_, rfl⟩
  obtain ⟨n3, hn3⟩ : ∃ n, L3.length = n := ⟨_, rfl⟩
  rw [hn1] at hd1
  rw [hn2] at hd2
  rw [hn3] at hd3
  rw [hn1, hn2, hn3] at hR
  have m1 : n1 ≤ 1000000 := by omega
  have m2 : n2 ≤ 1000000 := by omega
  have m3 : n3 ≤ 1000000 := by omega
  clear e1 e2 e3 e4 hxx hd1 hd2 hd3 bd1 bd2 bd3
  obtain ⟨i1, hi1⟩ : ∃ i1, i + 1 = i1 := ⟨_, rfl⟩
  obtain ⟨j1, hj1⟩ : ∃ j1, j + 1 = j1 := ⟨_, rfl⟩
  have hii : (i1 : Int) - 1 = (i : Int) := by omega
  have hji : (j1 : Int) - 1 = (j : Int) := by omega
  have hwi : IntKind.i64.wrap (i : Int) = (i : Int) := IntWalk.i64_in _ (by omega)
  have hwj : IntKind.i64.wrap (j : Int) = (j : Int) := IntWalk.i64_in _ (by omega)
  rw [hi1] at hR HD HP HN
  rw [hj1] at HP HN
  rw [hi1, hj1]
  have HH := Lib.hid (And.intro h1 (And.intro h2 h3))
  have C6 := Lib.hid c6
  have hways : (a[i] = b[j] ∧ LR = L1) ∨ (¬ a[i] = b[j] ∧ (n1 : Int) ≤ n2 ∧ (n1 : Int) ≤ n3 ∧ LR = ⟨i, 1, x⟩ :: L1) ∨
      (¬ a[i] = b[j] ∧ (n2 : Int) < n1 ∧ (n2 : Int) ≤ n3 ∧ LR = ⟨i, 1, ⟨#[]⟩⟩ :: L2) ∨ (¬ a[i] = b[j] ∧ (n3 : Int) < n1 ∧ (n3 : Int) < n2 ∧ LR = ⟨i1, 0, x⟩ :: L3) := by
    by_cases d1 : a[i] = b[j]
    · rw [if_pos d1] at hR; exact .inl ⟨d1, hR⟩
    · rw [if_neg d1] at hR
      by_cases d2 : n1 ≤ min n2 n3
      · rw [if_pos d2] at hR; exact .inr (.inl ⟨d1, by omega, by omega, hR⟩)
      · rw [if_neg d2] at hR
        by_cases d3 : n2 ≤ n3
        · rw [if_pos d3] at hR; exact .inr (.inr (.inl ⟨d1, by omega, by omega, hR⟩))
        · rw [if_neg d3] at hR; exact .inr (.inr (.inr ⟨d1, by omega, by omega, hR⟩))
  clear hR c2 c3 hx hy h1 h2 h3 hi1 hj1 c6
  have HL := Lib.hid (And.intro hn1 (And.intro hn2 (And.intro hn3 (And.intro m1 (And.intro m2 m3)))))
  clear hn1 hn2 hn3 m1 m2 m3
  rcases hways with ⟨d, rfl⟩ | ⟨d, k1, k2, rfl⟩ | ⟨d, k1, k2, rfl⟩ | ⟨d, k1, k2, rfl⟩
  · obtain rfl : true = r := by rw [← hr, decide_eq_true d]
    clear hr d
    go_enter Try.func50, Try.ntmps50
    go_wp2_with fail
    refine HC.out.mono ?_
    rintro e w1 ⟨rfl, hb1⟩
    have HB := Lib.hid hb1
    clear hb1 HC
    have HH1 := Lib.hid (And.intro (HH.out.1.below HB.out) (And.intro (HH.out.2.1.below HB.out) (HH.out.2.2.below HB.out)))
    have C61 := Lib.hid ((HB.out.cell (p := ⟨b6, 0, none⟩) l6).trans C6.out)
    go_wp2
    go_ret
    exact ⟨_, rfl, HH1.out.1, HB.out⟩
  · obtain rfl : false = r := by rw [← hr, decide_eq_false d]
    clear hr d
    by_cases hlt : n3 < n2
    · go_enter Try.func50, Try.ntmps50
      go_wp2_with fail
      refine HC.out.mono ?_
      rintro e w1 ⟨rfl, hb1⟩
      have HB := Lib.hid hb1
      clear hb1 HC
      have HH1 := Lib.hid (And.intro (HH.out.1.below HB.out) (And.intro (HH.out.2.1.below HB.out) (HH.out.2.2.below HB.out)))
      have C61 := Lib.hid ((HB.out.cell (p := ⟨b6, 0, none⟩) l6).trans C6.out)
      have c6 := C61.out
      go_wp2_with fail
      refine (sizeE_at p1 _ n1 HL.out.1 _ HH1.out.1).mono ?_
      rintro e w2 ⟨rfl, rfl⟩
      go_wp2_with fail
      refine (sizeE_at p2 _ n2 HL.out.2.1 _ HH1.out.2.1).mono ?_
      rintro e w2 ⟨rfl, rfl⟩
      go_wp2_with fail
      refine (sizeE_at p3 _ n3 HL.out.2.2.1 _ HH1.out.2.2).mono ?_
      rintro e w2 ⟨rfl, rfl⟩
      go_wp2_with fail
      refine (HP.out _).mono ?_
      rintro e w2 ⟨rfl, hb2⟩
      have HB2 := Lib.hid hb2
      clear hb2
      go_wp2_with fail
      refine (withE_any p1 _ _ _ (HH1.out.1.below HB2.out) (by rw [HL.out.1]; exact HL.out.2.2.2.1)).mono ?_
      rintro e w3 ⟨q, rfl, hc, hb3⟩
      have HQ := Lib.hid hc
      have HB3 := Lib.hid (below_seq (below_seq HB.out HB2.out HB.out.size) hb3 (by have := HB.out.size; have := HB2.out.size; omega))
      clear hc hb3
      go_wp2
      go_ret
      exact ⟨_, rfl, HQ.out, HB3.out⟩
    · go_enter Try.func50, Try.ntmps50
      go_wp2_with fail
      refine HC.out.mono ?_
      rintro e w1 ⟨rfl, hb1⟩
      have HB := Lib.hid hb1
      clear hb1 HC
      have HH1 := Lib.hid (And.intro (HH.out.1.below HB.out) (And.intro (HH.out.2.1.below HB.out) (HH.out.2.2.below HB.out)))
      have C61 := Lib.hid ((HB.out.cell (p := ⟨b6, 0, none⟩) l6).trans C6.out)
      have c6 := C61.out
      go_wp2_with fail
      refine (sizeE_at p1 _ n1 HL.out.1 _ HH1.out.1).mono ?_
      rintro e w2 ⟨rfl, rfl⟩
      go_wp2_with fail
      refine (sizeE_at p2 _ n2 HL.out.2.1 _ HH1.out.2.1).mono ?_
      rintro e w2 ⟨rfl, rfl⟩
      go_wp2_with fail
      refine (sizeE_at p3 _ n3 HL.out.2.2.1 _ HH1.out.2.2).mono ?_
      rintro e w2 ⟨rfl, rfl⟩
      go_wp2_with fail
      refine (HP.out _).mono ?_
      rintro e w2 ⟨rfl, hb2⟩
      have HB2 := Lib.hid hb2
      clear hb2
      go_wp2_with fail
      refine (withE_any p1 _ _ _ (HH1.out.1.below HB2.out) (by rw [HL.out.1]; exact HL.out.2.2.2.1)).mono ?_
      rintro e w3 ⟨q, rfl, hc, hb3⟩
      have HQ := Lib.hid hc
      have HB3 := Lib.hid (below_seq (below_seq HB.out HB2.out HB.out.size) hb3 (by have := HB.out.size; have := HB2.out.size; omega))
      clear hc hb3
      go_wp2
      go_ret
      exact ⟨_, rfl, HQ.out, HB3.out⟩
  · obtain rfl : false = r := by rw [← hr, decide_eq_false d]
    clear hr d
    go_enter Try.func50, Try.ntmps50
    go_wp2_with fail
    refine HC.out.mono ?_
    rintro e w1 ⟨rfl, hb1⟩
    have HB := Lib.hid hb1
    clear hb1 HC
    have HH1 := Lib.hid (And.intro (HH.out.1.below HB.out) (And.intro (HH.out.2.1.below HB.out) (HH.out.2.2.below HB.out)))
    have C61 := Lib.hid ((HB.out.cell (p := ⟨b6, 0, none⟩) l6).trans C6.out)
    have c6 := C61.out
    go_wp2_with fail
    refine (sizeE_at p1 _ n1 HL.out.1 _ HH1.out.1).mono ?_
    rintro e w2 ⟨rfl, rfl⟩
    go_wp2_with fail
    refine (sizeE_at p2 _ n2 HL.out.2.1 _ HH1.out.2.1).mono ?_
    rintro e w2 ⟨rfl, rfl⟩
    go_wp2_with fail
    refine (sizeE_at p3 _ n3 HL.out.2.2.1 _ HH1.out.2.2).mono ?_
    rintro e w2 ⟨rfl, rfl⟩
    go_wp2_with fail
    refine (sizeE_at p2 _ n2 HL.out.2.1 _ HH1.out.2.1).mono ?_
    rintro e w2 ⟨rfl, rfl⟩
    go_wp2_with fail
    refine (sizeE_at p3 _ n3 HL.out.2.2.1 _ HH1.out.2.2).mono ?_
    rintro e w2 ⟨rfl, rfl⟩
    go_wp2_with fail
    refine (HD.out _).mono ?_
    rintro e w2 ⟨rfl, hb2⟩
    have HB2 := Lib.hid hb2
    clear hb2
    go_wp2_with fail
    refine (withE_any p2 _ _ _ (HH1.out.2.1.below HB2.out) (by rw [HL.out.2.1]; exact HL.out.2.2.2.2.1)).mono ?_
    rintro e w3 ⟨q, rfl, hc, hb3⟩
    have HQ := Lib.hid hc
    have HB3 := Lib.hid (below_seq (below_seq HB.out HB2.out HB.out.size) hb3 (by have := HB.out.size; have := HB2.out.size; omega))
    clear hc hb3
    go_wp2
    go_ret
    exact ⟨_, rfl, HQ.out, HB3.out⟩
  · obtain rfl : false = r := by rw [← hr, decide_eq_false d]
    clear hr d
    go_enter Try.func50, Try.ntmps50
    go_wp2_with fail
    refine HC.out.mono ?_
    rintro e w1 ⟨rfl, hb1⟩
    have HB := Lib.hid hb1
    clear hb1 HC
    have HH1 := Lib.hid (And.intro (HH.out.1.below HB.out) (And.intro (HH.out.2.1.below HB.out) (HH.out.2.2.below HB.out)))
    have C61 := Lib.hid ((HB.out.cell (p := ⟨b6, 0, none⟩) l6).trans C6.out)
    have c6 := C61.out
    go_wp2_with fail
    refine (sizeE_at p1 _ n1 HL.out.1 _ HH1.out.1).mono ?_
    rintro e w2 ⟨rfl, rfl⟩
    go_wp2_with fail
    refine (sizeE_at p2 _ n2 HL.out.2.1 _ HH1.out.2.1).mono ?_
    rintro e w2 ⟨rfl, rfl⟩
    go_wp2_with fail
    refine (sizeE_at p3 _ n3 HL.out.2.2.1 _ HH1.out.2.2).mono ?_
    rintro e w2 ⟨rfl, rfl⟩
    go_wp2_with fail
    refine (sizeE_at p2 _ n2 HL.out.2.1 _ HH1.out.2.1).mono ?_
    rintro e w2 ⟨rfl, rfl⟩
    go_wp2_with fail
    refine (sizeE_at p3 _ n3 HL.out.2.2.1 _ HH1.out.2.2).mono ?_
    rintro e w2 ⟨rfl, rfl⟩
    go_wp2_with fail
    refine (HN.out _).mono ?_
    rintro e w2 ⟨rfl, hb2⟩
    have HB2 := Lib.hid hb2
    clear hb2
    go_wp2_with fail
    refine (withE_any p3 _ _ _ (HH1.out.2.2.below HB2.out) (by rw [HL.out.2.2.1]; exact HL.out.2.2.2.2.2)).mono ?_
    rintro e w3 ⟨q, rfl, hc, hb3⟩
    have HQ := Lib.hid hc
    have HB3 := Lib.hid (below_seq (below_seq HB.out HB2.out HB.out.size) hb3 (by have := HB.out.size; have := HB2.out.size; omega))
    clear hc hb3
    go_wp2
    go_ret
    exact ⟨_, rfl, HQ.out, HB3.out⟩
end Go.Proofs.Ytbdeakodmhcgdaa
