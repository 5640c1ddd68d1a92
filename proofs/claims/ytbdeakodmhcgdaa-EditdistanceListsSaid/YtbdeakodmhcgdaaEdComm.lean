/- The program's Common. -/
import Derived.Test.YtbdeakodmhcgdaaEdComE
import Derived.Test.YtbdeakodmhcgdaaEdFillS
namespace Go.Proofs.Ytbdeakodmhcgdaa
set_option linter.unusedSimpArgs false
set_option linter.unusedVariables false
set_option maxRecDepth 100000
open Go.RowKit Go.Deep

def ComPost (xs ys : List ByteArray) (w : World) (e : Ending) (w' : World) : Prop := ∃ v l, e = .returned (.tuple #[v, .int .i64 0]) ∧ StrsAt w' v l ∧ IsBest ltB xs ys l ∧ Below w.heap.size w w'
set_option maxHeartbeats 1000000 in
theorem common_long (xs ys : List ByteArray) (va vb : Value) (w : World) (hx : StrsAt w va xs) (hy : StrsAt w vb ys) (hlong : 256 < xs.length ∨ 256 < ys.length) (lx : xs.length ≤ 1000000) (ly : ys.length ≤ 1000000) :
    Calls Try.prog 28 #[va, vb] w fun e w' => e = .returned (.tuple #[.slice none 0 0, .int .i64 4]) ∧ Below w.heap.size w w' := by
  obtain ⟨ax, cx, rfl, _⟩ := hx
  obtain ⟨ay, cy, rfl, _⟩ := hy
  have HT := Lib.hid (tooLong_any xs.length ys.length true (by simpa using hlong))
  have HB := Lib.hid (show Below w.heap.size w ((w.alloc (.cells #[.slice ax xs.length cx] 34)).alloc (.cells #[.slice ay ys.length cy] 34)) from ((Below.refl _ _).alloc (Nat.le_refl _) _).alloc (by rw [nblk_alloc]; omega) _)
  clear hlong
  obtain ⟨n, hn⟩ : ∃ n, xs.length = n := ⟨_, rfl⟩
  obtain ⟨m, hm⟩ : ∃ n, ys.length = n := ⟨_, rfl⟩
  rw [hn] at lx HT HB ⊢
  rw [hm] at ly HT HB ⊢
  go_enter Try.func28, Try.ntmps28
  go_wp2_with fail
  refine (HT.out _).mono ?_
  rintro e w1 ⟨rfl, rfl⟩
  go_wp2
  go_ret2
  exact ⟨rfl, HB.out⟩

set_option maxHeartbeats 4000000 in
theorem common_any (xs ys : List ByteArray) (va vb : Value) (w : World) (hx : StrsAt w va xs) (hy : StrsAt w vb ys) (hlong : ¬ (256 < xs.length ∨ 256 < ys.length)) :
    Calls Try.prog 28 #[va, vb] w (ComPost xs ys w) := by
  have HT := Lib.hid (tooLong_any xs.length ys.length false (by simpa using hlong))
  have hB0 : Below w.heap.size w ((w.alloc (.cells #[va] 34)).alloc (.cells #[vb] 34)) := ((Below.refl _ _).alloc (Nat.le_refl _) _).alloc (by rw [nblk_alloc]; omega) _
  obtain ⟨N, hN⟩ : ∃ N, w.heap.size = N := ⟨_, rfl⟩
  obtain ⟨N1, hN1⟩ : ∃ N1, N + 1 = N1 := ⟨_, rfl⟩
  have k0 : ((w.alloc (.cells #[va] 34)).alloc (.cells #[vb] 34)).cell? ⟨N, 0, none⟩ = some va := by
    rw [World.cell?_alloc_lt _ _ _ (by simp [hN]), ← hN, World.cell?_alloc_new]; rfl
  have k1 : ((w.alloc (.cells #[va] 34)).alloc (.cells #[vb] 34)).cell? ⟨N1, 0, none⟩ = some vb := by
    have := World.cell?_alloc_new (w.alloc (.cells #[va] 34)) #[vb] 34 0
    simp only [World.size_alloc] at this
    rw [← hN1, ← hN, this]; rfl
  have hsz : ((w.alloc (.cells #[va] 34)).alloc (.cells #[vb] 34)).heap.size = N + 2 := by rw [nblk_alloc, nblk_alloc, hN]
  have HX := Lib.hid (show LAt Value.string ((w.alloc (.cells #[va] 34)).alloc (.cells #[vb] 34)) va xs from hx.below hB0)
  have HY := Lib.hid (show LAt Value.string ((w.alloc (.cells #[va] 34)).alloc (.cells #[vb] 34)) vb ys from hy.below hB0)
  obtain ⟨ax, cx, rfl, _⟩ := hx
  obtain ⟨ay, cy, rfl, _⟩ := hy
  obtain ⟨n, hn⟩ : ∃ n, xs.length = n := ⟨_, rfl⟩
  obtain ⟨m, hm⟩ : ∃ n, ys.length = n := ⟨_, rfl⟩
  have hn2 : n ≤ 256 := by omega
  have hm2 : m ≤ 256 := by omega
  have HL := Lib.hid (And.intro hn hm)
  rw [hn, hm] at HT
  rw [hn] at k0 k1 HX hB0 hsz
  rw [hn, hm]
  rw [hm] at k0 k1 HY hB0 hsz
  rw [hm] at HX
  rw [hn] at HY
  have HB0 := Lib.hid hB0
  have HSZ := Lib.hid hsz
  clear hlong hn hm hsz hB0
  go_enter Try.func28, Try.ntmps28
  go_wp2_with fail
  refine (HT.out _).mono ?_
  rintro e w1 ⟨rfl, rfl⟩
  go_wp2_with fail
  obtain ⟨W0, hW0⟩ : ∃ W0, (w.alloc (.cells #[.slice ax n cx] 34)).alloc (.cells #[.slice ay m cy] 34) = W0 := ⟨_, rfl⟩
  rw [hW0] at k0 k1 HX HY HB0 HSZ
  rw [hW0]
  clear hW0
  refine (sameAtS_any xs ys _ _ _ HX.out HY.out).mono ?_
  rintro e w1 ⟨F, rfl, hF, hb1⟩
  obtain ⟨b2, b3, va, vb, rfl, _⟩ := id hF
  have hB2 : Below w1.heap.size w1 (w1.alloc (.cells #[Value.func (.func 78) #[] #[.pointer (some ⟨b2, 0, none⟩), .pointer (some ⟨b3, 0, none⟩)]] 58)) := (Below.refl _ _).alloc (Nat.le_refl _) _
  have hN0 : N < W0.heap.size := by rw [HSZ.out]; omega
  have hN10 : N1 < W0.heap.size := by rw [HSZ.out]; omega
  have hB12 := below_seq hb1 hB2 hb1.size
  have hK0 := (hB12.cell (p := ⟨N, 0, none⟩) hN0).trans k0
  have hK1 := (hB12.cell (p := ⟨N1, 0, none⟩) hN10).trans k1
  have HX2 := Lib.hid (HX.out.below hB12)
  have HY2 := Lib.hid (HY.out.below hB12)
  have HB2 := Lib.hid (below_seq HB0.out hB12 HB0.out.size)
  have HF := Lib.hid (hF.below hB2)
  have HN2 := Lib.hid (And.intro (Nat.lt_of_lt_of_le hN0 hB12.size) (Nat.lt_of_lt_of_le hN10 hB12.size))
  obtain ⟨M, hM⟩ : ∃ M, w1.heap.size = M := ⟨_, rfl⟩
  have hst : (w1.alloc (.cells #[Value.nilFunc] 58)).cell? ⟨M, 0, none⟩ = some Value.nilFunc := by rw [← hM, World.cell?_alloc_new]; rfl
  have hfz : (w1.alloc (.cells #[Value.nilFunc] 58)).frozen? ⟨M, 0, none⟩ = false := by rw [← hM, World.frozen?_alloc_new]
  have HC := Lib.hid (show (w1.alloc (.cells #[Value.func (.func 78) #[] #[.pointer (some ⟨b2, 0, none⟩), .pointer (some ⟨b3, 0, none⟩)]] 58)).cell? ⟨M, 0, none⟩ = some (Value.func (.func 78) #[] #[.pointer (some ⟨b2, 0, none⟩), .pointer (some ⟨b3, 0, none⟩)]) by rw [← hM, World.cell?_alloc_new]; rfl)
  have HM := Lib.hid (show M < (w1.alloc (.cells #[Value.func (.func 78) #[] #[.pointer (some ⟨b2, 0, none⟩), .pointer (some ⟨b3, 0, none⟩)]] 58)).heap.size by rw [nblk_alloc]; omega)
  clear hF hb1 hB2 hB12 k0 k1 hN0 hN10
  go_wp2_with fail
  clear hst hfz
  obtain ⟨W2, hW2⟩ : ∃ W2, w1.alloc (.cells #[Value.func (.func 78) #[] #[.pointer (some ⟨b2, 0, none⟩), .pointer (some ⟨b3, 0, none⟩)]] 58) = W2 := ⟨_, rfl⟩
  rw [hW2] at hK0 hK1 HB2 HF HC HM HN2 HX2 HY2
  rw [hW2]
  obtain ⟨hn, hm⟩ := HL.out
  have hfill := fillS_any n m (by omega) (by omega) 59 61 #[] #[.pointer (some ⟨N, 0, none⟩), .pointer (some ⟨N1, 0, none⟩), .pointer (some ⟨M, 0, none⟩)] (fun W i j p => i ≤ n ∧ j ≤ m ∧ ∃ l, ChainS W p l ∧ Bst xs ys i j l) W2 Try.call59 Try.call61
    (fun W W' i j p h hB => by obtain ⟨u1, u2, l, h1, h2⟩ := h; exact ⟨u1, u2, l, h1.below hB, h2⟩)
    (fun W i j p b c m x f h hr => by obtain ⟨u1, u2, l, h1, h2⟩ := h; exact ⟨u1, u2, l, h1.store hr (by decide), h2⟩)
    (fun W => ⟨by omega, by omega, [], rfl, by unfold Bst; rw [Nat.sub_zero, List.drop_length]; exact best_nil_left _⟩)
    (fun W j z hW hj hz => (edgeC_any 0 (j + 1 : Nat) z W).mono (by
      rintro e w' ⟨rfl, rfl⟩
      obtain ⟨u1, u2, l, h1, h2⟩ := hz
      have e0 : l = [] := by
        unfold Bst at h2
        rw [Nat.sub_zero, List.drop_length] at h2
        exact List.sublist_nil.1 h2.1
      subst e0
      exact ⟨z, rfl, ⟨by omega, by omega, [], h1, by unfold Bst; rw [Nat.sub_zero, List.drop_length]; exact best_nil_left _⟩, Below.refl _ _⟩))
    (fun W i z hW hi hz => (edgeC_any (i + 1 : Nat) 0 z W).mono (by
      rintro e w' ⟨rfl, rfl⟩
      obtain ⟨u1, u2, l, h1, h2⟩ := hz
      have e0 : l = [] := by
        unfold Bst at h2
        rw [Nat.sub_zero, List.drop_length] at h2
        exact List.sublist_nil.1 h2.2.1
      subst e0
      exact ⟨z, rfl, ⟨by omega, by omega, [], h1, by unfold Bst; rw [Nat.sub_zero, List.drop_length]; exact best_nil_right _⟩, Below.refl _ _⟩))
    (fun W i j z1 z2 z3 hW hi hj hz1 hz2 hz3 => by
      obtain ⟨_, _, l1, h1, g1⟩ := hz1
      obtain ⟨_, _, l2, h2, g2⟩ := hz2
      obtain ⟨_, _, l3, h3, g3⟩ := hz3
      have hxl : n - (i + 1) < xs.length := by omega
      have hyl : m - (j + 1) < ys.length := by omega
      have ex : n - (i + 1) + (i + 1) = xs.length := by omega
      have ey : m - (j + 1) + (j + 1) = ys.length := by omega
      refine (entryC_any xs ys i j (n - (i + 1)) (m - (j + 1)) ex ey (by omega) (by omega) hxl hyl l1 l2 l3 (by have := g1.len; omega) z1 z2 z3 N N1 M _ _ _ W h1 h2 h3
        (Nat.lt_of_lt_of_le HN2.out.1 hW.size) (Nat.lt_of_lt_of_le HN2.out.2 hW.size) (Nat.lt_of_lt_of_le HM.out hW.size)
        ((hW.cell (p := ⟨N, 0, none⟩) HN2.out.1).trans hK0) ((hW.cell (p := ⟨N1, 0, none⟩) HN2.out.2).trans hK1) ((hW.cell (p := ⟨M, 0, none⟩) HM.out).trans HC.out)
        (HX2.out.below hW) (HY2.out.below hW) (HF.out.below hW)).mono ?_
      rintro e w' ⟨q, rfl, hq, hb⟩
      exact ⟨q, rfl, ⟨by omega, by omega, _, hq, Bst.step ex ey hxl hyl g1 g2 g3⟩, hb⟩)
  have HFILL := Lib.hid hfill
  clear hfill hK0 hK1 hn hm
  refine (show Calls Try.prog 60 #[intV n, intV m, .func (.func 59) #[] #[], .func (.func 61) #[] #[.pointer (some ⟨N, 0, none⟩), .pointer (some ⟨N1, 0, none⟩), .pointer (some ⟨M, 0, none⟩)]] W2 _ from HFILL.out).mono ?_
  rintro e w3 ⟨z, rfl, ⟨_, _, l, hz, hbst⟩, hb3⟩
  have HZ := Lib.hid hz
  have HB3 := Lib.hid (below_seq HB2.out hb3 HB2.out.size)
  have hll := hbst.len
  have hbest : IsBest ltB xs ys l := by
    unfold Bst at hbst
    rw [HL.out.1, HL.out.2, Nat.sub_self, Nat.sub_self, List.drop_zero, List.drop_zero] at hbst
    exact hbst
  have HBE := Lib.hid hbest
  have hll2 : l.length ≤ 1000000 := by have := HL.out.1; omega
  clear hz hb3 hbst hbest hll
  go_wp2_with fail
  refine (elementsS_any z l _ HZ.out hll2).mono ?_
  rintro e w4 ⟨v, rfl, ho4, hb4⟩
  have HE := Lib.hid (StrsAt.of_own ho4)
  have HB4 := Lib.hid (below_seq HB3.out hb4 HB3.out.size)
  clear ho4 hb4
  go_wp2
  go_ret2
  exact ⟨v, l, rfl, HE.out, HBE.out, HB4.out⟩
end Go.Proofs.Ytbdeakodmhcgdaa
