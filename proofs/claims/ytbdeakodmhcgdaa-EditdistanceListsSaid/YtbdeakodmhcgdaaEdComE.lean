/- The closures of the program's Common. -/
import Derived.Test.YtbdeakodmhcgdaaEdBetter
import Derived.Test.YtbdeakodmhcgdaaEdSeq
namespace Go.Proofs.Ytbdeakodmhcgdaa
set_option linter.unusedSimpArgs false
set_option linter.unusedVariables false
set_option maxRecDepth 100000
open Go.RowKit Go.Deep

set_option maxHeartbeats 1000000 in
theorem edgeC_any (i j : Int) (p : Option Addr) (w : World) :
    Calls Try.prog 59 #[.int .i64 i, .int .i64 j, .pointer p] w fun e w' => e = .returned (.pointer p) ∧ w = w' := by
  go_enter Try.func59, Try.ntmps59
  go_wp2
  go_ret
  exact ⟨rfl, rfl⟩
theorem better_at (p q : Option Addr) (c d r : List ByteArray) (hr : betterL c d = r) (w : World) (hc : ChainS w p c) (hd : ChainS w q d) :
    Calls Try.prog 62 #[.pointer p, .pointer q] w fun e w' => ∃ z, e = .returned (.pointer z) ∧ ChainS w' z r ∧ Below w.heap.size w w' := by subst hr; exact better_any p q c d w hc hd

set_option maxHeartbeats 4000000 in
theorem entryC_any (xs ys : List ByteArray) (i j x y : Nat) (hx : x + (i + 1) = xs.length) (hy : y + (j + 1) = ys.length) (lx : xs.length ≤ 1000) (ly : ys.length ≤ 1000) (hxl : x < xs.length) (hyl : y < ys.length)
    (c1 c2 c3 : List ByteArray) (hl : c1.length ≤ 1000000) (p1 p2 p3 : Option Addr) (b5 b6 b7 : Nat) (va vb F : Value) (w : World)
    (h1 : ChainS w p1 c1) (h2 : ChainS w p2 c2) (h3 : ChainS w p3 c3)
    (l5 : b5 < w.heap.size) (l6 : b6 < w.heap.size) (l7 : b7 < w.heap.size) (g5 : w.cell? ⟨b5, 0, none⟩ = some va) (g6 : w.cell? ⟨b6, 0, none⟩ = some vb) (g7 : w.cell? ⟨b7, 0, none⟩ = some F)
    (hva : LAt Value.string w va xs) (hvb : LAt Value.string w vb ys) (hF : SameFn 78 Value.string w F xs ys) :
    Calls Try.prog 61 #[intV (i + 1 : Nat), intV (j + 1 : Nat), .pointer p1, .pointer p2, .pointer p3, .pointer (some ⟨b5, 0, none⟩), .pointer (some ⟨b6, 0, none⟩), .pointer (some ⟨b7, 0, none⟩)] w
      fun e w' => ∃ q, e = .returned (.pointer q) ∧ ChainS w' q (if xs[x] = ys[y] then betterL (betterL c2 c3) (xs[x] :: c1) else betterL c2 c3) ∧ Below w.heap.size w w' := by
  obtain ⟨b2, b3, wa, wb, rfl, l2, l3, k2, k3, hwa, hwb⟩ := id hF
  obtain ⟨r, hr⟩ : ∃ r, decide (xs[x] = ys[y]) = r := ⟨_, rfl⟩
  have HC := Lib.hid (fun W (hB : Below w.heap.size w W) => sameS_any xs ys x y hxl hyl r hr (by omega) (by omega) b2 b3 wa wb W ((hB.cell (p := ⟨b2, 0, none⟩) l2).trans k2) ((hB.cell (p := ⟨b3, 0, none⟩) l3).trans k3) (hwa.below hB) (hwb.below hB))
  obtain ⟨R1, hR1⟩ : ∃ R, betterL c2 c3 = R := ⟨_, rfl⟩
  have HB1 := Lib.hid (fun W (hB : Below w.heap.size w W) => better_at p2 p3 c2 c3 R1 hR1 W (h2.below hB) (h3.below hB))
  rw [hR1]
  obtain ⟨ax, cx, rfl, hcx⟩ := hva
  obtain ⟨ay, cy, rfl, _⟩ := hvb
  obtain ⟨bx, ox, rfl, hbx, hcx⟩ := hcx (by omega)
  have ex := hcx x hxl
  obtain ⟨s, hs⟩ : ∃ s, xs[x] = s := ⟨_, rfl⟩
  rw [hs] at ex ⊢
  have HG := Lib.hid (fun W (hB : Below w.heap.size w W) => And.intro ((hB.cell (p := ⟨b5, 0, none⟩) l5).trans g5) (And.intro ((hB.cell (p := ⟨b6, 0, none⟩) l6).trans g6) (And.intro ((hB.cell (p := ⟨b7, 0, none⟩) l7).trans g7) ((hB.cell (p := ⟨bx, ox + x, none⟩) hbx).trans ex))))
  have HH1 := Lib.hid h1
  rw [hs] at hr
  obtain ⟨t, ht⟩ : ∃ t, ys[y] = t := ⟨_, rfl⟩
  rw [ht] at hr ⊢
  clear hcx g5 g6 g7 ex hF hwa hwb k2 k3 h1 h2 h3 hR1 hs ht
  obtain ⟨i1, hi1⟩ : ∃ i1, i + 1 = i1 := ⟨_, rfl⟩
  obtain ⟨j1, hj1⟩ : ∃ j1, j + 1 = j1 := ⟨_, rfl⟩
  obtain ⟨n, hn⟩ : ∃ n, xs.length = n := ⟨_, rfl⟩
  obtain ⟨m, hm⟩ : ∃ m, ys.length = m := ⟨_, rfl⟩
  rw [hi1, hn] at hx
  rw [hj1, hm] at hy
  rw [hn] at HG
  rw [hm] at HG
  rw [hi1, hj1]
  have hni : (n : Int) - (i1 : Int) = (x : Int) := by omega
  have hmj : (m : Int) - (j1 : Int) = (y : Int) := by omega
  have hwx : IntKind.i64.wrap (x : Int) = (x : Int) := IntWalk.i64_in _ (by omega)
  have hwy : IntKind.i64.wrap (y : Int) = (y : Int) := IntWalk.i64_in _ (by omega)
  have hxn : x < n := by omega
  have hyn : y < m := by omega
  have hxnI : (x : Int) < (n : Int) := by omega
  have hBr := Lib.hid (Below.refl w.heap.size w)
  clear hi1 hj1 hx hy hn hm hxl hyl lx ly
  by_cases e : s = t
  · obtain rfl : true = r := by rw [← hr, decide_eq_true e]
    rw [if_pos e]
    clear hr e
    go_enter Try.func61, Try.ntmps61
    go_wp2_with fail
    refine (HB1.out _ hBr.out).mono ?_
    rintro e w1 ⟨z1, rfl, hz1, hb1⟩
    have Z1 := Lib.hid hz1
    have B1 := Lib.hid hb1
    obtain ⟨g5, g6, g7, gx⟩ := HG.out _ hb1
    clear hz1 hb1
    go_wp2_with fail
    go_region
    go_wp2_with fail
    refine (HC.out _ B1.out.drew).mono ?_
    rintro e w2 ⟨rfl, hb2⟩
    have B2 := Lib.hid (below_seq B1.out.drew hb2 B1.out.size)
    have Z2 := Lib.hid ((Z1.out.below (Below.refl _ _).drew).below hb2)
    clear hb2 g5 g6 g7 gx
    obtain ⟨g5, g6, g7, gx⟩ := HG.out _ B2.out
    clear g6 g7
    go_wp2_with fail
    refine (withS_any p1 c1 s _ (HH1.out.below B2.out) hl).mono ?_
    rintro e w3 ⟨q, rfl, hq, hb3⟩
    have B3 := Lib.hid (below_seq B2.out hb3 B2.out.size)
    have Q3 := Lib.hid hq
    have Z3 := Lib.hid (Z2.out.below hb3)
    clear hq hb3 g5 gx
    go_wp2_with fail
    refine (better_any z1 q R1 (s :: c1) _ Z3.out Q3.out).mono ?_
    rintro e w4 ⟨z, rfl, hz, hb4⟩
    have B4 := Lib.hid (below_seq B3.out hb4 B3.out.size)
    have Q4 := Lib.hid hz
    clear hz hb4
    go_wp2
    go_ret
    exact ⟨_, rfl, Q4.out, B4.out⟩
  · obtain rfl : false = r := by rw [← hr, decide_eq_false e]
    rw [if_neg e]
    clear hr e
    go_enter Try.func61, Try.ntmps61
    go_wp2_with fail
    refine (HB1.out _ hBr.out).mono ?_
    rintro e w1 ⟨z1, rfl, hz1, hb1⟩
    have Z1 := Lib.hid hz1
    have B1 := Lib.hid hb1
    obtain ⟨g5, g6, g7, gx⟩ := HG.out _ hb1
    clear hz1 hb1
    go_wp2_with fail
    go_region
    go_wp2_with fail
    refine (HC.out _ B1.out.drew).mono ?_
    rintro e w2 ⟨rfl, hb2⟩
    have B2 := Lib.hid (below_seq B1.out.drew hb2 B1.out.size)
    have Z2 := Lib.hid ((Z1.out.below (Below.refl _ _).drew).below hb2)
    clear hb2 g5 g6 g7 gx
    go_wp2
    go_ret
    exact ⟨_, rfl, Z2.out, B2.out⟩

/-! ### Common -/
/-- the best of the last i elements of xs and the last j of ys -/
def Bst (xs ys : List ByteArray) (i j : Nat) (l : List ByteArray) : Prop := IsBest ltB (xs.drop (xs.length - i)) (ys.drop (ys.length - j)) l
theorem best_nil_left (b : List ByteArray) : IsBest ltB [] b [] := best_none ltB (lcs_nil b)
theorem best_nil_right (a : List ByteArray) : IsBest ltB a [] [] := best_none ltB (lcs_nil' a)
theorem drop_last (xs : List ByteArray) (i x : Nat) (h : x + (i + 1) = xs.length) (hx : x < xs.length) : xs.drop (xs.length - (i + 1)) = xs[x] :: xs.drop (xs.length - i) := by
  rw [show xs.length - (i + 1) = x by omega, show xs.length - i = x + 1 by omega, List.drop_eq_getElem_cons hx]
theorem Bst.step {xs ys : List ByteArray} {i j x y : Nat} {c1 c2 c3 : List ByteArray} (hx : x + (i + 1) = xs.length) (hy : y + (j + 1) = ys.length) (hxl : x < xs.length) (hyl : y < ys.length)
    (h1 : Bst xs ys i j c1) (h2 : Bst xs ys i (j + 1) c2) (h3 : Bst xs ys (i + 1) j c3) : Bst xs ys (i + 1) (j + 1) (if xs[x] = ys[y] then betterL (betterL c2 c3) (xs[x] :: c1) else betterL c2 c3) := by
  unfold Bst at h1 h2 h3 ⊢
  rw [drop_last ys j y hy hyl] at h2 ⊢
  rw [drop_last xs i x hx hxl] at h3 ⊢
  exact best_more h1 h2 h3
theorem Bst.len {xs ys : List ByteArray} {i j : Nat} {c : List ByteArray} (h : Bst xs ys i j c) : c.length ≤ xs.length := by
  have := h.1.length_le
  rw [List.length_drop] at this
  omega
end Go.Proofs.Ytbdeakodmhcgdaa
