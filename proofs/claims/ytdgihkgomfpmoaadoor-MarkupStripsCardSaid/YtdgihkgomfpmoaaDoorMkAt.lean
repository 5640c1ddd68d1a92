/- The laws' at: lexemes with their right offsets. -/
import Derived.Test.YtdgihkgomfpmoaaDoorMkCat
namespace Go.Proofs.YtdgihkgomfpmoaaDoor
set_option linter.unusedSimpArgs false
set_option linter.unusedVariables false
set_option maxRecDepth 100000
open Go.RowKit Go.Deep

def sumX (L : List Lx) : Nat := (L.map lenX).sum
theorem sumX_take (L : List Lx) (k : Nat) (h : k < L.length) : sumX (L.take (k + 1)) = sumX (L.take k) + lenX L[k] := by
  unfold sumX
  rw [List.take_succ_eq_append_getElem h, List.map_append, List.sum_append]; simp
theorem sumX_bound (m : Nat) : ∀ L : List Lx, (∀ x ∈ L, lenX x ≤ m) → sumX L ≤ m * L.length
  | [], _ => by simp [sumX]
  | x :: L, h => by
    have h1 := sumX_bound m L (fun d hd => h d (by simp [hd]))
    have h2 := h x (by simp)
    unfold sumX at h1 ⊢
    rw [List.map_cons, List.sum_cons, List.length_cons, Nat.mul_add]; omega
theorem reAt_append : ∀ (A B : List Lx) (o : Nat), reAt o (A ++ B) = reAt o A ++ reAt (o + sumX A) B
  | [], B, o => by simp [reAt, sumX]
  | x :: A, B, o => by
    rw [List.cons_append, reAt, reAt_append A B, reAt, List.cons_append]
    congr 3
    unfold sumX
    rw [List.map_cons, List.sum_cons]; omega
theorem reAt_len : ∀ (L : List Lx) (o : Nat), (reAt o L).length = L.length
  | [], _ => rfl
  | x :: L, o => by rw [reAt, List.length_cons, List.length_cons, reAt_len L]
theorem reAt_step (L : List Lx) (i : Nat) (h : i < L.length) :
    (reAt 0 (L.take i) ++ L.drop i).set i (setO L[i] (sumX (L.take i) : Nat)) = reAt 0 (L.take (i + 1)) ++ L.drop (i + 1) := by
  have hl : (reAt 0 (L.take i)).length = i := by rw [reAt_len, List.length_take]; omega
  rw [List.drop_eq_getElem_cons h, List.set_append_right _ _ (by omega), hl, Nat.sub_self, List.set_cons_zero, List.take_succ_eq_append_getElem h, reAt_append, Nat.zero_add]
  simp [reAt, setO]
set_option maxHeartbeats 4000000 in
theorem at_any (L : List Lx) (hl : L.length ≤ 1000) (ho : ∀ x ∈ L, lenX x ≤ 1000000) (v : Value) (w : World) (hv : LexAt w v L) :
    Calls Tryd.prog 23 #[v] w fun e w' => ∃ u, e = .returned u ∧ LexAt w' u (reAt 0 L) ∧ Below w.heap.size w w' := by
  have HC := Lib.hid (clone_any L (by omega) v w hv)
  obtain ⟨a, cap, rfl⟩ := hv.slice
  have HO := Lib.hid ho
  have HSB := Lib.hid (fun k (hk : k ≤ L.length) => show sumX (L.take k) ≤ 1000000000 by
    have h1 := sumX_bound 1000000 (L.take k) (fun x hx => ho x (List.mem_of_mem_take hx))
    rw [List.length_take] at h1
    have h2 : 1000000 * min k L.length ≤ 1000000 * 1000 := Nat.mul_le_mul_left _ (by omega)
    omega)
  clear hv ho
  go_enter Tryd.func23, Tryd.ntmps23
  go_wp2_with fail
  refine HC.out.mono ?_
  rintro e w1 ⟨u, rfl, h1, b1⟩
  have HU := Lib.hid h1
  have B1 := Lib.hid b1
  obtain ⟨au, cu, rfl⟩ := h1.slice
  clear h1 b1
  go_wp2
  go_loopw [4, 11] (fun sv i wr => ∃ k s : Nat, k ≤ L.length ∧ i = .int .i64 k ∧ sv = .int .i64 s ∧ s = sumX (L.take k) ∧ OwnX w.heap.size wr (.slice au L.length cu) (reAt 0 (L.take k) ++ L.drop k) ∧ Below w.heap.size w wr) (fun _ i _ => L.length - (intOf i).toNat)
  case atStart => exact ⟨0, 0, Nat.zero_le _, rfl, rfl, rfl, HU.out, B1.out⟩
  case round =>
    obtain ⟨k, s, hk, rfl, rfl, hs, ho, hB⟩ := hrel
    obtain ⟨wk, rfl⟩ : ∃ x, x = wr := ⟨_, rfl⟩
    by_cases hlt : k < L.length
    · have hlen : (reAt 0 (L.take k) ++ L.drop k).length = L.length := by simp [reAt_len]; omega
      obtain ⟨g, cap', e, hg1, hg2⟩ := ho.form (by omega)
      rw [hlen] at e
      cases e
      have hst := reAt_step L k hlt
      have hkl : k < (reAt 0 (L.take k) ++ L.drop k).length := by omega
      have hel : (reAt 0 (L.take k) ++ L.drop k)[k] = L[k] := by
        rw [List.getElem_append_right (by simp [reAt_len]; omega)]; simp [reAt_len, show min k L.length = k by omega]
      have hc := (ho.lex.elem hkl)
      rw [hel] at hc
      obtain ⟨b', off', e', _, c1, c2, c3, c4⟩ := hc
      cases e'
      rw [Nat.zero_add] at c1 c2 c3 c4
      have hfz := World.ownsRow.frozenAt (n := L.length) (by have := ho; unfold OwnX at this; rw [hlen] at this; exact this) (k * 4 + 3)
      have hsb1 := HSB.out k hk
      have hsb2 := HSB.out (k + 1) hlt
      have hsx := sumX_take L k hlt
      rw [← hs] at hsb1 hsx hst
      have HSX := Lib.hid hsx
      obtain ⟨x, hx⟩ : ∃ x, L[k] = x := ⟨_, rfl⟩
      rw [hx] at c1 c2 c3 c4 hst hel HSX
      obtain ⟨p, n, v, o⟩ := x
      simp only at c1 c2 c3 c4
      have HW := Lib.hid (fun (o : Obj) => show OwnX w.heap.size ((wk.setCell ⟨g, k * 4 + 3, none⟩ (intV (s : Nat))).alloc o) (.slice (some ⟨g, 0, none⟩) L.length cu) (reAt 0 (L.take (k + 1)) ++ L.drop (k + 1)) ∧ Below w.heap.size w ((wk.setCell ⟨g, k * 4 + 3, none⟩ (intV (s : Nat))).alloc o) by
        have h1 := ho.stored hkl (s : Nat)
        rw [hel, hst] at h1
        exact ⟨h1.1.below (alloc_below _ _), below_then (hB.trans h1.2) (alloc_below _ _)⟩)
      have i0 : (0 : Int) ≤ (k : Int) := by omega
      have i1 : (k : Int) < (L.length : Int) := by omega
      rw [hsx] at hsb2
      rw [hx] at hsb2
      have hlx : lenX ⟨p, n, v, o⟩ = n.length + v.length + (if p = 1 then 0 else 2 + (if v = [] then 0 else 1) + (if p = 2 then 0 else 1)) := rfl
      have hlx2 : n.length + v.length ≤ lenX ⟨p, n, v, o⟩ := by rw [hlx]; omega
      obtain ⟨q, hq⟩ : ∃ q : Int, ((n.length + v.length : Nat) : Int) = q := ⟨_, rfl⟩
      have hA : IntKind.i64.wrap (((baL n).size : Int) + ((baL v).size : Int)) = q := by rw [baL_size, baL_size, ← hq, show (n.length : Int) + (v.length : Int) = ((n.length + v.length : Nat) : Int) by omega]; exact IntWalk.i64_in _ (by omega)
      obtain ⟨t1, ht1⟩ : ∃ t, (s : Int) + q = t := ⟨_, rfl⟩
      obtain ⟨t2, ht2⟩ : ∃ t, t1 + 2 = t := ⟨_, rfl⟩
      obtain ⟨t3, ht3⟩ : ∃ t, t2 + 1 = t := ⟨_, rfl⟩
      obtain ⟨t4, ht4⟩ : ∃ t, t3 + 1 = t := ⟨_, rfl⟩
      have hw1 : IntKind.i64.wrap ((s : Int) + q) = t1 := by rw [← ht1]; exact IntWalk.i64_in _ (by omega)
      have hw2 : IntKind.i64.wrap (t1 + 2) = t2 := by rw [ht2]; exact (show t2 = _ from rfl) ▸ IntWalk.i64_in _ (by omega)
      have hw3 : IntKind.i64.wrap (t2 + 1) = t3 := by rw [ht3]; exact IntWalk.i64_in _ (by omega)
      have hw4 : IntKind.i64.wrap (t3 + 1) = t4 := by rw [ht4]; exact IntWalk.i64_in _ (by omega)
      have HEND := Lib.hid (fun (t : Int) (h : t = ((s + lenX ⟨p, n, v, o⟩ : Nat) : Int)) (ob : Obj) => show (∃ k' s' : Nat, k' ≤ L.length ∧ Value.int IntKind.i64 ((k : Int) + 1) = .int .i64 k' ∧ Value.int IntKind.i64 t = .int .i64 s' ∧ s' = sumX (L.take k') ∧ OwnX w.heap.size ((wk.setCell ⟨g, k * 4 + 3, none⟩ (intV (s : Nat))).alloc ob) (.slice (some ⟨g, 0, none⟩) L.length cu) (reAt 0 (L.take k') ++ L.drop k') ∧ Below w.heap.size w ((wk.setCell ⟨g, k * 4 + 3, none⟩ (intV (s : Nat))).alloc ob)) from
        ⟨k + 1, s + lenX ⟨p, n, v, o⟩, hlt, by simp, by rw [h], HSX.out.symm, HW.out ob⟩)
      have E1 := Lib.hid (show p = 1 → t1 = ((s + lenX ⟨p, n, v, o⟩ : Nat) : Int) from fun h => by rw [hlx, if_pos h]; omega)
      have E2 := Lib.hid (show p ≠ 1 → v = [] → p = 2 → t2 = ((s + lenX ⟨p, n, v, o⟩ : Nat) : Int) from fun h h1 h2 => by rw [hlx, if_neg h, if_pos h1, if_pos h2]; omega)
      have E3 := Lib.hid (show p ≠ 1 → v = [] → p ≠ 2 → t3 = ((s + lenX ⟨p, n, v, o⟩ : Nat) : Int) from fun h h1 h2 => by rw [hlx, if_neg h, if_pos h1, if_neg h2]; omega)
      have E4 := Lib.hid (show p ≠ 1 → v ≠ [] → p = 2 → t3 = ((s + lenX ⟨p, n, v, o⟩ : Nat) : Int) from fun h h1 h2 => by rw [hlx, if_neg h, if_neg h1, if_pos h2]; omega)
      have E5 := Lib.hid (show p ≠ 1 → v ≠ [] → p ≠ 2 → t4 = ((s + lenX ⟨p, n, v, o⟩ : Nat) : Int) from fun h h1 h2 => by rw [hlx, if_neg h, if_neg h1, if_neg h2]; omega)
      clear ho hB hst hkl hel hx hlen hs hlx hlx2 hq ht1 ht2 ht3 ht4 hsb1 hsb2 hsx
      by_cases p1 : p = 1
      · have q1 : (p != 1) = false := by simp [p1]
        have P1 := Lib.hid p1
        clear p1
        go_wp2
        go_roundw
        case rel => exact HEND.out t1 (E1.out P1.out) _
        case measure => simp [intOf]; omega
      · have q1 : (p != 1) = true := by simp [p1]
        have P1 := Lib.hid p1
        clear p1
        by_cases v1 : v = []
        · have q2 : (baL v).toList.isEmpty = true := by rw [v1, ByteArray.toList_eq]; rfl
          have V1 := Lib.hid v1
          clear v1
          by_cases p2 : p = 2
          · have q3 : (p != 2) = false := by simp [p2]
            have P2 := Lib.hid p2
            clear p2
            go_wp2
            go_roundw
            case rel => exact HEND.out t2 (E2.out P1.out V1.out P2.out) _
            case measure => simp [intOf]; omega
          · have q3 : (p != 2) = true := by simp [p2]
            have P2 := Lib.hid p2
            clear p2
            go_wp2
            go_roundw
            case rel => exact HEND.out t3 (E3.out P1.out V1.out P2.out) _
            case measure => simp [intOf]; omega
        · have q2 : (baL v).toList.isEmpty = false := by
            rw [ByteArray.toList_eq]
            cases v with
            | nil => exact absurd rfl v1
            | cons c t => rfl
          have V1 := Lib.hid v1
          clear v1
          by_cases p2 : p = 2
          · have q3 : (p != 2) = false := by simp [p2]
            have P2 := Lib.hid p2
            clear p2
            go_wp2
            go_roundw
            case rel => exact HEND.out t3 (E4.out P1.out V1.out P2.out) _
            case measure => simp [intOf]; omega
          · have q3 : (p != 2) = true := by simp [p2]
            have P2 := Lib.hid p2
            clear p2
            go_wp2
            go_roundw
            case rel => exact HEND.out t4 (E5.out P1.out V1.out P2.out) _
            case measure => simp [intOf]; omega
    · obtain rfl : k = L.length := by omega
      have HS := Lib.hid ho
      rw [List.take_length, List.drop_length, List.append_nil] at HS
      have HB := Lib.hid hB
      clear ho hB
      go_wp2
      go_ret
      exact ⟨_, rfl, HS.out.lex, HB.out⟩
end Go.Proofs.YtdgihkgomfpmoaaDoor
