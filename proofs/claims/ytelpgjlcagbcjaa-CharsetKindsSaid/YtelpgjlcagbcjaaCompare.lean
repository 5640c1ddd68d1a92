/- charset.Compare and its reference, over every two strings. -/
import Derived.Test.YtelpgjlcagbcjaaBytes
import Derived.Test.YtelpgjlcagbcjaaShelf
import Derived.WalkSmall
namespace Go.Proofs.Ytelpgjlcagbcjaa
set_option linter.unusedSimpArgs false
set_option linter.unusedVariables false
open Go.RowKit

/-- bytewise comparison -/
def cmpB (a b : List UInt8) : Int := Lib.compareBytes a b
theorem cmpB_refl : ∀ a, cmpB a a = 0
  | [] => rfl
  | x :: t => by
    have : ¬ x < x := UInt8.lt_irrefl x
    have ih := cmpB_refl t
    simp only [cmpB] at ih ⊢
    simp [Lib.compareBytes, this, ih]
theorem cmpB_cons (x y : UInt8) (a b : List UInt8) : cmpB (x :: a) (y :: b) = if x < y then -1 else if y < x then 1 else cmpB a b := rfl
theorem cmpB_vals : ∀ a b, cmpB a b = -1 ∨ cmpB a b = 0 ∨ cmpB a b = 1
  | [], [] => .inr (.inl rfl)
  | [], _ :: _ => .inl rfl
  | _ :: _, [] => .inr (.inr rfl)
  | x :: a, y :: b => by
    have ih := cmpB_vals a b
    rw [cmpB_cons]
    split
    · exact .inl rfl
    · split
      · exact .inr (.inr rfl)
      · exact ih
theorem cmpB_neg : ∀ a b, cmpB b a = - cmpB a b
  | [], [] => rfl
  | [], _ :: _ => rfl
  | _ :: _, [] => rfl
  | x :: a, y :: b => by
    have ih := cmpB_neg a b
    rw [cmpB_cons, cmpB_cons]
    by_cases h1 : x < y
    · have h2 : ¬ y < x := fun h => UInt8.lt_irrefl x (UInt8.lt_trans h1 h)
      simp [h1, h2]
    · by_cases h2 : y < x
      · simp [h1, h2]
      · simp only [h1, h2, if_false]; exact ih
theorem cmpB_zero : ∀ a b, cmpB a b = 0 → a = b
  | [], [], _ => rfl
  | [], _ :: _, h => by cases h
  | _ :: _, [], h => by cases h
  | x :: a, y :: b, h => by
    rw [cmpB_cons] at h
    by_cases h1 : x < y
    · simp [h1] at h
    · by_cases h2 : y < x
      · simp [h1, h2] at h
      · simp only [h1, h2, if_false] at h
        have e : x = y := UInt8.le_antisymm (UInt8.not_lt.1 h2) (UInt8.not_lt.1 h1)
        rw [e, cmpB_zero a b h]
theorem cmpB_trans : ∀ a b c, cmpB a b ≤ 0 → cmpB b c ≤ 0 → cmpB a c ≤ 0
  | [], _, [], _, _ => Int.le_refl _
  | [], _, _ :: _, _, _ => by show (-1 : Int) ≤ 0; omega
  | _ :: _, [], _, h, _ => absurd h (by show ¬ (1 : Int) ≤ 0; omega)
  | _ :: _, _ :: _, [], _, h => absurd h (by show ¬ (1 : Int) ≤ 0; omega)
  | x :: a, y :: b, z :: c, h, k => by
    rw [cmpB_cons] at h k ⊢
    by_cases h1 : x < y
    · by_cases k1 : y < z
      · rw [if_pos (UInt8.lt_trans h1 k1)]; omega
      · by_cases k2 : z < y
        · rw [if_neg k1, if_pos k2] at k; omega
        · have e : y = z := UInt8.le_antisymm (UInt8.not_lt.1 k2) (UInt8.not_lt.1 k1)
          subst e
          rw [if_pos h1]; omega
    · by_cases h2 : y < x
      · rw [if_neg h1, if_pos h2] at h; omega
      · have e : x = y := UInt8.le_antisymm (UInt8.not_lt.1 h2) (UInt8.not_lt.1 h1)
        subst e
        by_cases k1 : x < z
        · rw [if_pos k1]; omega
        · by_cases k2 : z < x
          · rw [if_neg k1, if_pos k2] at k; omega
          · rw [if_neg h1, if_neg h2] at h
            rw [if_neg k1, if_neg k2] at k
            rw [if_neg k1, if_neg k2]
            exact cmpB_trans a b c h k
theorem cmpB_less : ∀ a b, Op.bytesLess a b = true → cmpB a b = -1
  | [], [], h => by simp [Op.bytesLess] at h
  | [], _ :: _, _ => rfl
  | _ :: _, [], h => by simp [Op.bytesLess] at h
  | x :: a, y :: b, h => by
    simp only [Op.bytesLess, Bool.or_eq_true, decide_eq_true_eq, Bool.and_eq_true, beq_iff_eq] at h
    rw [cmpB_cons]
    rcases h with h | ⟨rfl, h⟩
    · rw [if_pos h]
    · rw [if_neg (UInt8.lt_irrefl x), if_neg (UInt8.lt_irrefl x)]; exact cmpB_less a b h
theorem cmpB_not_less : ∀ a b, Op.bytesLess a b = false → 0 ≤ cmpB a b
  | [], [], _ => Int.le_refl _
  | [], _ :: _, h => by simp [Op.bytesLess] at h
  | _ :: _, [], _ => by show (0 : Int) ≤ 1; omega
  | x :: a, y :: b, h => by
    simp only [Op.bytesLess, Bool.or_eq_false_iff, decide_eq_false_iff_not, Bool.and_eq_false_iff, beq_eq_false_iff_ne] at h
    rw [cmpB_cons, if_neg h.1]
    by_cases h2 : y < x
    · rw [if_pos h2]; omega
    · have e : x = y := UInt8.le_antisymm (UInt8.not_lt.1 h2) (UInt8.not_lt.1 h.1)
      rw [if_neg h2]
      rcases h.2 with h3 | h3
      · exact absurd e h3
      · exact cmpB_not_less a b h3
theorem cmpB_of_less {a b : ByteArray} (h : Op.bytesLess a.toList b.toList = true) : -1 = cmpB a.data.toList b.data.toList := by
  rw [ByteArray.toList_eq, ByteArray.toList_eq] at h; exact (cmpB_less _ _ h).symm
theorem cmpB_of_more {a b : ByteArray} (h : Op.bytesLess a.toList b.toList = false) (hn : (!a.toList == b.toList) = true) : 1 = cmpB a.data.toList b.data.toList := by
  rw [ByteArray.toList_eq, ByteArray.toList_eq] at h hn
  have h0 := cmpB_not_less _ _ h
  have hne : a.data.toList ≠ b.data.toList := by simpa using hn
  rcases cmpB_vals a.data.toList b.data.toList with e | e | e
  · omega
  · exact absurd (cmpB_zero _ _ e) hne
  · exact e.symm
theorem cmpB_of_same {a b : ByteArray} (hn : (!a.toList == b.toList) = false) : 0 = cmpB a.data.toList b.data.toList := by
  rw [ByteArray.toList_eq, ByteArray.toList_eq] at hn
  have he : a.data.toList = b.data.toList := by simpa using hn
  rw [he, cmpB_refl]
theorem strCompare_any (a b : ByteArray) (w : World) :
    Calls Try.prog 36 #[.string a, .string b] w fun e w' => e = .returned (.int .i64 (cmpB a.data.toList b.data.toList)) ∧ w = w' :=
  (Try.strings_Compare a b w).mono fun _ _ h => ⟨h.1, h.2.symm⟩

theorem below_seq {n : Nat} {a b c : World} (h : Below n a b) (k : Below b.heap.size b c) (hn : n ≤ a.heap.size) : Below n a c :=
  h.trans (k.mono (Nat.le_trans hn h.size))

theorem plain_size (s : ByteArray) : (⟨(plainL s.data.toList).toArray⟩ : ByteArray).size ≤ s.size := by
  have := plainL_le s.data.toList
  rw [size_list] at this
  exact this

set_option maxHeartbeats 400000 in
theorem cmpPlain_any (a b : ByteArray) (ha : a.size ≤ 140737488351232) (hb : b.size ≤ 140737488351232) (w : World) :
    Calls Try.prog 42 #[.string a, .string b] w fun e w' => e = .returned (.int .i64 (cmpB (plainL a.data.toList) (plainL b.data.toList))) ∧ Below w.heap.size w w' := by
  go_enter Try.func42, Try.ntmps42
  go_wp2_with fail
  refine (plain_any a ha _).mono ?_
  rintro e w1 ⟨rfl, h1⟩
  go_wp2_with fail
  refine (plain_any b hb _).mono ?_
  rintro e w2 ⟨rfl, h2⟩
  go_wp2_with fail
  refine (strCompare_any _ _ _).mono ?_
  rintro e w3 ⟨rfl, rfl⟩
  go_wp2
  go_ret
  exact ⟨rfl, below_seq h1 h2 (Nat.le_refl _)⟩

set_option maxHeartbeats 400000 in
theorem cmpFolded_any (a b : ByteArray) (ha : a.size ≤ 140737488351232) (hb : b.size ≤ 140737488351232) (w : World) :
    Calls Try.prog 41 #[.string a, .string b] w fun e w' => e = .returned (.int .i64 (cmpB (foldL (plainL a.data.toList)) (foldL (plainL b.data.toList)))) ∧ Below w.heap.size w w' := by
  go_enter Try.func41, Try.ntmps41
  go_wp2_with fail
  refine (plain_any a ha _).mono ?_
  rintro e w1 ⟨rfl, h1⟩
  go_wp2_with fail
  refine (fold_any _ (Nat.le_trans (plain_size a) ha) _).mono ?_
  rintro e w2 ⟨rfl, h2⟩
  go_wp2_with fail
  refine (plain_any b hb _).mono ?_
  rintro e w3 ⟨rfl, h3⟩
  go_wp2_with fail
  refine (fold_any _ (Nat.le_trans (plain_size b) hb) _).mono ?_
  rintro e w4 ⟨rfl, h4⟩
  go_wp2_with fail
  refine (strCompare_any _ _ _).mono ?_
  rintro e w5 ⟨rfl, rfl⟩
  go_wp2
  go_ret
  exact ⟨rfl, below_seq (below_seq (below_seq h1 h2 (Nat.le_refl _)) h3 (Nat.le_refl _)) h4 (Nat.le_refl _)⟩

set_option maxHeartbeats 400000 in
theorem refCmp_any (a b : ByteArray) (w : World) :
    Calls Try.prog 43 #[.string a, .string b] w fun e w' => e = .returned (.int .i64 (cmpB a.data.toList b.data.toList)) ∧ w = w' := by
  go_enter Try.func43, Try.ntmps43
  go_wp2
  · go_ret
    exact ⟨ret_int (cmpB_of_less (by assumption)), rfl⟩
  · go_ret
    exact ⟨ret_int (cmpB_of_more (by assumption) (by assumption)), rfl⟩
  · go_ret
    exact ⟨ret_int (cmpB_of_same (by assumption)), rfl⟩

/-- dictionary order -/
def cmpD (a b : List UInt8) : Int :=
  if cmpB (foldL (plainL a)) (foldL (plainL b)) ≠ 0 then cmpB (foldL (plainL a)) (foldL (plainL b))
  else if cmpB (plainL a) (plainL b) ≠ 0 then cmpB (plainL a) (plainL b)
  else cmpB a b

set_option maxHeartbeats 1000000 in
theorem refCompare_any (a b : ByteArray) (ha : a.size ≤ 140737488351232) (hb : b.size ≤ 140737488351232) (w : World) :
    Calls Try.prog 30 #[.string a, .string b] w fun e w' => e = .returned (.int .i64 (cmpD a.data.toList b.data.toList)) ∧ Below w.heap.size w w' := by
  obtain ⟨x, hx⟩ : ∃ x, cmpB (foldL (plainL a.data.toList)) (foldL (plainL b.data.toList)) = x := ⟨_, rfl⟩
  obtain ⟨y, hy⟩ : ∃ y, cmpB (plainL a.data.toList) (plainL b.data.toList) = y := ⟨_, rfl⟩
  have HX := Lib.hid hx
  have HY := Lib.hid hy
  clear hx hy
  have hD : cmpD a.data.toList b.data.toList = if x ≠ 0 then x else if y ≠ 0 then y else cmpB a.data.toList b.data.toList := by rw [cmpD, HX.out, HY.out]
  rw [hD]
  clear hD
  obtain ⟨r, hr⟩ : ∃ r, (if x ≠ 0 then x else if y ≠ 0 then y else cmpB a.data.toList b.data.toList) = r := ⟨_, rfl⟩
  have HR := Lib.hid hr
  rw [hr]
  clear hr
  go_enter Try.func30, Try.ntmps30
  go_wp2_with fail
  refine (refPlain_any a ha _).mono ?_
  rintro e w1 ⟨rfl, h1⟩
  go_wp2_with fail
  refine (refFold_any _ (Nat.le_trans (plain_size a) ha) _).mono ?_
  rintro e w2 ⟨rfl, h2⟩
  go_wp2_with fail
  refine (refPlain_any b hb _).mono ?_
  rintro e w3 ⟨rfl, h3⟩
  go_wp2_with fail
  refine (refFold_any _ (Nat.le_trans (plain_size b) hb) _).mono ?_
  rintro e w4 ⟨rfl, h4⟩
  have B4 := below_seq (below_seq (below_seq h1 h2 (Nat.le_refl _)) h3 (Nat.le_refl _)) h4 (Nat.le_refl _)
  clear h1 h2 h3 h4
  go_wp2_with fail
  refine (refCmp_any _ _ _).mono ?_
  simp only [HX.out]
  rintro e w5 ⟨rfl, rfl⟩
  by_cases hx : x = 0
  · have hx' : (x != 0) = false := by simp [hx]
    have HX0 := Lib.hid hx
    clear hx
    go_wp2_with fail
    refine (refPlain_any a ha _).mono ?_
    rintro e w6 ⟨rfl, h6⟩
    go_wp2_with fail
    refine (refPlain_any b hb _).mono ?_
    rintro e w7 ⟨rfl, h7⟩
    have B7 := below_seq (below_seq B4 h6 (Nat.le_refl _)) h7 (Nat.le_refl _)
    clear h6 h7 B4
    go_wp2_with fail
    refine (refCmp_any _ _ _).mono ?_
    simp only [HY.out]
    rintro e w8 ⟨rfl, rfl⟩
    by_cases hy : y = 0
    · have hy' : (y != 0) = false := by simp [hy]
      have HY0 := Lib.hid hy
      clear hy
      go_wp2_with fail
      refine (refCmp_any _ _ _).mono ?_
      rintro e w9 ⟨rfl, rfl⟩
      go_wp2
      go_ret
      exact ⟨ret_int (by rw [← HR.out, HX0.out, HY0.out]; rfl), B7⟩
    · have hy' : (y != 0) = true := by simp [hy]
      go_wp2
      go_ret
      exact ⟨ret_int (by rw [← HR.out, HX0.out, if_pos hy]; rfl), B7⟩
  · have hx' : (x != 0) = true := by simp [hx]
    go_wp2
    go_ret
    exact ⟨ret_int (by rw [← HR.out, if_pos hx]), B4⟩

set_option maxHeartbeats 1000000 in
/-- charset.Compare: the three steps in their order -/
theorem compare_any (a b : ByteArray) (ha : a.size ≤ 140737488351232) (hb : b.size ≤ 140737488351232) (w : World) :
    Calls Try.prog 29 #[.string a, .string b] w fun e w' => e = .returned (.int .i64 (cmpD a.data.toList b.data.toList)) ∧ Below w.heap.size w w' := by
  obtain ⟨x, hx⟩ : ∃ x, cmpB (foldL (plainL a.data.toList)) (foldL (plainL b.data.toList)) = x := ⟨_, rfl⟩
  obtain ⟨y, hy⟩ : ∃ y, cmpB (plainL a.data.toList) (plainL b.data.toList) = y := ⟨_, rfl⟩
  have HX := Lib.hid hx
  have HY := Lib.hid hy
  clear hx hy
  have hD : cmpD a.data.toList b.data.toList = if x ≠ 0 then x else if y ≠ 0 then y else cmpB a.data.toList b.data.toList := by rw [cmpD, HX.out, HY.out]
  rw [hD]
  clear hD
  obtain ⟨r, hr⟩ : ∃ r, (if x ≠ 0 then x else if y ≠ 0 then y else cmpB a.data.toList b.data.toList) = r := ⟨_, rfl⟩
  have HR := Lib.hid hr
  rw [hr]
  clear hr
  go_enter Try.func29, Try.ntmps29
  go_wp2
  go_loopw [12] (fun i wr => (∃ k : Nat, k ≤ 3 ∧ i = .int .i64 k ∧ (0 < k → x = 0) ∧ (1 < k → y = 0) ∧ (2 < k → r = 0)) ∧ wr.heap[w.heap.size]? = some (.cells #[.func (.func 41) #[] #[], .func (.func 42) #[] #[], .func (.func 36) #[] #[]] 33 (0, 0)) ∧ Below w.heap.size w wr)
    (fun i _ => 3 - (intOf i).toNat)
  case atStart => exact ⟨⟨0, by omega, rfl, by omega, by omega, by omega⟩, World.alloc_heap_new _ _, (Below.refl _ _).alloc (Nat.le_refl _) _⟩
  case round =>
    obtain ⟨⟨k, hk, rfl, k0, k1, k2⟩, hheap, hB⟩ := hrel
    have hlt := (Array.getElem?_eq_some_iff.1 hheap).1
    have HH := Lib.hid hheap
    have c0 : wr.cell? ⟨w.heap.size, 0, none⟩ = some (.func (.func 41) #[] #[]) := by simp [World.cell?, hheap]
    have c1 : wr.cell? ⟨w.heap.size, 1, none⟩ = some (.func (.func 42) #[] #[]) := by simp [World.cell?, hheap]
    have c2 : wr.cell? ⟨w.heap.size, 2, none⟩ = some (.func (.func 36) #[] #[]) := by simp [World.cell?, hheap]
    clear hheap
    match k, hk, k0, k1, k2 with
    | 0, _, _, _, _ =>
      go_wp2_with fail
      refine (cmpFolded_any a b ha hb _).mono ?_
      simp only [HX.out]
      rintro e w1 ⟨rfl, h1⟩
      by_cases hx : x = 0
      · have hx' : (x != 0) = false := by simp [hx]
        have HX0 := Lib.hid hx
        clear hx
        go_wp2
        go_roundw
        case rel => exact ⟨⟨1, by omega, rfl, fun _ => HX0.out, by omega, by omega⟩, (h1.block _ hlt).trans HH.out, below_seq hB h1 (Nat.le_refl _)⟩
        case measure => simp [intOf]
      · have hx' : (x != 0) = true := by simp [hx]
        go_wp2
        go_ret
        exact ⟨ret_int (by rw [← HR.out, if_pos hx]), below_seq hB h1 (Nat.le_refl _)⟩
    | 1, _, k0, _, _ =>
      have HX0 := Lib.hid (k0 (by omega))
      clear k0
      go_wp2_with fail
      refine (cmpPlain_any a b ha hb _).mono ?_
      simp only [HY.out]
      rintro e w1 ⟨rfl, h1⟩
      by_cases hy : y = 0
      · have hy' : (y != 0) = false := by simp [hy]
        have HY0 := Lib.hid hy
        clear hy
        go_wp2
        go_roundw
        case rel => exact ⟨⟨2, by omega, rfl, fun _ => HX0.out, fun _ => HY0.out, by omega⟩, (h1.block _ hlt).trans HH.out, below_seq hB h1 (Nat.le_refl _)⟩
        case measure => simp [intOf]
      · have hy' : (y != 0) = true := by simp [hy]
        go_wp2
        go_ret
        exact ⟨ret_int (by rw [← HR.out, HX0.out, if_pos hy]; rfl), below_seq hB h1 (Nat.le_refl _)⟩
    | 2, _, k0, k1, _ =>
      have HX0 := Lib.hid (k0 (by omega))
      have HY0 := Lib.hid (k1 (by omega))
      clear k0 k1
      have hr2 : cmpB a.data.toList b.data.toList = r := by rw [← HR.out, HX0.out, HY0.out]; rfl
      have HR2 := Lib.hid hr2
      clear hr2
      go_wp2_with fail
      refine (strCompare_any a b _).mono ?_
      simp only [HR2.out]
      rintro e w1 ⟨rfl, rfl⟩
      by_cases hr : r = 0
      · have hr' : (r != 0) = false := by simp [hr]
        have HR0 := Lib.hid hr
        clear hr
        go_wp2
        go_roundw
        case rel => exact ⟨⟨3, by omega, rfl, fun _ => HX0.out, fun _ => HY0.out, fun _ => HR0.out⟩, HH.out, hB⟩
        case measure => simp [intOf]
      · have hr' : (r != 0) = true := by simp [hr]
        go_wp2
        go_ret
        exact ⟨rfl, hB⟩
    | 3, _, _, _, k2 =>
      have HR0 := Lib.hid (k2 (by omega))
      clear k2
      go_wp2
      go_ret
      exact ⟨ret_int HR0.out.symm, hB⟩
end Go.Proofs.Ytelpgjlcagbcjaa
