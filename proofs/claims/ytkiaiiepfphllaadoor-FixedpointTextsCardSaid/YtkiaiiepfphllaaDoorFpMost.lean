/- The reference's most: comparing digits from the top. -/
import Derived.Test.YtkiaiiepfphllaaDoorFpTimes
namespace Go.Proofs.YtkiaiiepfphllaaDoor
set_option linter.unusedSimpArgs false
set_option linter.unusedVariables false
open Go.RowKit

/-- the number with these digits -/
def valZ : List Int → Int
  | [] => 0
  | x :: l => x + 1073741824 * valZ l
theorem valZ_snoc (x : Int) : ∀ l, valZ (l ++ [x]) = valZ l + x * 1073741824 ^ l.length := by
  intro l
  induction l with
  | nil => simp [valZ]
  | cons y l ih =>
    rw [List.cons_append, valZ, valZ, ih, List.length_cons, Int.pow_succ, Int.mul_add]
    have : 1073741824 * (x * 1073741824 ^ l.length) = x * (1073741824 ^ l.length * 1073741824) := by
      rw [Int.mul_left_comm, Int.mul_comm 1073741824 (1073741824 ^ l.length)]
    omega
/-- all but the top one are digits -/
def Low (l : List Int) : Prop := ∀ x ∈ l.dropLast, 0 ≤ x ∧ x < 1073741824
theorem Low.tail {x : Int} {l : List Int} (h : Low (x :: l)) : Low l := by
  intro y hy
  by_cases hl : l = []
  · subst hl; simp at hy
  · exact h y (by rw [List.dropLast_cons_of_ne_nil hl]; exact List.mem_cons_of_mem _ hy)
theorem Low.head {x : Int} {l : List Int} (h : Low (x :: l)) (hl : l ≠ []) : 0 ≤ x ∧ x < 1073741824 := h x (by rw [List.dropLast_cons_of_ne_nil hl]; exact List.mem_cons_self)
theorem val_lt : ∀ (a b : List Int) (k : Nat) (ha : k < a.length) (hb : k < b.length), a.length = b.length → Low a → Low b → a.drop (k + 1) = b.drop (k + 1) → a[k] < b[k] → valZ a < valZ b := by
  intro a
  induction a with
  | nil => intro b k ha; simp at ha
  | cons x l ih =>
    intro b k ha hb hl la lb hd hlt
    match b, hb with
    | y :: m, hb =>
      cases k with
      | zero =>
        simp at hd hlt
        rw [valZ, valZ, hd]; omega
      | succ k =>
        simp at hd hlt ha hb hl
        have h1 := ih m k ha hb hl la.tail lb.tail hd hlt
        have h2 := la.head (by intro e; simp [e] at ha)
        have h3 := lb.head (by intro e; simp [e] at hb)
        rw [valZ, valZ]; omega
theorem tmsA_low (n : Int) : ∀ zs, ∀ x ∈ (tmsA n zs).1, 0 ≤ x ∧ x < 1073741824 := by
  refine snoc_ind (by intro x hx; simp [tmsA] at hx) fun l x ih y hy => ?_
  rw [tmsA_snoc] at hy
  rcases List.mem_append.1 hy with h | h
  · exact ih y h
  · simp at h; omega
theorem tms_low (n : Int) (zs : List Int) : Low (tms n zs) := by
  intro x hx
  rw [tms, List.dropLast_concat] at hx
  exact tmsA_low n zs x hx
theorem tmsA_val (n : Int) : ∀ zs, valZ (tmsA n zs).1 + (tmsA n zs).2 * 1073741824 ^ zs.length = valZ zs * n := by
  refine snoc_ind (by simp [tmsA, valZ]) fun l x ih => ?_
  rw [tmsA_snoc]
  show valZ (_ ++ [_]) + _ / _ * _ = _
  rw [valZ_snoc, valZ_snoc, tmsA_len, List.length_append, List.length_cons, List.length_nil, Int.pow_succ]
  obtain ⟨P, hP⟩ : ∃ P : Int, 1073741824 ^ l.length = P := ⟨_, rfl⟩
  obtain ⟨c, hc⟩ : ∃ c, (tmsA n l).2 = c := ⟨_, rfl⟩
  rw [hP, hc] at ih
  simp only [hP, hc]
  obtain ⟨y, hy⟩ : ∃ y, x * n + c = y := ⟨_, rfl⟩
  rw [hy]
  have e := Int.mul_ediv_add_emod y 1073741824
  have e2 : y % 1073741824 * P + y / 1073741824 * (P * 1073741824) = y * P := by
    rw [Int.mul_comm P, ← Int.mul_assoc, ← Int.add_mul]; congr 1; omega
  have e3 : y * P = x * P * n + c * P := by rw [← hy, Int.add_mul, Int.mul_right_comm]
  rw [Int.add_mul]
  omega
theorem tms_val (n : Int) (zs : List Int) : valZ (tms n zs) = valZ zs * n := by rw [tms, valZ_snoc, tmsA_len, tmsA_val]
theorem tms_digs (n k : Int) (hn : 0 ≤ n) (hn2 : n ≤ 1073741824) (hk : 0 ≤ k) (hk2 : k ≤ 1000) (zs : List Int) (hz : Digs k zs) : Digs (k + 1) (tms n zs) := by
  intro x hx
  rcases List.mem_append.1 hx with h | h
  · have := tmsA_low n zs x h; omega
  · simp at h
    have := tmsA_bd n k hn hn2 hk hk2 zs hz
    omega

theorem drop_eq_cons {a b : List Int} {k : Nat} (ha : k < a.length) (hb : k < b.length) (h : a.drop (k + 1) = b.drop (k + 1)) (e : a[k] = b[k]) : a.drop k = b.drop k := by
  rw [List.drop_eq_getElem_cons ha, List.drop_eq_getElem_cons hb, h, e]

set_option maxHeartbeats 1000000 in
theorem refMost_any (a b : List Int) (hl : a.length = b.length) (hb : b.length ≤ 1000000) (la : Low a) (lb : Low b) (va vb : Value) (w : World) (hva : IntsAt w va a) (hvb : IntsAt w vb b) :
    Calls Tryd.prog 50 #[va, vb] w fun e w' => e = .returned (.bool (decide (valZ a ≤ valZ b))) ∧ w = w' := by
  obtain ⟨pa, ca, rfl, ha⟩ := hva
  obtain ⟨pb, cb, rfl, hbb⟩ := hvb
  rw [hl]
  have HA := Lib.hid ha
  have HB := Lib.hid hbb
  have HLA := Lib.hid la
  have HLB := Lib.hid lb
  clear ha hbb la lb
  go_enter Tryd.func50, Tryd.ntmps50
  go_wp2
  go_loop [5] (fun i => ∃ k : Nat, k ≤ b.length ∧ i = .int .i64 ((k : Int) - 1) ∧ a.drop k = b.drop k) (fun i => (intOf i + 1).toNat)
  case atStart => exact ⟨b.length, Nat.le_refl _, rfl, by rw [List.drop_length, ← hl, List.drop_length]⟩
  case round =>
    obtain ⟨k, hk, rfl, hd⟩ := hrel
    have HD := Lib.hid hd
    clear hd
    by_cases h0 : 0 < k
    · obtain ⟨j, rfl⟩ : ∃ j, k = j + 1 := ⟨k - 1, by omega⟩
      obtain ⟨ba, offa, rfl, hba, hcsa⟩ := HA.out (by omega)
      obtain ⟨bb, offb, rfl, hbb, hcsb⟩ := HB.out (by omega)
      have hca := hcsa j (by omega)
      have hcb := hcsb j (by omega)
      clear hcsa hcsb
      obtain ⟨x, hx⟩ : ∃ x, a[j] = x := ⟨_, rfl⟩
      obtain ⟨y, hy⟩ : ∃ y, b[j] = y := ⟨_, rfl⟩
      rw [hx] at hca
      rw [hy] at hcb
      have hidx : ((j + 1 : Nat) : Int) - 1 = j := by omega
      rw [hidx]
      by_cases hxy : x = y
      · have HR := Lib.hid (drop_eq_cons (by omega) (by omega) HD.out (hx.trans (hxy.trans hy.symm)))
        clear hx hy
        subst hxy
        go_wp2
        go_round
        case rel => exact ⟨j, by omega, by go_num, HR.out⟩
        case measure => simp [intOf]
      · have hfin : decide (valZ a ≤ valZ b) = decide (x < y) := by
          rw [Bool.eq_iff_iff, decide_eq_true_eq, decide_eq_true_eq]
          by_cases hlt : x < y
          · have := val_lt a b j (by omega) (by omega) hl HLA.out HLB.out HD.out (by rw [hx, hy]; exact hlt)
            omega
          · have := val_lt b a j (by omega) (by omega) hl.symm HLB.out HLA.out HD.out.symm (by rw [hx, hy]; omega)
            omega
        have HF := Lib.hid hfin
        clear hfin hx hy
        go_wp2
        go_ret
        exact ⟨ret_bool HF.out.symm, rfl⟩
    · obtain rfl : k = 0 := by omega
      have e := HD.out
      rw [List.drop_zero, List.drop_zero] at e
      have HE := Lib.hid e
      clear e
      go_wp2
      go_ret
      exact ⟨ret_bool (by rw [HE.out]; simp), rfl⟩
theorem refMost_at (a b : List Int) (r : Bool) (h : decide (valZ a ≤ valZ b) = r) (hl : a.length = b.length) (hb : b.length ≤ 1000000) (la : Low a) (lb : Low b) (va vb : Value) (w : World) (hva : IntsAt w va a) (hvb : IntsAt w vb b) :
    Calls Tryd.prog 50 #[va, vb] w fun e w' => e = .returned (.bool r) ∧ w = w' := by subst h; exact refMost_any a b hl hb la lb va vb w hva hvb
end Go.Proofs.YtkiaiiepfphllaaDoor
