/- onlyByte. -/
import Derived.Test.YtjjdihkjkmhjnaaGpBnd
namespace Go.Proofs.Ytjjdihkjkmhjnaa
set_option linter.unusedSimpArgs false
set_option linter.unusedVariables false
set_option maxRecDepth 100000
open Go.RowKit Go.Deep

/-- how many of the first k, and the last one of them -/
def cntB (S : Nat → Bool) : Nat → Nat
  | 0 => 0
  | k + 1 => cntB S k + (if S k then 1 else 0)
def lastB (S : Nat → Bool) : Nat → Nat
  | 0 => 0
  | k + 1 => if S k then k else lastB S k
theorem cntB_le (S : Nat → Bool) : ∀ k, cntB S k ≤ k
  | 0 => Nat.le_refl _
  | k + 1 => by rw [cntB]; have := cntB_le S k; split <;> omega
theorem lastB_lt (S : Nat → Bool) : ∀ k, lastB S k ≤ k
  | 0 => Nat.le_refl _
  | k + 1 => by rw [lastB]; have := lastB_lt S k; split <;> omega
theorem cnt_one {S : Nat → Bool} {n : Nat} : ∀ {k : Nat}, (∀ i < k, S i = (i == n)) → cntB S k = (if n < k then 1 else 0) ∧ lastB S k = (if n < k then n else 0)
  | 0, _ => ⟨rfl, rfl⟩
  | k + 1, h => by
    obtain ⟨h1, h2⟩ := cnt_one (k := k) fun i hi => h i (by omega)
    rw [cntB, lastB, h1, h2, h k (by omega)]
    by_cases e : k = n
    · subst e; simp
    · have : (k == n) = false := by simpa using e
      rw [this]
      by_cases g : n < k
      · simp [g, show n < k + 1 by omega]
      · simp [g, show ¬ n < k + 1 by omega]
theorem cnt_mono (S : Nat → Bool) {a : Nat} : ∀ {k : Nat}, a ≤ k → cntB S a ≤ cntB S k
  | 0, h => by rw [show a = 0 by omega]; exact Nat.le_refl _
  | k + 1, h => by
    rcases Nat.lt_or_ge k a with g | g
    · rw [show a = k + 1 by omega]; exact Nat.le_refl _
    · rw [cntB]; have := cnt_mono S (k := k) g; omega
theorem cnt_two {S : Nat → Bool} {a b k : Nat} (ha : S a = true) (hb : S b = true) (h : a < b) (hk : b < k) : 2 ≤ cntB S k := by
  have h1 := cnt_mono S (show b + 1 ≤ k by omega)
  have h2 := cnt_mono S (show a + 1 ≤ b by omega)
  rw [cntB, if_pos hb] at h1
  rw [cntB, if_pos ha] at h2
  omega
theorem lit_set {x : El} {c : UInt8} (h : x.lit = some c) (i : Nat) (hi : i < 256) : x.fits (UInt8.ofNat i) = (i == c.toNat) := by
  have key : ∀ a : UInt8, (a == UInt8.ofNat i) = (i == a.toNat) := fun a => by
    by_cases e : i = a.toNat
    · subst e; simp
    · have h1 : (i == a.toNat) = false := by simpa using e
      rw [h1, beq_eq_false_iff_ne]
      rintro rfl
      exact e (UInt8.toNat_ofNat_of_lt' (by simpa using hi)).symm
  cases x with
  | one a => cases h; exact key c
  | any => cases h
  | star => cases h
  | cls cs =>
    cases cs with
    | nil => cases h
    | cons a r =>
      rw [El.lit] at h
      split at h
      · rename_i hr
        cases h
        show ((c :: r).any (· == UInt8.ofNat i)) = _
        rw [List.any_cons, key]
        by_cases e : i = c.toNat
        · subst e; simp
        · have h1 : (i == c.toNat) = false := by simpa using e
          rw [h1, Bool.false_or, List.any_eq_false]
          intro y hy
          have := List.all_eq_true.1 hr y hy
          rw [beq_iff_eq] at this
          rw [this, key, h1]; decide
      · cases h
theorem lit_none {x : El} (hok : x.ok = true) (h : x.lit = none) : 2 ≤ cntB (fun i => x.fits (UInt8.ofNat i)) 256 := by
  cases x with
  | one a => cases h
  | any => exact cnt_two (a := 0) (b := 1) rfl rfl (by decide) (by decide)
  | star => exact cnt_two (a := 0) (b := 1) rfl rfl (by decide) (by decide)
  | cls cs =>
    cases cs with
    | nil => exact absurd hok (by decide)
    | cons a r =>
      rw [El.lit] at h
      split at h
      · cases h
      · rename_i hr
        have : ∃ d ∈ r, d ≠ a := by
          by_cases hx : ∃ d ∈ r, d ≠ a
          · exact hx
          · exfalso
            apply hr
            rw [List.all_eq_true]
            intro y hy
            rw [beq_iff_eq]
            exact Classical.byContradiction fun hn => hx ⟨y, hy, hn⟩
        obtain ⟨d, hd, hne⟩ := this
        have fa : (El.cls (a :: r)).fits (UInt8.ofNat a.toNat) = true := by
          rw [UInt8.ofNat_toNat]; show (a :: r).any (· == a) = true; simp
        have fd : (El.cls (a :: r)).fits (UInt8.ofNat d.toNat) = true := by
          rw [UInt8.ofNat_toNat]; show (a :: r).any (· == d) = true
          rw [List.any_cons, Bool.or_eq_true, List.any_eq_true]
          exact .inr ⟨d, hd, by simp⟩
        have hn : a.toNat ≠ d.toNat := fun e => hne (UInt8.toNat_inj.1 e.symm)
        rcases Nat.lt_or_gt_of_ne hn with g | g
        · exact cnt_two (a := a.toNat) (b := d.toNat) fa fd g (UInt8.toNat_lt d)
        · exact cnt_two (a := d.toNat) (b := a.toNat) fd fa g (UInt8.toNat_lt a)
theorem rowL_range {W : World} {b o : Nat} {x : El} (h : W.rangeAt b o (elL x)) : W.rangeAt b (o + 1) (rowL fun i => x.fits (UInt8.ofNat i)) := fun j v hv => by
  have hj : j < 256 := by
    have := (List.getElem?_eq_some_iff.1 hv).1
    rwa [rowL_length] at this
  rw [rowL_get hj] at hv
  cases hv
  rw [Nat.add_assoc]
  exact h (1 + j) _ (by rw [elL, cellL_byte _ _ _ hj])
theorem size_bool : (Try.prog.info? 4).map (·.size) = some 1 := by kernel_rfl
theorem index_row (S : Nat → Bool) (k : Nat) (hk : k < 256) (b : Bool) (hb : S k = b) (w : World) : (Instr.index 53 (.agg (rowL S).toArray) (.int .i64 k)).run Try.prog w = .ok (.bool b) w := by
  obtain ⟨j, hj, hjs⟩ := Option.map_eq_some_iff.1 size_bool
  have hg : (rowL S)[k]? = some (.bool b) := by rw [rowL_get hk, hb]
  have h1 : (0 : Int) ≤ k ∧ (k : Int) < 256 := by omega
  simp [Instr.index, asIntOf, run_underlying Try.underlying53, h1, hk, sizeOf, typeInfo, hj, hjs, part, hg]
set_option maxHeartbeats 2000000 in
theorem onlyByte_any (b o : Nat) (x : El) (w : World) (hx : w.rangeAt b o (elL x)) (n m : Nat) (hn : cntB (fun i => x.fits (UInt8.ofNat i)) 256 = n) (hm : lastB (fun i => x.fits (UInt8.ofNat i)) 256 = m) (q : Bool) (hq : decide (n = 1) = q) :
    Calls Try.prog 35 #[.pointer (some ⟨b, o, none⟩)] w fun e w' => e = .returned (.tuple #[.int .u8 m, .bool q]) ∧ w = w' := by
  have HRG := Lib.hid (rowL_range hx)
  have HN := Lib.hid (And.intro hn hm)
  have HQ := Lib.hid hq
  clear hx hn hm hq
  generalize (fun i => x.fits (UInt8.ofNat i)) = S at *
  go_enter Try.func35, Try.ntmps35
  go_wp2_with (refine wpList_load_mid rfl 53 (.tmp 10) rfl b (o + 1) rfl (rowL S) _ HRG.out Try.underlying53 rfl (by rw [rowL_length]; exact (zero_of_info info_row).2) ?_)
  go_loopw [4, 5, 12] (fun v4 v5 v12 wr => ∃ k : Nat, k ≤ 256 ∧ v12 = .int .i64 k ∧ v4 = .int .u8 (lastB S k) ∧ v5 = .int .i64 (cntB S k) ∧ w = wr) (fun _ _ v12 _ => 256 - (intOf v12).toNat)
  case atStart => exact ⟨0, by omega, rfl, rfl, rfl, by trivial⟩
  case round =>
    obtain ⟨k, hk, rfl, rfl, rfl, rfl⟩ := hrel
    by_cases hlt : k < 256
    · obtain ⟨sk, hsk⟩ : ∃ sk, S k = sk := ⟨_, rfl⟩
      have hix := index_row S k hlt sk hsk
      have hk0 : (k : Int) < 256 := by omega
      have hcl : cntB S k ≤ 256 := by have := cntB_le S k; omega
      have hc1 : cntB S (k + 1) = cntB S k + (if sk then 1 else 0) := by rw [cntB, hsk]
      have hl1 : lastB S (k + 1) = if sk then k else lastB S k := by rw [lastB, hsk]
      have HC := Lib.hid (And.intro hc1 hl1)
      clear hsk hc1 hl1
      cases sk with
      | true =>
        go_wp2_with fail
        refine ⟨⟨k + 1, by omega, by go_num, by rw [HC.out.2]; rfl, by rw [HC.out.1]; go_num, by trivial⟩, by simp [intOf]; omega⟩
      | false =>
        go_wp2_with fail
        refine ⟨⟨k + 1, by omega, by go_num, by rw [HC.out.2]; rfl, by rw [HC.out.1]; rfl, by trivial⟩, by simp [intOf]; omega⟩
    · obtain rfl : k = 256 := by omega
      rw [HN.out.1, HN.out.2]
      have hk0 : ¬ ((256 : Nat) : Int) < 256 := by omega
      have hqi : ((n : Int) == 1) = q := by
        rw [← HQ.out]
        by_cases e : n = 1
        · subst e; rfl
        · rw [decide_eq_false e, beq_eq_false_iff_ne]; omega
      go_wp2_with fail
      refine bodyPost_ret (v := .tuple #[.int .u8 m, .bool q]) (by simp [results, Try.results35, go_sem]) rfl ⟨rfl, by trivial⟩
theorem only_some (b o : Nat) (x : El) (w : World) (hx : w.rangeAt b o (elL x)) (c : UInt8) (h : x.lit = some c) :
    Calls Try.prog 35 #[.pointer (some ⟨b, o, none⟩)] w fun e w' => e = .returned (.tuple #[.int .u8 c.toNat, .bool true]) ∧ w = w' := by
  have hc := cnt_one (S := fun i => x.fits (UInt8.ofNat i)) (n := c.toNat) (k := 256) (lit_set h)
  have hl := UInt8.toNat_lt c
  rw [if_pos hl, if_pos hl] at hc
  exact onlyByte_any b o x w hx 1 c.toNat hc.1 hc.2 true rfl
def OnlyNone (w : World) (e : Ending) (w' : World) : Prop := ∃ m : Nat, e = .returned (.tuple #[.int .u8 m, .bool false]) ∧ w = w'
theorem only_none (b o : Nat) (x : El) (w : World) (hx : w.rangeAt b o (elL x)) (hok : x.ok = true) (h : x.lit = none) :
    Calls Try.prog 35 #[.pointer (some ⟨b, o, none⟩)] w (OnlyNone w) := by
  have hc := lit_none hok h
  refine (onlyByte_any b o x w hx _ _ rfl rfl false (decide_eq_false (by omega))).mono ?_
  rintro e w1 ⟨rfl, rfl⟩
  exact ⟨_, rfl, rfl⟩
end Go.Proofs.Ytjjdihkjkmhjnaa
