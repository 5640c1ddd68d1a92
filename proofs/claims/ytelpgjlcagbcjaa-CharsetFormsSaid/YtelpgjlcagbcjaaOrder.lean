/- The walk of the statement CharsetOrder. -/
import Derived.Test.YtelpgjlcagbcjaaAwake
namespace Go.Proofs.Ytelpgjlcagbcjaa
set_option linter.unusedSimpArgs false
set_option linter.unusedVariables false
open Go.RowKit

def lex2 (x y : Int) : Int := if x ≠ 0 then x else y
theorem cmpD_lex (a b : List UInt8) : cmpD a b = lex2 (cmpB (foldL (plainL a)) (foldL (plainL b))) (lex2 (cmpB (plainL a) (plainL b)) (cmpB a b)) := rfl
theorem lex2_le {x y : Int} (h : lex2 x y ≤ 0) : x ≤ 0 := by
  unfold lex2 at h; split at h <;> omega
theorem lex2_trans {ka kb kc : List UInt8} {y1 y2 y3 : Int} (r : y1 ≤ 0 → y2 ≤ 0 → y3 ≤ 0) (h1 : lex2 (cmpB ka kb) y1 ≤ 0) (h2 : lex2 (cmpB kb kc) y2 ≤ 0) : lex2 (cmpB ka kc) y3 ≤ 0 := by
  have a1 := lex2_le h1
  have a2 := lex2_le h2
  have a3 := cmpB_trans ka kb kc a1 a2
  by_cases h3 : cmpB ka kc = 0
  · have e := cmpB_zero _ _ h3
    subst e
    have n := cmpB_neg ka kb
    have z1 : cmpB ka kb = 0 := by omega
    have z2 : cmpB kb ka = 0 := by omega
    rw [z1] at h1
    rw [z2] at h2
    rw [h3]
    exact r h1 h2
  · rw [lex2, if_pos h3]; exact a3
theorem cmpD_trans (a b c : List UInt8) (h1 : cmpD a b ≤ 0) (h2 : cmpD b c ≤ 0) : cmpD a c ≤ 0 := by
  rw [cmpD_lex] at h1 h2 ⊢
  exact lex2_trans (fun g1 g2 => lex2_trans (cmpB_trans a b c) g1 g2) h1 h2
theorem lex2_neg (x y : Int) : lex2 (-x) (-y) = - lex2 x y := by
  unfold lex2; split <;> split <;> omega
theorem cmpD_neg (a b : List UInt8) : cmpD b a = - cmpD a b := by
  rw [cmpD_lex, cmpD_lex, cmpB_neg (foldL (plainL a)), cmpB_neg (plainL a), cmpB_neg a, lex2_neg, lex2_neg]
theorem lex2_vals {x y : Int} (h : x = -1 ∨ x = 0 ∨ x = 1) (k : y = -1 ∨ y = 0 ∨ y = 1) : lex2 x y = -1 ∨ lex2 x y = 0 ∨ lex2 x y = 1 := by
  unfold lex2; split <;> omega
theorem cmpD_vals (a b : List UInt8) : cmpD a b = -1 ∨ cmpD a b = 0 ∨ cmpD a b = 1 :=
  lex2_vals (cmpB_vals _ _) (lex2_vals (cmpB_vals _ _) (cmpB_vals _ _))
theorem lex2_zero {x y : Int} (h : lex2 x y = 0) : y = 0 := by
  unfold lex2 at h; split at h <;> omega
theorem cmpD_zero {a b : List UInt8} (h : cmpD a b = 0) : a = b := by
  rw [cmpD_lex] at h
  exact cmpB_zero a b (lex2_zero (lex2_zero h))
theorem cmpD_self (a : List UInt8) : cmpD a a = 0 := by
  rw [cmpD_lex, cmpB_refl, cmpB_refl, cmpB_refl]; rfl
theorem cmpD_forms {a b : List UInt8} (h : foldL (plainL a) ≠ foldL (plainL b)) : cmpD a b = cmpB (foldL (plainL a)) (foldL (plainL b)) := by
  have : cmpB (foldL (plainL a)) (foldL (plainL b)) ≠ 0 := fun e => h (cmpB_zero _ _ e)
  rw [cmpD, if_pos this]

theorem plain_at (s t : ByteArray) (h : t = ⟨(plainL s.data.toList).toArray⟩) (hs : s.size ≤ 140737488351232) (w : World) :
    Calls Try.prog 22 #[.string s] w fun e w' => e = .returned (.string t) ∧ Below w.heap.size w w' := by subst h; exact plain_any s hs w
theorem fold_at (s t : ByteArray) (h : t = ⟨(foldL s.data.toList).toArray⟩) (hs : s.size ≤ 140737488351232) (w : World) :
    Calls Try.prog 20 #[.string s] w fun e w' => e = .returned (.string t) ∧ Below w.heap.size w w' := by subst h; exact fold_any s hs w

theorem strCompare_at (a b : ByteArray) (r : Int) (h : cmpB a.data.toList b.data.toList = r) (w : World) :
    Calls Try.prog 36 #[.string a, .string b] w fun e w' => e = .returned (.int .i64 r) ∧ w = w' := by subst h; exact strCompare_any a b w
theorem str_same {a b : ByteArray} (h : a.data.toList = b.data.toList) : (a.toList == b.toList) = true := by
  rw [ByteArray.toList_eq, ByteArray.toList_eq, h]; simp
theorem str_diff {a b : ByteArray} (h : a.data.toList ≠ b.data.toList) : (a.toList == b.toList) = false := by
  rw [ByteArray.toList_eq, ByteArray.toList_eq]; simpa using h

set_option maxHeartbeats 2000000 in
theorem order_small (a b c : ByteArray) (ha : a.size ≤ 80) (hb : b.size ≤ 80) (hc : c.size ≤ 80) (w : World) :
    Calls Try.prog 9 #[.string a, .string b, .string c] w fun e w' => e = .returned (.bool true) ∧ Below w.heap.size w w' := by
  obtain ⟨x, hx⟩ : ∃ x, cmpD a.data.toList b.data.toList = x := ⟨_, rfl⟩
  obtain ⟨y, hy⟩ : ∃ y, cmpD b.data.toList c.data.toList = y := ⟨_, rfl⟩
  obtain ⟨z, hz⟩ : ∃ z, cmpD a.data.toList c.data.toList = z := ⟨_, rfl⟩
  obtain ⟨pa, hpa⟩ : ∃ pa : ByteArray, pa = ⟨(plainL a.data.toList).toArray⟩ := ⟨_, rfl⟩
  obtain ⟨pb, hpb⟩ : ∃ pb : ByteArray, pb = ⟨(plainL b.data.toList).toArray⟩ := ⟨_, rfl⟩
  obtain ⟨f, hf⟩ : ∃ f : ByteArray, f = ⟨(foldL pa.data.toList).toArray⟩ := ⟨_, rfl⟩
  obtain ⟨g, hg⟩ : ∃ g : ByteArray, g = ⟨(foldL pb.data.toList).toArray⟩ := ⟨_, rfl⟩
  have hv := cmpD_vals a.data.toList b.data.toList
  have hn := cmpD_neg a.data.toList b.data.toList
  have ht := cmpD_trans a.data.toList b.data.toList c.data.toList
  have hpas := plain_size a
  have hpbs := plain_size b
  rw [← hpa] at hpas
  rw [← hpb] at hpbs
  rw [hx] at hv hn
  rw [hx, hy, hz] at ht
  have x1 : -1 ≤ x := by omega
  have x2 : x ≤ 1 := by omega
  have hxab : (x == 0) = true ∧ (a.toList == b.toList) = true ∨ (x == 0) = false ∧ (a.toList == b.toList) = false := by
    by_cases e : a.data.toList = b.data.toList
    · have : x = 0 := by rw [← hx, e, cmpD_self]
      exact .inl ⟨by simp [this], str_same e⟩
    · have : x ≠ 0 := fun h => e (cmpD_zero (by rw [hx]; exact h))
      exact .inr ⟨by simp [this], str_diff e⟩
  have hfl : f.data.toList = foldL (plainL a.data.toList) := by rw [hf, hpa]
  have hgl : g.data.toList = foldL (plainL b.data.toList) := by rw [hg, hpb]
  have hfg : (f.toList == g.toList) = true ∨ (f.toList == g.toList) = false ∧ cmpB f.data.toList g.data.toList = x := by
    by_cases e : f.data.toList = g.data.toList
    · exact .inl (str_same e)
    · refine .inr ⟨str_diff e, ?_⟩
      rw [hfl, hgl] at e ⊢
      rw [← hx, cmpD_forms e]
  have HX := Lib.hid hx
  have HY := Lib.hid hy
  have HZ := Lib.hid hz
  have HN := Lib.hid hn
  have HPA := Lib.hid hpa
  have HPB := Lib.hid hpb
  have HF := Lib.hid hf
  have HG := Lib.hid hg
  have HT := Lib.hid ht
  have HFG := Lib.hid hfg
  clear hx hy hz hn hv hpa hpb hf hg hfl hgl ht hfg
  go_enter Try.func9, Try.ntmps9
  go_wp2_with fail
  refine (compare_at a b x HX.out (by omega) (by omega) _).mono ?_
  rintro e w1 ⟨rfl, h1⟩
  go_wp2_with fail
  refine (compare_at b c y HY.out (by omega) (by omega) _).mono ?_
  rintro e w2 ⟨rfl, h2⟩
  go_wp2_with fail
  refine (compare_at a c z HZ.out (by omega) (by omega) _).mono ?_
  rintro e w3 ⟨rfl, h3⟩
  go_wp2_with fail
  refine (compare_at b a (-x) HN.out (by omega) (by omega) _).mono ?_
  rintro e w4 ⟨rfl, h4⟩
  have B4 := below_seq (below_seq (below_seq h1 h2 (Nat.le_refl _)) h3 (Nat.le_refl _)) h4 (Nat.le_refl _)
  clear h1 h2 h3 h4
  have hz0 : ¬ x ≤ 0 ∨ ¬ y ≤ 0 ∨ (x ≤ 0 ∧ y ≤ 0 ∧ ¬ 0 < z) := by
    by_cases p : x ≤ 0
    · by_cases q : y ≤ 0
      · have := HT.out p q
        exact .inr (.inr ⟨p, q, by omega⟩)
      · exact .inr (.inl q)
    · exact .inl p
  have hcase : (x == 0) = true ∧ (a.toList == b.toList) = true ∨ (x == 0) = false ∧ (a.toList == b.toList) = false := hxab
  clear hxab
  rcases hcase with ⟨q1, q2⟩ | ⟨q1, q2⟩ <;> rcases hz0 with p | p | ⟨p, p', p''⟩
  all_goals
    go_wp2_with fail
  all_goals
    refine (plain_at a pa HPA.out (by omega) _).mono ?_
    rintro e w5 ⟨rfl, h5⟩
    go_wp2_with fail
    refine (fold_at pa f HF.out (by omega) _).mono ?_
    rintro e w6 ⟨rfl, h6⟩
    have B6 := below_seq (below_seq B4 h5 (Nat.le_refl _)) h6 (Nat.le_refl _)
    clear h5 h6
    go_wp2_with fail
    refine (plain_at b pb HPB.out (by omega) _).mono ?_
    rintro e w7 ⟨rfl, h7⟩
    go_wp2_with fail
    refine (fold_at pb g HG.out (by omega) _).mono ?_
    rintro e w8 ⟨rfl, h8⟩
    have B8 := below_seq (below_seq B6 h7 (Nat.le_refl _)) h8 (Nat.le_refl _)
    clear h7 h8 B4 B6
    rcases HFG.out with q | ⟨q, q'⟩
    · go_wp2_with fail
      refine (awake_any _).mono ?_
      rintro e w9 ⟨rfl, h9⟩
      go_wp2
      go_ret
      exact ⟨rfl, below_seq B8 h9 (Nat.le_refl _)⟩
    · have Q := Lib.hid q'
      clear q'
      go_wp2_with fail
      refine (strCompare_at f g x Q.out _).mono ?_
      rintro e w9 ⟨rfl, rfl⟩
      go_wp2_with fail
      refine (awake_any _).mono ?_
      rintro e w10 ⟨rfl, h9⟩
      go_wp2
      go_ret
      exact ⟨rfl, below_seq B8 h9 (Nat.le_refl _)⟩

set_option maxHeartbeats 1000000 in
theorem order_any (a b c : ByteArray) (_ha : a.size ≤ maxLen) (_hb : b.size ≤ maxLen) (_hc : c.size ≤ maxLen) (w : World) :
    Calls Try.prog 9 #[.string a, .string b, .string c] w fun e w' => e = .returned (.bool true) ∧ Below w.heap.size w w' := by
  by_cases h : a.size ≤ 80 ∧ b.size ≤ 80 ∧ c.size ≤ 80
  · exact order_small a b c h.1 h.2.1 h.2.2 w
  · by_cases ha : a.size ≤ 80
    · by_cases hb : b.size ≤ 80
      · have hc : ¬ c.size ≤ 80 := fun hc => h ⟨ha, hb, hc⟩
        clear h
        go_enter Try.func9, Try.ntmps9
        go_wp2_with fail
        refine (awake_any _).mono ?_
        rintro e w2 ⟨rfl, h2⟩
        go_wp2
        go_ret
        exact ⟨rfl, h2⟩
      · clear h
        go_enter Try.func9, Try.ntmps9
        go_wp2_with fail
        refine (awake_any _).mono ?_
        rintro e w2 ⟨rfl, h2⟩
        go_wp2
        go_ret
        exact ⟨rfl, h2⟩
    · clear h
      go_enter Try.func9, Try.ntmps9
      go_wp2_with fail
      refine (awake_any _).mono ?_
      rintro e w2 ⟨rfl, h2⟩
      go_wp2
      go_ret
      exact ⟨rfl, h2⟩
end Go.Proofs.Ytelpgjlcagbcjaa
