/- The walk of the statement CharsetWords. -/
import Derived.Test.YtelpgjlcagbcjaaShapes
namespace Go.Proofs.Ytelpgjlcagbcjaa
set_option linter.unusedSimpArgs false
set_option linter.unusedVariables false
open Go.RowKit

def wF : Bool → List UInt8 → Bool
  | _, [] => true
  | b, c :: t => okW c (decide (kd c = 2) && b) && wF (decide (kd c = 1) || (decide (kd c = 2) && b)) t
theorem wF_flags : ∀ (b : Bool) (l : List UInt8), wF b l = !((l.zip (flagsB b l)).any fun x => !okW x.1 x.2)
  | _, [] => rfl
  | b, c :: t => by
    simp only [wF, flagsB, List.zip_cons_cons, List.any_cons, Bool.not_or, Bool.not_not, wF_flags]
theorem allW_wF (l : List UInt8) : allW l = wF false l := by rw [wF_flags]; rfl
theorem wF_append : ∀ (b : Bool) (l m : List UInt8), wF b l = true → headLd m = true → wF b (l ++ m) = wF false m
  | b, [], m, _, h => by
    match m, h with
    | c :: t, h =>
      have hk : ¬ kd c = 2 := by
        intro e
        have e' : kindI c.toNat = 2 := e
        simp [headLd, ldI, e'] at h
      show wF b (c :: t) = wF false (c :: t)
      simp only [wF, hk, decide_false, Bool.false_and]
  | b, c :: t, m, hl, h => by
    rw [wF, Bool.and_eq_true] at hl
    show wF b (c :: (t ++ m)) = _
    rw [wF, hl.1, wF_append _ t m hl.2 h]; rfl
theorem headLd_append {l m : List UInt8} (h : headLd l = true) : headLd (l ++ m) = true := by
  match l, h with
  | c :: t, h => exact h
theorem wordB_split {l : List UInt8} (h : wordB l = true) : 0 < l.length ∧ l.length ≤ 64 ∧ headLd l = true ∧ wF false l = true := by
  unfold wordB at h
  simp only [Bool.and_eq_true, decide_eq_true_eq] at h
  rw [allW_wF] at h
  exact ⟨h.1.1.1, h.1.1.2, h.1.2, h.2⟩
theorem wordB_append {l m : List UInt8} (hl : wordB l = true) (hm : wordB m = true) : wordB (l ++ m) = decide (l.length + m.length ≤ 64) := by
  obtain ⟨l1, l2, l3, l4⟩ := wordB_split hl
  obtain ⟨m1, m2, m3, m4⟩ := wordB_split hm
  have h0 : 0 < l.length + m.length := by omega
  rw [wordB, headLd_append l3, allW_wF, wF_append _ _ _ l4 m3, m4, List.length_append]; simp [h0]
theorem okW_bad {c : UInt8} {f : Bool} (h : okW c f = true) : badB c f = false := by
  simp only [okW, Bool.or_eq_true, decide_eq_true_eq, Bool.and_eq_true] at h
  rcases h with ((h | h) | h) | ⟨h, hf⟩
  · simp [badB, h]
  · simp [badB, h]
  · simp [badB, h]
  · simp [badB, h, hf]
theorem wF_accF : ∀ (b : Bool) (l : List UInt8), wF b l = true → accF b l = true
  | _, [], _ => rfl
  | b, c :: t, h => by
    rw [wF, Bool.and_eq_true] at h
    rw [accF, okW_bad h.1, wF_accF _ t h.2]; rfl
theorem word_chk {l : List UInt8} (h : wordB l = true) : chk l = 0 := by
  obtain ⟨l1, l2, l3, l4⟩ := wordB_split h
  rw [chk, if_neg (by omega), acc_accF, wF_accF _ _ l4, if_pos rfl]
theorem wF_kinds : ∀ (b : Bool) (l : List UInt8), wF b l = true → ∀ c ∈ l, ¬ kd c = 5 ∧ ¬ kd c = 6
  | _, [], _ => by simp
  | b, c :: t, h => by
    rw [wF, Bool.and_eq_true] at h
    intro x hx
    rcases List.mem_cons.1 hx with rfl | hx
    · have h1 := h.1
      simp only [okW, Bool.or_eq_true, decide_eq_true_eq, Bool.and_eq_true] at h1
      omega
    · exact wF_kinds _ t h.2 x hx
theorem word_some {l : List UInt8} (h : wordB l = true) : someB l [32, 46, 44, 59, 58, 33, 63, 40, 41, 45] = false := by
  obtain ⟨l1, l2, l3, l4⟩ := wordB_split h
  rw [someB, List.any_eq_false]
  intro c hc
  have hk := wF_kinds _ _ l4 c hc
  rw [inB_mem, decide_eq_true_eq]
  intro hm
  simp only [List.mem_cons, List.not_mem_nil, or_false] at hm
  rcases hm with rfl | rfl | rfl | rfl | rfl | rfl | rfl | rfl | rfl | rfl
  · exact hk.2 (by decide)
  all_goals exact hk.1 (by decide)
theorem wF_ld : ∀ (b : Bool) (l : List UInt8), (∀ c ∈ l, ldB c = true) → wF b l = true
  | _, [], _ => rfl
  | b, c :: t, h => by
    have hc := h c (List.mem_cons_self ..)
    rw [wF, wF_ld _ t (fun x hx => h x (List.mem_cons_of_mem _ hx))]
    have h' : kd c = 1 ∨ kd c = 3 := by simpa [ldB, ldI, kd] using hc
    rcases h' with h' | h' <;> simp [okW, h']
theorem name_word {l : List UInt8} (h : nameB l = true) : wordB l = true ∧ lettersN l = l.length ∧ l.length ≤ 16 := by
  unfold nameB at h
  simp only [Bool.and_eq_true, decide_eq_true_eq] at h
  obtain ⟨⟨h0, h16⟩, hl⟩ := h
  have hall : ∀ c ∈ l, ldB c = true := by
    have : l.filter ldB = l := List.filter_eq_self.2 (by
      have := List.length_filter_eq_length_iff.1 hl
      exact this)
    intro c hc
    rw [← this] at hc
    exact (List.mem_filter.1 hc).2
  refine ⟨?_, hl, h16⟩
  have h64 : l.length ≤ 64 := by omega
  have hh : headLd l = true := by
    match l, h0, hall with
    | c :: t, _, hall => exact hall c (List.mem_cons_self ..)
  rw [wordB, allW_wF, wF_ld _ _ hall, hh]; simp [h0, h64]

theorem add_list (s t : ByteArray) : (s ++ t).data.toList = s.data.toList ++ t.data.toList := by simp

theorem words_awake (s t : ByteArray) (h : ¬ (s.size ≤ 80 ∧ t.size ≤ 80)) (w : World) :
    Calls Try.prog 8 #[.string s, .string t] w fun e w' => e = .returned (.bool true) ∧ Below w.heap.size w w' := by
  by_cases hs : s.size ≤ 80
  · have ht : ¬ t.size ≤ 80 := fun ht => h ⟨hs, ht⟩
    clear h
    go_enter Try.func8, Try.ntmps8
    go_wp2_with fail
    refine (awake_any _).mono ?_
    rintro e w2 ⟨rfl, h2⟩
    go_wp2
    go_ret
    exact ⟨rfl, h2⟩
  · clear h
    go_enter Try.func8, Try.ntmps8
    go_wp2_with fail
    refine (awake_any _).mono ?_
    rintro e w2 ⟨rfl, h2⟩
    go_wp2
    go_ret
    exact ⟨rfl, h2⟩

set_option maxHeartbeats 2000000 in
theorem words_small (s t : ByteArray) (hs : s.size ≤ 80) (ht : t.size ≤ 80) (w : World) :
    Calls Try.prog 8 #[.string s, .string t] w fun e w' => e = .returned (.bool true) ∧ Below w.heap.size w w' := by
  obtain ⟨nb, hnb⟩ : ∃ nb, nameB s.data.toList = nb := ⟨_, rfl⟩
  obtain ⟨wb, hwb⟩ : ∃ wb, wordB s.data.toList = wb := ⟨_, rfl⟩
  have HN := Lib.hid hnb
  have HW := Lib.hid hwb
  clear hnb hwb
  go_enter Try.func8, Try.ntmps8
  go_wp2_with fail
  refine (name_at s nb HN.out (by unfold maxLen; omega) _).mono ?_
  rintro e w1 ⟨rfl, rfl⟩
  cases nb with
  | false =>
    have HB := Below.refl w.heap.size w
    go_wp2_with fail
    cases wb with
    | false =>
      refine (word_at s false HW.out _).mono ?_
      rintro e w5 ⟨rfl, h5⟩
      go_wp2_with fail
      refine (awake_any _).mono ?_
      rintro e w6 ⟨rfl, h6⟩
      go_wp2
      go_ret
      exact ⟨rfl, below_seq (below_seq HB h5 (Nat.le_refl _)) h6 (Nat.le_refl _)⟩
    | true =>
      have hc := word_chk HW.out
      have hsome := word_some HW.out
      obtain ⟨l1, l2, _, _⟩ := wordB_split HW.out
      rw [size_list] at l1 l2
      have HC := Lib.hid hc
      have HS := Lib.hid hsome
      have hz := sz_ne l1
      clear hc hsome
      refine (word_at s true HW.out _).mono ?_
      rintro e w5 ⟨rfl, h5⟩
      have B5 := below_seq HB h5 (Nat.le_refl _)
      clear h5 HB
      go_wp2_with fail
      refine (check_at s 0 HC.out (by unfold maxLen; omega) _).mono ?_
      rintro e w6 ⟨rfl, h6⟩
      go_wp2_with fail
      refine (some_at s _ false HS.out (by omega) _).mono ?_
      rintro e w7 ⟨rfl, h7⟩
      have B7 := below_seq (below_seq B5 h6 (Nat.le_refl _)) h7 (Nat.le_refl _)
      clear h6 h7 B5
      go_wp2_with fail
      obtain ⟨tb, htb⟩ : ∃ tb, wordB t.data.toList = tb := ⟨_, rfl⟩
      have HTB := Lib.hid htb
      clear htb
      refine (word_at t tb HTB.out _).mono ?_
      rintro e w8 ⟨rfl, h8⟩
      have B8 := below_seq B7 h8 (Nat.le_refl _)
      clear h8 B7
      cases tb with
      | false =>
        go_wp2_with fail
        refine (awake_any _).mono ?_
        rintro e w9 ⟨rfl, h9⟩
        go_wp2
        go_ret
        exact ⟨rfl, below_seq B8 h9 (Nat.le_refl _)⟩
      | true =>
        have ha := wordB_append HW.out HTB.out
        rw [size_list, size_list, ← add_list] at ha
        by_cases hsum : s.size + t.size ≤ 64
        · rw [decide_eq_true hsum] at ha
          have HA := Lib.hid ha
          have hsi : (s.size : Int) + t.size ≤ 64 := by omega
          clear ha
          go_wp2_with fail
          refine (word_at _ true HA.out _).mono ?_
          rintro e w9 ⟨rfl, h9⟩
          go_wp2_with fail
          refine (awake_any _).mono ?_
          rintro e w10 ⟨rfl, h10⟩
          go_wp2
          go_ret
          exact ⟨rfl, below_seq (below_seq B8 h9 (Nat.le_refl _)) h10 (Nat.le_refl _)⟩
        · rw [decide_eq_false hsum] at ha
          have HA := Lib.hid ha
          have hsi : ¬ (s.size : Int) + t.size ≤ 64 := by omega
          clear ha
          go_wp2_with fail
          refine (word_at _ false HA.out _).mono ?_
          rintro e w9 ⟨rfl, h9⟩
          go_wp2_with fail
          refine (awake_any _).mono ?_
          rintro e w10 ⟨rfl, h10⟩
          go_wp2
          go_ret
          exact ⟨ret_bool (b := true) (by rw [decide_eq_false (by omega)]; rfl), below_seq (below_seq B8 h9 (Nat.le_refl _)) h10 (Nat.le_refl _)⟩
  | true =>
    have h := name_word HN.out
    rw [size_list] at h
    obtain ⟨h1, h2, h3⟩ := h
    have h2' : (lettersN s.data.toList : Int) = s.size := by rw [h2]
    have H2 := Lib.hid h2'
    clear h2'
    obtain rfl : wb = true := by rw [← HW.out]; exact h1
    clear h1 h2
    go_wp2_with fail
    refine (word_at s true HW.out _).mono ?_
    rintro e w2 ⟨rfl, HB⟩
    go_wp2_with fail
    refine (letters_at s s.size H2.out (by unfold maxLen; omega) _).mono ?_
    rintro e w3 ⟨rfl, rfl⟩
    go_wp2_with fail
    have hc := word_chk HW.out
    have hsome := word_some HW.out
    obtain ⟨l1, l2, _, _⟩ := wordB_split HW.out
    rw [size_list] at l1 l2
    have HC := Lib.hid hc
    have HS := Lib.hid hsome
    have hz := sz_ne l1
    clear hc hsome
    refine (word_at s true HW.out _).mono ?_
    rintro e w5 ⟨rfl, h5⟩
    have B5 := below_seq HB h5 (Nat.le_refl _)
    clear h5 HB
    go_wp2_with fail
    refine (check_at s 0 HC.out (by unfold maxLen; omega) _).mono ?_
    rintro e w6 ⟨rfl, h6⟩
    go_wp2_with fail
    refine (some_at s _ false HS.out (by omega) _).mono ?_
    rintro e w7 ⟨rfl, h7⟩
    have B7 := below_seq (below_seq B5 h6 (Nat.le_refl _)) h7 (Nat.le_refl _)
    clear h6 h7 B5
    go_wp2_with fail
    obtain ⟨tb, htb⟩ : ∃ tb, wordB t.data.toList = tb := ⟨_, rfl⟩
    have HTB := Lib.hid htb
    clear htb
    refine (word_at t tb HTB.out _).mono ?_
    rintro e w8 ⟨rfl, h8⟩
    have B8 := below_seq B7 h8 (Nat.le_refl _)
    clear h8 B7
    cases tb with
    | false =>
      go_wp2_with fail
      refine (awake_any _).mono ?_
      rintro e w9 ⟨rfl, h9⟩
      go_wp2
      go_ret
      exact ⟨rfl, below_seq B8 h9 (Nat.le_refl _)⟩
    | true =>
      have ha := wordB_append HW.out HTB.out
      rw [size_list, size_list, ← add_list] at ha
      by_cases hsum : s.size + t.size ≤ 64
      · rw [decide_eq_true hsum] at ha
        have HA := Lib.hid ha
        have hsi : (s.size : Int) + t.size ≤ 64 := by omega
        clear ha
        go_wp2_with fail
        refine (word_at _ true HA.out _).mono ?_
        rintro e w9 ⟨rfl, h9⟩
        go_wp2_with fail
        refine (awake_any _).mono ?_
        rintro e w10 ⟨rfl, h10⟩
        go_wp2
        go_ret
        exact ⟨rfl, below_seq (below_seq B8 h9 (Nat.le_refl _)) h10 (Nat.le_refl _)⟩
      · rw [decide_eq_false hsum] at ha
        have HA := Lib.hid ha
        have hsi : ¬ (s.size : Int) + t.size ≤ 64 := by omega
        clear ha
        go_wp2_with fail
        refine (word_at _ false HA.out _).mono ?_
        rintro e w9 ⟨rfl, h9⟩
        go_wp2_with fail
        refine (awake_any _).mono ?_
        rintro e w10 ⟨rfl, h10⟩
        go_wp2
        go_ret
        exact ⟨ret_bool (b := true) (by rw [decide_eq_false (by omega)]; rfl), below_seq (below_seq B8 h9 (Nat.le_refl _)) h10 (Nat.le_refl _)⟩

theorem words_any (s t : ByteArray) (_hs : s.size ≤ maxLen) (_ht : t.size ≤ maxLen) (w : World) :
    Calls Try.prog 8 #[.string s, .string t] w fun e w' => e = .returned (.bool true) ∧ Below w.heap.size w w' := by
  by_cases h : s.size ≤ 80 ∧ t.size ≤ 80
  · exact words_small s t h.1 h.2 w
  · exact words_awake s t h w
end Go.Proofs.Ytelpgjlcagbcjaa
