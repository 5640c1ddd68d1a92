/- The references of Check, IsWord and IsName, and Great. -/
import Derived.Test.YtelpgjlcagbcjaaRight
import Derived.Test.YtelpgjlcagbcjaaWords
namespace Go.Proofs.Ytelpgjlcagbcjaa
set_option linter.unusedSimpArgs false
set_option linter.unusedVariables false
open Go.RowKit

theorem flag_zip : ∀ (b : Bool) (l : List UInt8) (k : Nat), k < l.length → (l.zip (flagsB b l))[k]? = some (l[k]?.getD 0, flg b l k)
  | _, [], _, h => by simp at h
  | b, c :: t, 0, _ => by simp [flagsB, flg]
  | b, c :: t, k + 1, h => by
    have ih := flag_zip (decide (kd c = 1) || (decide (kd c = 2) && b)) t k (by simpa using h)
    simp only [flagsB, List.zip_cons_cons, List.getElem?_cons_succ, flg] at ih ⊢
    exact ih
/-- of the first k bytes none is bad -/
def okTo (l : List UInt8) (k : Nat) : Bool := !(((l.zip (flags l)).take k).any fun x => badB x.1 x.2)
theorem okTo_zero (l : List UInt8) : okTo l 0 = true := rfl
theorem okTo_all (l : List UInt8) : okTo l l.length = accB l := by
  rw [okTo, accB, List.take_of_length_le (by simp [flags, flagsB_length])]
theorem okTo_step (s : ByteArray) (k : Nat) (h : k < s.size) : okTo s.data.toList (k + 1) = (okTo s.data.toList k && !badB s[k] (flg false s.data.toList k)) := by
  have hz := flag_zip false s.data.toList k (by simpa using h)
  have e : s.data.toList[k]?.getD 0 = s[k] := by
    rw [List.getElem?_eq_getElem (by simpa using h)]; rfl
  rw [e] at hz
  rw [okTo, okTo, List.take_add_one, flags, hz]
  simp only [Option.toList_some, List.any_append, List.any_cons, List.any_nil, Bool.or_false, Bool.not_or]
theorem okTo_stop {l : List UInt8} {k : Nat} (hk : k ≤ l.length) (h : okTo l k = false) : accB l = false := by
  rw [← okTo_all]
  rw [okTo, Bool.not_eq_false'] at h ⊢
  rw [List.any_eq_true] at h ⊢
  obtain ⟨x, hx, hp⟩ := h
  refine ⟨x, ?_, hp⟩
  exact (List.take_subset_take_left _ hk) hx

theorem chk_bad {s : ByteArray} (h : ¬ 65536 < s.size) {k : Nat} (hk : k < s.size) (hb : okTo s.data.toList (k + 1) = false) : 11 = chk s.data.toList := by
  rw [chk_small h, okTo_stop (by rw [size_list]; omega) hb]; rfl
section
variable {c : UInt8} {f : Bool}
theorem bad_zero (h : kindI c.toNat = 0) : badB c f = true := by simp [badB, kd, h]
theorem bad_mark (h : kindI c.toNat = 2) : badB c false = true := by simp [badB, kd, h]
theorem bad_not (h0 : ¬ kindI c.toNat = 0) (h2 : ¬ kindI c.toNat = 2) : badB c f = false := by simp [badB, kd, h0, h2]
theorem bad_right (h0 : ¬ kindI c.toNat = 0) : badB c true = false := by simp [badB, kd, h0]
end

set_option maxHeartbeats 400000 in
theorem refCheck_big (s : ByteArray) (h : 65536 < s.size) (hs : s.size ≤ maxLen) (w : World) :
    Calls Try.prog 15 #[.string s] w fun e w' => e = .returned (.int .i64 (chk s.data.toList)) ∧ Below w.heap.size w w' := by
  unfold maxLen at hs
  go_enter Try.func15, Try.ntmps15
  go_wp2
  go_ret
  exact ⟨ret_int (by rw [chk, if_pos (by rw [size_list]; exact h)]), Below.refl _ _⟩

set_option maxHeartbeats 1000000 in
theorem refCheck_small (s : ByteArray) (h : ¬ 65536 < s.size) (w : World) :
    Calls Try.prog 15 #[.string s] w fun e w' => e = .returned (.int .i64 (chk s.data.toList)) ∧ Below w.heap.size w w' := by
  go_enter Try.func15, Try.ntmps15
  go_wp2_with fail
  refine (right_any s (by omega) _).mono ?_
  rintro e w1 ⟨v, rfl, ho, h1⟩
  rw [List.length_map, flags_size] at ho
  have HO := Lib.hid ho
  clear ho
  go_wp2_with fail
  go_loop [4] (fun i => ∃ k : Nat, k ≤ s.size ∧ i = .int .i64 k ∧ okTo s.data.toList k = true) (fun i => s.size - (intOf i).toNat)
  case atStart => exact ⟨0, Nat.zero_le _, rfl, rfl⟩
  case round =>
    obtain ⟨k, hk, rfl, hok⟩ := hrel
    have HK := Lib.hid hok
    clear hok
    by_cases hlt : k < s.size
    · obtain ⟨g, cap, rfl, hcell⟩ := own_bool HO.out k hlt
      obtain ⟨fb, hfb⟩ : ∃ fb, flg false s.data.toList k = fb := ⟨_, rfl⟩
      rw [show (flags s.data.toList)[k]?.getD false = fb from hfb] at hcell
      have hst := okTo_step s k hlt
      rw [HK.out, hfb, Bool.true_and] at hst
      have HT := Lib.hid hst
      clear hst hfb
      cases fb with
      | false =>
        go_wp2_with (go_at_call 13; refine (refKind_any _ _).mono ?_; rintro e w' ⟨rfl, rfl⟩)
        · go_ret
          exact ⟨ret_int (chk_bad h hlt (by rw [HT.out, bad_zero (by assumption)]; rfl)), h1⟩
        · go_ret
          exact ⟨ret_int (chk_bad h hlt (by rw [HT.out, bad_mark (by assumption)]; rfl)), h1⟩
        · go_round
          case rel => exact ⟨k + 1, by omega, by go_num, by rw [HT.out, bad_not (by assumption) (by assumption)]; rfl⟩
          case measure => simp [intOf]; omega
      | true =>
        go_wp2_with (go_at_call 13; refine (refKind_any _ _).mono ?_; rintro e w' ⟨rfl, rfl⟩)
        · go_ret
          exact ⟨ret_int (chk_bad h hlt (by rw [HT.out, bad_zero (by assumption)]; rfl)), h1⟩
        · go_round
          case rel => exact ⟨k + 1, by omega, by go_num, by rw [HT.out, bad_right (by assumption)]; rfl⟩
          case measure => simp [intOf]; omega
        · go_round
          case rel => exact ⟨k + 1, by omega, by go_num, by rw [HT.out, bad_not (by assumption) (by assumption)]; rfl⟩
          case measure => simp [intOf]; omega
    · obtain rfl : k = s.size := by omega
      have hacc : accB s.data.toList = true := by
        have := HK.out
        rw [← size_list, okTo_all] at this
        exact this
      have HA := Lib.hid hacc
      clear hacc
      go_wp2
      go_ret
      exact ⟨ret_int (by rw [chk_small h, HA.out]; rfl), h1⟩

theorem refCheck_any (s : ByteArray) (hs : s.size ≤ maxLen) (w : World) :
    Calls Try.prog 15 #[.string s] w fun e w' => e = .returned (.int .i64 (chk s.data.toList)) ∧ Below w.heap.size w w' := by
  by_cases h : 65536 < s.size
  · exact refCheck_big s h hs w
  · exact refCheck_small s h w
theorem refCheck_at (s : ByteArray) (r : Int) (h : chk s.data.toList = r) (hs : s.size ≤ maxLen) (w : World) : Calls Try.prog 15 #[.string s] w fun e w' => e = .returned (.int .i64 r) ∧ Below w.heap.size w w' := by
  subst h; exact refCheck_any s hs w

theorem accF_wF : ∀ (b : Bool) (l : List UInt8), accF b l = true → (∀ c ∈ l, ¬ 4 < kd c) → wF b l = true
  | _, [], _, _ => rfl
  | b, c :: t, h, hk => by
    rw [accF, Bool.and_eq_true] at h
    have hc := hk c (List.mem_cons_self ..)
    have hb := kindI_bd c.toNat
    have h1 : badB c (decide (kd c = 2) && b) = false := by simpa using h.1
    have h0 : ¬ kd c = 0 := by
      intro e
      simp [badB, e] at h1
    have ho : okW c (decide (kd c = 2) && b) = true := by
      simp only [badB, Bool.or_eq_false_iff, decide_eq_false_iff_not, Bool.and_eq_false_iff, Bool.not_eq_false'] at h1
      by_cases h2 : kd c = 2
      · rcases h1.2 with h3 | h3
        · exact absurd h2 h3
        · have hb2 : b = true := by simpa [h2] using h3
          simp [okW, h2, hb2]
      · have : kd c = 1 ∨ kd c = 3 ∨ kd c = 4 := by
          have e : kd c = kindI c.toNat := rfl
          omega
        rcases this with e | e | e <;> simp [okW, e]
    rw [wF, ho, accF_wF _ t h.2 (fun x hx => hk x (List.mem_cons_of_mem _ hx))]; rfl

theorem not_word_chk {l : List UInt8} (h : ¬ chk l = 0) : wordB l = false := by
  rw [← Bool.not_eq_true]; exact fun e => h (word_chk e)
theorem not_word_head {s : ByteArray} (h0 : 0 < s.size) (hh : ldI s[0].toNat = false) : wordB s.data.toList = false := by
  unfold wordB; rw [headLd_eq h0, hh]; simp
theorem not_word_kind {s : ByteArray} {k : Nat} (hk : k < s.size) (h : 4 < kindI s[k].toNat) : wordB s.data.toList = false := by
  rw [← Bool.not_eq_true]
  intro e
  obtain ⟨_, _, _, h4⟩ := wordB_split e
  have hm : s[k] ∈ s.data.toList := by
    have : s.data.toList[k]'(by simpa using hk) = s[k] := rfl
    rw [← this]; exact List.getElem_mem _
  have := wF_kinds _ _ h4 s[k] hm
  have hb := kindI_bd s[k].toNat
  have e : kd s[k] = kindI s[k].toNat := rfl
  omega
theorem word_of {s : ByteArray} (h0 : 0 < s.size) (h64 : s.size ≤ 64) (hh : ldI s[0].toNat = true) (hc : chk s.data.toList = 0) (hk : ∀ k (h : k < s.size), ¬ 4 < kindI s[k].toNat) : wordB s.data.toList = true := by
  obtain ⟨_, ha⟩ := chk_zero hc
  rw [acc_accF] at ha
  have hw : wF false s.data.toList = true := accF_wF _ _ ha (by
    intro c hc
    obtain ⟨k, hkl, rfl⟩ := List.getElem_of_mem hc
    exact hk k (by simpa using hkl))
  rw [wordB, headLd_eq h0, hh, allW_wF, hw, size_list]; simp [h0, h64]

set_option maxHeartbeats 400000 in
theorem refWord_no (s : ByteArray) (h : s.size = 0 ∨ 64 < s.size) (w : World) :
    Calls Try.prog 17 #[.string s] w fun e w' => e = .returned (.bool (wordB s.data.toList)) ∧ Below w.heap.size w w' := by
  have hr : wordB s.data.toList = false := by
    unfold wordB; rw [size_list]
    rcases h with h | h
    · simp [h]
    · have : ¬ s.size ≤ 64 := by omega
      simp [this]
  rw [hr]
  clear hr
  go_enter Try.func17, Try.ntmps17
  rcases h with h | h
  · have h1 : (s.size : Int) < 1 := by omega
    have H := Lib.hid h
    clear h
    go_wp2
    go_ret
    exact ⟨rfl, Below.refl _ _⟩
  · have h1 : ¬ (s.size : Int) < 1 := by omega
    go_wp2
    go_ret
    exact ⟨rfl, Below.refl _ _⟩

theorem below_step {s : ByteArray} {k : Nat} {hlt : k < s.size} (hall : ∀ j (h : j < s.size), j < k → kindI s[j].toNat ≤ 4) (h4 : kindI s[k].toNat ≤ 4) : ∀ j (h : j < s.size), j < k + 1 → kindI s[j].toNat ≤ 4 := by
  intro j hj hjk
  by_cases e : j = k
  · subst e; exact h4
  · exact hall j hj (by omega)

set_option maxHeartbeats 1000000 in
theorem refWord_some (s : ByteArray) (h0 : 0 < s.size) (h : s.size ≤ 64) (w : World) :
    Calls Try.prog 17 #[.string s] w fun e w' => e = .returned (.bool (wordB s.data.toList)) ∧ Below w.heap.size w w' := by
  obtain ⟨r, hr⟩ : ∃ r, chk s.data.toList = r := ⟨_, rfl⟩
  have HR := Lib.hid hr
  clear hr
  have h1 : ¬ (s.size : Int) < 1 := by omega
  go_enter Try.func17, Try.ntmps17
  go_wp2_with fail
  refine (refCheck_at s r HR.out (by unfold maxLen; omega) _).mono ?_
  rintro e w1 ⟨rfl, B1⟩
  by_cases hr0 : r = 0
  · have hr' : (r != 0) = false := by simp [hr0]
    have HZ := Lib.hid hr0
    clear hr0
    go_wp2_with fail
    refine (refKind_any _ _).mono ?_
    rintro e w2 ⟨rfl, rfl⟩
    have hd : ldI s[0].toNat = true ∧ ((kindI s[0].toNat != 1) = false ∨ (kindI s[0].toNat != 1) = true ∧ (kindI s[0].toNat != 3) = false) ∨ ldI s[0].toNat = false ∧ (kindI s[0].toNat != 1) = true ∧ (kindI s[0].toNat != 3) = true := by
      by_cases a1 : kindI s[0].toNat = 1
      · exact .inl ⟨ldk1 a1, .inl (by simp [a1])⟩
      · by_cases a3 : kindI s[0].toNat = 3
        · exact .inl ⟨ldk3 (.inr (by simp [a3])), .inr ⟨by simp [a1], by simp [a3]⟩⟩
        · exact .inr ⟨by simp [ldI, a1, a3], by simp [a1], by simp [a3]⟩
    rcases hd with ⟨hh, hd⟩ | ⟨hh, d1, d3⟩
    · have HH := Lib.hid hh
      clear hh
      rcases hd with d1 | ⟨d1, d3⟩
      all_goals
        go_wp2_with fail
        go_loop [4] (fun i => ∃ k : Nat, k ≤ s.size ∧ i = .int .i64 k ∧ ∀ j (h : j < s.size), j < k → kindI s[j].toNat ≤ 4) (fun i => s.size - (intOf i).toNat)
        case atStart => exact ⟨0, Nat.zero_le _, rfl, fun j _ h => absurd h (Nat.not_lt_zero _)⟩
        case round =>
          obtain ⟨k, hk, rfl, hall⟩ := hrel
          have HA := Lib.hid hall
          clear hall
          by_cases hlt : k < s.size
          · by_cases h4 : 4 < kindI s[k].toNat
            · have HN := Lib.hid (not_word_kind hlt h4)
              go_wp2_with (go_at_call 13; refine (refKind_any _ _).mono ?_; rintro e w' ⟨rfl, rfl⟩)
              go_ret
              exact ⟨ret_bool HN.out.symm, B1⟩
            · go_wp2_with (go_at_call 13; refine (refKind_any _ _).mono ?_; rintro e w' ⟨rfl, rfl⟩)
              go_round
              case rel => exact ⟨k + 1, by omega, by go_num, fun j hj hjk => below_step HA.out (by omega) j hj hjk⟩
              case measure => simp [intOf]; omega
          · have HW := Lib.hid (word_of h0 h HH.out (by rw [HR.out]; exact HZ.out) (fun j hj => by have := HA.out j hj (by omega); omega))
            go_wp2
            go_ret
            exact ⟨ret_bool HW.out.symm, B1⟩
    · have HN := Lib.hid (not_word_head h0 hh)
      clear hh
      go_wp2_with fail
      go_ret
      exact ⟨ret_bool HN.out.symm, B1⟩
  · have hr' : (r != 0) = true := by simp [hr0]
    have HN := Lib.hid (not_word_chk (l := s.data.toList) (by rw [HR.out]; exact hr0))
    clear hr0
    go_wp2
    go_ret
    exact ⟨ret_bool HN.out.symm, B1⟩

theorem refWord_any (s : ByteArray) (w : World) :
    Calls Try.prog 17 #[.string s] w fun e w' => e = .returned (.bool (wordB s.data.toList)) ∧ Below w.heap.size w w' := by
  by_cases h : s.size = 0 ∨ 64 < s.size
  · exact refWord_no s h w
  · exact refWord_some s (by omega) (by omega) w
theorem refWord_at (s : ByteArray) (r : Bool) (h : wordB s.data.toList = r) (w : World) : Calls Try.prog 17 #[.string s] w fun e w' => e = .returned (.bool r) ∧ Below w.heap.size w w' := by
  subst h; exact refWord_any s w

theorem refLetters_at (s : ByteArray) (n : Int) (h : (lettersN s.data.toList : Int) = n) (hs : s.size ≤ maxLen) (w : World) :
    Calls Try.prog 25 #[.string s] w fun e w' => e = .returned (.int .i64 n) ∧ w = w' := by subst h; exact refLetters_any s hs w

set_option maxHeartbeats 400000 in
theorem refName_any (s : ByteArray) (hs : s.size ≤ maxLen) (w : World) :
    Calls Try.prog 19 #[.string s] w fun e w' => e = .returned (.bool (nameB s.data.toList)) ∧ Below w.heap.size w w' := by
  by_cases h16 : s.size ≤ 16
  · obtain ⟨b, hb⟩ : ∃ b, wordB s.data.toList = b := ⟨_, rfl⟩
    obtain ⟨n, hn⟩ : ∃ n, lettersN s.data.toList = n := ⟨_, rfl⟩
    have hname : nameB s.data.toList = (b && ((n : Int) == (s.size : Int))) := by
      rw [Bool.eq_iff_iff]
      constructor
      · intro h
        obtain ⟨h1, h2, _⟩ := name_word h
        rw [← hb, h1, ← hn, h2, size_list]; simp
      · intro h
        simp only [Bool.and_eq_true, beq_iff_eq] at h
        obtain ⟨l1, _, _, _⟩ := wordB_split (hb.trans h.1)
        rw [size_list] at l1
        have e : lettersN s.data.toList = s.size := by rw [hn]; omega
        rw [nameB, size_list, e]; simp [l1, h16]
    have HB := Lib.hid hb
    have HN := Lib.hid hname
    have hi : (s.size : Int) ≤ 16 := by omega
    have hn' : (lettersN s.data.toList : Int) = (n : Int) := by rw [hn]
    have HL := Lib.hid hn'
    clear hb hname hn hn'
    go_enter Try.func19, Try.ntmps19
    go_wp2_with fail
    refine (refWord_at s b HB.out _).mono ?_
    rintro e w1 ⟨rfl, B1⟩
    cases b with
    | false =>
      go_wp2_with fail
      go_ret
      exact ⟨ret_bool (by rw [HN.out]; rfl), B1⟩
    | true =>
      go_wp2_with fail
      refine (refLetters_at s n HL.out hs _).mono ?_
      rintro e w2 ⟨rfl, rfl⟩
      go_wp2_with fail
      go_ret
      exact ⟨ret_bool (by rw [HN.out]; rfl), B1⟩
  · have hi : ¬ (s.size : Int) ≤ 16 := by omega
    have hr : nameB s.data.toList = false := by rw [nameB, size_list]; simp [h16]
    rw [hr]
    clear hr h16
    go_enter Try.func19, Try.ntmps19
    go_wp2_with fail
    go_ret
    exact ⟨rfl, Below.refl _ _⟩

/-- Great's result -/
def greatB (n : Nat) : Bool := decide (80 < n) && decide (n ≤ 65536) || decide (65539 < n)
set_option maxHeartbeats 400000 in
theorem great_any (s : ByteArray) (r : Bool) (h : greatB s.size = r) (w : World) :
    Calls Try.prog 10 #[.string s] w fun e w' => e = .returned (.bool r) ∧ w = w' := by
  subst h
  have hg : greatB s.size = (decide ((80 : Int) < s.size) && decide ((s.size : Int) ≤ 65536) || decide ((65539 : Int) < s.size)) := by
    unfold greatB
    rw [Bool.eq_iff_iff]
    simp only [Bool.or_eq_true, Bool.and_eq_true, decide_eq_true_eq]
    omega
  rw [hg]
  clear hg
  go_enter Try.func10, Try.ntmps10
  by_cases h1 : (80 : Int) < s.size
  · by_cases h2 : (s.size : Int) ≤ 65536
    · go_wp2
      go_ret
      exact ⟨ret_bool (by rw [Bool.eq_iff_iff]; simp; omega), rfl⟩
    · go_wp2
      go_ret
      exact ⟨ret_bool (by rw [Bool.eq_iff_iff]; simp; omega), rfl⟩
  · go_wp2
    go_ret
    exact ⟨ret_bool (by rw [Bool.eq_iff_iff]; simp; omega), rfl⟩
end Go.Proofs.Ytelpgjlcagbcjaa
