/- The walk of the statement CharsetShapes. -/
import Derived.Test.YtelpgjlcagbcjaaSome
import Derived.Test.YtelpgjlcagbcjaaOrder
import Derived.Test.YtelpgjlcagbcjaaAccepts
namespace Go.Proofs.Ytelpgjlcagbcjaa
set_option linter.unusedSimpArgs false
set_option linter.unusedVariables false
open Go.RowKit

theorem foldB_ld (c : UInt8) : kindI (foldB c).toNat = kindI c.toNat := by
  by_cases h : 65 ≤ c.toNat ∧ c.toNat ≤ 90
  · have e := foldB_big (c := c) (by omega) (by omega)
    rw [e]; unfold kindI; omega
  · rw [foldB, if_neg h]
theorem kd_fold (c : UInt8) : kd (foldB c) = kd c := foldB_ld c
theorem foldB_two (c : UInt8) : foldB (foldB c) = foldB c := by
  by_cases h : 65 ≤ c.toNat ∧ c.toNat ≤ 90
  · have e := foldB_big (c := c) (by omega) (by omega)
    exact foldB_high (by omega)
  · have e : foldB c = c := by rw [foldB, if_neg h]
    rw [e, e]
theorem foldL_two (l : List UInt8) : foldL (foldL l) = foldL l := by
  rw [foldL, foldL, List.map_map]
  exact List.map_congr_left fun c _ => foldB_two c
theorem plainL_two (l : List UInt8) : plainL (plainL l) = plainL l := by
  rw [plainL, plainL, List.filter_filter]; simp
theorem plain_fold (l : List UInt8) : plainL (foldL l) = foldL (plainL l) := by
  rw [plainL, foldL, List.filter_map, foldL, plainL]
  congr 1
  apply List.filter_congr
  intro c _
  rw [Bool.eq_iff_iff]
  simp [kd_fold]
theorem letters_fold (l : List UInt8) : lettersN (foldL l) = lettersN l := by
  rw [lettersN, foldL, List.filter_map, List.length_map, lettersN]
  congr 1
  apply List.filter_congr
  intro c _
  simp only [Function.comp, ldB, ldI, foldB_ld]
theorem letters_plain (l : List UInt8) : lettersN (plainL l) = lettersN l := by
  rw [lettersN, plainL, List.filter_filter, lettersN]
  congr 1
  apply List.filter_congr
  intro c _
  simp only [ldB, ldI, kd]
  by_cases h1 : kindI c.toNat = 1
  · simp [h1]
  · by_cases h3 : kindI c.toNat = 3
    · simp [h3]
    · simp [h1, h3]
theorem flagsB_fold : ∀ (b : Bool) (l : List UInt8), flagsB b (foldL l) = flagsB b l
  | _, [] => rfl
  | b, c :: t => by
    show flagsB b (foldB c :: foldL t) = _
    simp only [flagsB, kd_fold, flagsB_fold]
theorem accF_fold : ∀ (b : Bool) (l : List UInt8), accF b (foldL l) = accF b l
  | _, [] => rfl
  | b, c :: t => by
    show accF b (foldB c :: foldL t) = _
    simp only [accF, badB, kd_fold, accF_fold]
theorem acc_accF (l : List UInt8) : accB l = accF false l := by rw [accF_flags]; rfl
theorem chk_fold (l : List UInt8) : chk (foldL l) = chk l := by
  rw [chk, chk, acc_accF, acc_accF, accF_fold, foldL, List.length_map]
theorem accF_all : ∀ (b : Bool) (l : List UInt8), (∀ c ∈ l, kd c ≠ 0 ∧ kd c ≠ 2) → accF b l = true
  | _, [], _ => rfl
  | b, c :: t, h => by
    have hc := h c (List.mem_cons_self ..)
    have ih := accF_all (decide (kd c = 1) || (decide (kd c = 2) && b)) t (fun x hx => h x (List.mem_cons_of_mem _ hx))
    rw [accF, ih]; simp [badB, hc.1, hc.2]
theorem accF_zero : ∀ (b : Bool) (l : List UInt8), accF b l = true → ∀ c ∈ l, kd c ≠ 0
  | _, [], _ => by simp
  | b, c :: t, h => by
    rw [accF, Bool.and_eq_true] at h
    intro x hx
    rcases List.mem_cons.1 hx with rfl | hx
    · intro e
      have := h.1
      simp [badB, e] at this
    · exact accF_zero _ t h.2 x hx
theorem chk_zero {l : List UInt8} (h : chk l = 0) : ¬ 65536 < l.length ∧ accB l = true := by
  unfold chk at h
  split at h
  · omega
  · split at h
    · exact ⟨by assumption, by assumption⟩
    · omega
theorem chk_plain {l : List UInt8} (h : chk l = 0) : chk (plainL l) = 0 := by
  obtain ⟨h1, h2⟩ := chk_zero h
  have hle := plainL_le l
  rw [acc_accF] at h2
  have hz := accF_zero false l h2
  rw [chk, if_neg (by omega), acc_accF, accF_all, if_pos rfl]
  intro c hc
  rw [plainL, List.mem_filter] at hc
  exact ⟨hz c hc.1, by simpa using hc.2⟩
theorem some_plain (l : List UInt8) : someB (plainL l) [94, 126, 37] = false := by
  rw [someB, List.any_eq_false]
  intro c hc
  rw [plainL, List.mem_filter] at hc
  have h2 : ¬ kd c = 2 := by simpa using hc.2
  rw [inB_mem, decide_eq_true_eq]
  intro hm
  apply h2
  simp only [List.mem_cons, List.not_mem_nil, or_false] at hm
  rcases hm with rfl | rfl | rfl <;> decide

theorem letters_at (s : ByteArray) (n : Int) (h : (lettersN s.data.toList : Int) = n) (hs : s.size ≤ maxLen) (w : World) :
    Calls Try.prog 24 #[.string s] w fun e w' => e = .returned (.int .i64 n) ∧ w = w' := by subst h; exact letters_any s hs w
theorem mk_list (l : List UInt8) : (⟨l.toArray⟩ : ByteArray).data.toList = l := rfl
theorem fold_size (s : ByteArray) : (⟨(foldL s.data.toList).toArray⟩ : ByteArray).size = s.size := by
  show (foldL s.data.toList).toArray.size = _
  rw [foldL]; simp

set_option maxHeartbeats 2000000 in
theorem shapes_small (s : ByteArray) (hs : s.size ≤ 80) (w : World) :
    Calls Try.prog 6 #[.string s] w fun e w' => e = .returned (.bool true) ∧ Below w.heap.size w w' := by
  obtain ⟨f, hf⟩ : ∃ f : ByteArray, f = ⟨(foldL s.data.toList).toArray⟩ := ⟨_, rfl⟩
  obtain ⟨p, hp⟩ : ∃ p : ByteArray, p = ⟨(plainL s.data.toList).toArray⟩ := ⟨_, rfl⟩
  obtain ⟨q, hq⟩ : ∃ q : ByteArray, q = ⟨(plainL f.data.toList).toArray⟩ := ⟨_, rfl⟩
  obtain ⟨n, hn⟩ : ∃ n, (lettersN s.data.toList : Int) = n := ⟨_, rfl⟩
  obtain ⟨r, hr⟩ : ∃ r, chk s.data.toList = r := ⟨_, rfl⟩
  have fl : f.data.toList = foldL s.data.toList := by rw [hf]
  have pl : p.data.toList = plainL s.data.toList := by rw [hp]
  have hff : f = ⟨(foldL f.data.toList).toArray⟩ := by rw [fl, foldL_two]; exact hf
  have hpp : p = ⟨(plainL p.data.toList).toArray⟩ := by rw [pl, plainL_two]; exact hp
  have hqq : q = ⟨(foldL p.data.toList).toArray⟩ := by rw [hq, fl, pl, plain_fold]
  have hfs : f.size = s.size := by rw [hf, fold_size]
  have hps : p.size ≤ s.size := by rw [hp]; exact plain_size s
  have hn1 : (lettersN f.data.toList : Int) = n := by rw [fl, letters_fold]; exact hn
  have hn2 : (lettersN p.data.toList : Int) = n := by rw [pl, letters_plain]; exact hn
  have hr1 : chk f.data.toList = r := by rw [fl, chk_fold]; exact hr
  have hr2 : r = 0 → chk p.data.toList = 0 := by intro e; rw [pl]; exact chk_plain (by rw [hr]; exact e)
  have hsm : someB p.data.toList [94, 126, 37] = false := by rw [pl]; exact some_plain _
  have hfz : f.size ≤ 80 := by omega
  have hpz : p.size ≤ 80 := by omega
  have hneq : ((f.size : Int) != s.size) = false := by rw [hfs]; simp
  have HF := Lib.hid hf
  have HP := Lib.hid hp
  have HQ := Lib.hid hq
  have HFF := Lib.hid hff
  have HPP := Lib.hid hpp
  have HQQ := Lib.hid hqq
  have HN := Lib.hid hn
  have HN1 := Lib.hid hn1
  have HN2 := Lib.hid hn2
  have HR := Lib.hid hr
  have HR1 := Lib.hid hr1
  have HR2 := Lib.hid hr2
  have HS := Lib.hid hsm
  clear hf hp hq hn hr fl pl hff hpp hqq hfs hn1 hn2 hr1 hr2 hsm
  go_enter Try.func6, Try.ntmps6
  go_wp2_with fail
  refine (fold_at s f HF.out (by omega) _).mono ?_
  rintro e w1 ⟨rfl, h1⟩
  go_wp2_with fail
  refine (plain_at s p HP.out (by omega) _).mono ?_
  rintro e w2 ⟨rfl, h2⟩
  have B2 := below_seq h1 h2 (Nat.le_refl _)
  clear h1 h2
  go_wp2_with fail
  refine (fold_at f f HFF.out (by omega) _).mono ?_
  rintro e w3 ⟨rfl, h3⟩
  go_wp2_with fail
  refine (plain_at p p HPP.out (by omega) _).mono ?_
  rintro e w4 ⟨rfl, h4⟩
  have B4 := below_seq (below_seq B2 h3 (Nat.le_refl _)) h4 (Nat.le_refl _)
  clear h3 h4 B2
  go_wp2_with fail
  refine (plain_at f q HQ.out (by omega) _).mono ?_
  rintro e w5 ⟨rfl, h5⟩
  go_wp2_with fail
  refine (fold_at p q HQQ.out (by omega) _).mono ?_
  rintro e w6 ⟨rfl, h6⟩
  have B6 := below_seq (below_seq B4 h5 (Nat.le_refl _)) h6 (Nat.le_refl _)
  clear h5 h6 B4
  go_wp2_with fail
  refine (letters_at s n HN.out (by unfold maxLen; omega) _).mono ?_
  rintro e w7 ⟨rfl, rfl⟩
  go_wp2_with fail
  refine (letters_at f n HN1.out (by unfold maxLen; omega) _).mono ?_
  rintro e w8 ⟨rfl, rfl⟩
  go_wp2_with fail
  refine (letters_at p n HN2.out (by unfold maxLen; omega) _).mono ?_
  rintro e w9 ⟨rfl, rfl⟩
  go_wp2_with fail
  refine (check_at f r HR1.out (by unfold maxLen; omega) _).mono ?_
  rintro e w10 ⟨rfl, h10⟩
  go_wp2_with fail
  refine (check_at s r HR.out (by unfold maxLen; omega) _).mono ?_
  rintro e w11 ⟨rfl, h11⟩
  have B11 := below_seq (below_seq B6 h10 (Nat.le_refl _)) h11 (Nat.le_refl _)
  clear h10 h11 B6
  go_wp2_with fail
  refine (check_at s r HR.out (by unfold maxLen; omega) _).mono ?_
  rintro e w12 ⟨rfl, h12⟩
  have B12 := below_seq B11 h12 (Nat.le_refl _)
  clear h12 B11
  by_cases h0 : r = 0
  · have h0' : (r != 0) = false := by simp [h0]
    have HZ := Lib.hid (HR2.out h0)
    clear h0
    go_wp2_with fail
    refine (check_at p 0 HZ.out (by unfold maxLen; omega) _).mono ?_
    rintro e w13 ⟨rfl, h13⟩
    go_wp2_with fail
    refine (some_at p _ false HS.out (by omega) _).mono ?_
    rintro e w14 ⟨rfl, h14⟩
    have B14 := below_seq (below_seq B12 h13 (Nat.le_refl _)) h14 (Nat.le_refl _)
    clear h13 h14 B12
    go_wp2_with fail
    refine (awake_any _).mono ?_
    rintro e w15 ⟨rfl, h15⟩
    go_wp2
    go_ret
    exact ⟨rfl, below_seq B14 h15 (Nat.le_refl _)⟩
  · have h0' : (r != 0) = true := by simp [h0]
    clear h0
    go_wp2_with fail
    refine (some_at p _ false HS.out (by omega) _).mono ?_
    rintro e w14 ⟨rfl, h14⟩
    have B14 := below_seq B12 h14 (Nat.le_refl _)
    clear h14 B12
    go_wp2_with fail
    refine (awake_any _).mono ?_
    rintro e w15 ⟨rfl, h15⟩
    go_wp2
    go_ret
    exact ⟨rfl, below_seq B14 h15 (Nat.le_refl _)⟩

set_option maxHeartbeats 400000 in
theorem shapes_any (s : ByteArray) (_hs : s.size ≤ maxLen) (w : World) :
    Calls Try.prog 6 #[.string s] w fun e w' => e = .returned (.bool true) ∧ Below w.heap.size w w' := by
  by_cases h : s.size ≤ 80
  · exact shapes_small s h w
  · go_enter Try.func6, Try.ntmps6
    go_wp2_with fail
    refine (awake_any _).mono ?_
    rintro e w2 ⟨rfl, h2⟩
    go_wp2
    go_ret
    exact ⟨rfl, h2⟩
end Go.Proofs.Ytelpgjlcagbcjaa
