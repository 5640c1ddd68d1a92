/- Stage 10 (transcript): Math MkChar MkMath MkScan MkList MkNest, put together by merge10.py. -/
namespace Go.Proofs.YtmfcepfagbkceaaGreatDoor
set_option linter.unusedSimpArgs false
set_option linter.unusedVariables false
def kindI (c : Int) : Int :=
  if (97 ≤ c ∧ c ≤ 122) ∨ (65 ≤ c ∧ c ≤ 90) then 1
  else if 48 ≤ c ∧ c ≤ 57 then 3
  else if c = 94 ∨ c = 126 ∨ c = 37 then 2
  else if c = 39 then 4
  else if c = 46 ∨ c = 44 ∨ c = 59 ∨ c = 58 ∨ c = 33 ∨ c = 63 ∨ c = 40 ∨ c = 41 ∨ c = 45 then 5
  else if c = 32 then 6
  else 0
def kd (c : UInt8) : Int := kindI c.toNat
theorem kindI_bd (c : Int) : 0 ≤ kindI c ∧ kindI c ≤ 6 := by unfold kindI; omega
def run2 : List UInt8 → Nat
  | [] => 0
  | c :: t => if kd c = 2 then run2 t + 1 else 0
theorem run2_le : ∀ l, run2 l ≤ l.length
  | [] => Nat.le_refl _
  | c :: t => by have := run2_le t; simp only [run2, List.length_cons]; split <;> omega
def fcl : List UInt8 → Nat
  | [] => 0
  | c :: t => if kd c = 1 then run2 t + 1 else 1
theorem fcl_le (l : List UInt8) : fcl l ≤ l.length := by
  cases l with
  | nil => simp [fcl]
  | cons c t => have := run2_le t; simp only [fcl, List.length_cons]; split <;> omega
theorem fcl_pos {l : List UInt8} (h : l ≠ []) : 0 < fcl l := by
  cases l with
  | nil => exact absurd rfl h
  | cons c t => simp only [fcl]; split <;> omega
def clusN : Nat → List UInt8 → List (List UInt8)
  | 0, _ => []
  | _, [] => []
  | n + 1, c :: t => (c :: t).take (fcl (c :: t)) :: clusN n ((c :: t).drop (fcl (c :: t)))
def clus (l : List UInt8) : List (List UInt8) := clusN l.length l
theorem clusN_enough : ∀ (n m : Nat) (l : List UInt8), l.length ≤ n → l.length ≤ m → clusN n l = clusN m l
  | 0, m, l, hn, _ => by
    have : l = [] := List.length_eq_zero_iff.1 (by omega)
    subst this; cases m <;> rfl
  | n + 1, 0, l, _, hm => by
    have : l = [] := List.length_eq_zero_iff.1 (by omega)
    subst this; rfl
  | n + 1, m + 1, [], _, _ => rfl
  | n + 1, m + 1, c :: t, hn, hm => by
    have hp := fcl_pos (l := c :: t) (by simp)
    have hl : ((c :: t).drop (fcl (c :: t))).length = (c :: t).length - fcl (c :: t) := List.length_drop
    simp only [clusN]
    rw [clusN_enough n m _ (by rw [hl]; omega) (by rw [hl]; omega)]
theorem clus_nil : clus [] = [] := rfl
theorem clus_step {l : List UInt8} (h : l ≠ []) : clus l = l.take (fcl l) :: clus (l.drop (fcl l)) := by
  cases l with
  | nil => exact absurd rfl h
  | cons c t =>
    have hp := fcl_pos (l := c :: t) (by simp)
    have hl : ((c :: t).drop (fcl (c :: t))).length = (c :: t).length - fcl (c :: t) := List.length_drop
    show clusN (t.length + 1) (c :: t) = _
    simp only [clusN, clus]
    rw [clusN_enough _ ((c :: t).drop (fcl (c :: t))).length _ (by rw [hl]; simp only [List.length_cons]; omega) (Nat.le_refl _)]
def pairsOf (cl : List UInt8) : List (UInt8 × List UInt8) := cl.map fun c => (c, cl)
def pairs (l : List UInt8) : List (UInt8 × List UInt8) := (clus l).flatMap pairsOf
theorem pairs_nil : pairs [] = [] := rfl
theorem pairs_step {l : List UInt8} (h : l ≠ []) : pairs l = pairsOf (l.take (fcl l)) ++ pairs (l.drop (fcl l)) := by
  unfold pairs; rw [clus_step h]; simp
def pflag (p : UInt8 × List UInt8) : Bool := decide (kd p.1 = 2) && decide (1 < p.2.length)
def flagsB : Bool → List UInt8 → List Bool
  | _, [] => []
  | b, c :: t => (decide (kd c = 2) && b) :: flagsB (decide (kd c = 1) || (decide (kd c = 2) && b)) t
def flags (l : List UInt8) : List Bool := flagsB false l
theorem flagsB_length : ∀ (b : Bool) (l : List UInt8), (flagsB b l).length = l.length
  | _, [] => rfl
  | b, c :: t => by simp [flagsB, flagsB_length _ t]
theorem flagsB_run : ∀ (l : List UInt8), flagsB true l = List.replicate (run2 l) true ++ flagsB false (l.drop (run2 l))
  | [] => rfl
  | c :: t => by
    by_cases h : kd c = 2
    · have h1 : ¬ kd c = 1 := by omega
      have ih := flagsB_run t
      simp only [flagsB, run2, h, if_true, decide_true, Bool.true_and, Bool.or_true, List.replicate_succ, List.drop_succ_cons, List.cons_append, ih]
    · simp only [flagsB, run2, h, if_false, decide_false, Bool.false_and, Bool.or_false, List.replicate_zero, List.nil_append, List.drop_zero]
theorem flags_step {l : List UInt8} (h : l ≠ []) : flags l = (false :: List.replicate (fcl l - 1) true) ++ flags (l.drop (fcl l)) := by
  cases l with
  | nil => exact absurd rfl h
  | cons c t =>
    by_cases h1 : kd c = 1
    · simp only [flags, flagsB, fcl, h1, if_true, decide_true, Bool.true_or, Bool.and_false, Nat.add_sub_cancel, List.drop_succ_cons, List.cons_append, flagsB_run t]
    · simp only [flags, flagsB, fcl, h1, if_false, decide_false, Bool.false_or, Bool.and_false, Nat.sub_self, List.replicate_zero, List.cons_append, List.nil_append, List.drop_succ_cons, List.drop_zero]
theorem run2_take : ∀ (l : List UInt8), ∀ x ∈ l.take (run2 l), kd x = 2
  | [], _, h => by simp at h
  | c :: t, x, h => by
    by_cases hc : kd c = 2
    · simp only [run2, hc, if_true, List.take_succ_cons, List.mem_cons] at h
      rcases h with rfl | h
      · exact hc
      · exact run2_take t x h
    · simp [run2, hc] at h
theorem pflag_first {l : List UInt8} (h : l ≠ []) : (pairsOf (l.take (fcl l))).map pflag = false :: List.replicate (fcl l - 1) true := by
  cases l with
  | nil => exact absurd rfl h
  | cons c t =>
    by_cases h1 : kd c = 1
    · have hr := run2_le t
      have e : ((c :: t).take (fcl (c :: t))) = c :: t.take (run2 t) := by simp [fcl, h1]
      have e2 : fcl (c :: t) - 1 = run2 t := by simp [fcl, h1]
      rw [e, e2]
      simp only [pairsOf, List.map_cons, List.map_map]
      have hc : pflag (c, c :: t.take (run2 t)) = false := by simp [pflag, h1]
      rw [hc]
      congr 1
      apply List.ext_getElem
      · simp; omega
      · intro i hi1 hi2
        simp only [List.getElem_map, List.getElem_replicate, Function.comp]
        have hm := run2_take t _ (List.getElem_mem (l := t.take (run2 t)) (n := i) (by simpa using hi1))
        have : 0 < run2 t := by simp at hi2; omega
        simp only [pflag, hm, decide_true, Bool.true_and, decide_eq_true_eq, List.length_cons, List.length_take]
        omega
    · have e : ((c :: t).take (fcl (c :: t))) = [c] := by simp [fcl, h1]
      have e2 : fcl (c :: t) - 1 = 0 := by simp [fcl, h1]
      rw [e, e2]
      simp [pairsOf, pflag]
theorem pairs_both : ∀ (n : Nat) (l : List UInt8), l.length ≤ n → (pairs l).map Prod.fst = l ∧ (pairs l).map pflag = flags l
  | 0, l, h => by
    have : l = [] := List.length_eq_zero_iff.1 (by omega)
    subst this; exact ⟨rfl, rfl⟩
  | n + 1, l, h => by
    by_cases hl : l = []
    · subst hl; exact ⟨rfl, rfl⟩
    · have hp := fcl_pos hl
      have ih := pairs_both n (l.drop (fcl l)) (by rw [List.length_drop]; omega)
      rw [pairs_step hl]
      constructor
      · rw [List.map_append, ih.1]
        have : (pairsOf (l.take (fcl l))).map Prod.fst = l.take (fcl l) := by rw [pairsOf, List.map_map]; exact List.map_id _
        rw [this, List.take_append_drop]
      · rw [List.map_append, ih.2, pflag_first hl, flags_step hl]
theorem pairs_fst (l : List UInt8) : (pairs l).map Prod.fst = l := (pairs_both _ l (Nat.le_refl _)).1
theorem pairs_flag (l : List UInt8) : (pairs l).map pflag = flags l := (pairs_both _ l (Nat.le_refl _)).2
theorem pairs_length (l : List UInt8) : (pairs l).length = l.length := by
  have := congrArg List.length (pairs_fst l); simpa using this
def badB (c : UInt8) (f : Bool) : Bool := decide (kd c = 0) || (decide (kd c = 2) && !f)
def badP (p : UInt8 × List UInt8) : Bool := badB p.1 (pflag p)
def accB (l : List UInt8) : Bool := !((l.zip (flags l)).any fun x => badB x.1 x.2)
theorem any_map_zip {α β γ : Type} (f : α → β) (g : α → γ) (h : β → γ → Bool) : ∀ l : List α, ((l.map f).zip (l.map g)).any (fun x => h x.1 x.2) = l.any fun a => h (f a) (g a)
  | [] => rfl
  | a :: t => by simp [any_map_zip f g h t]
theorem accB_pairs (l : List UInt8) : accB l = !((pairs l).any badP) := by
  unfold accB
  have := any_map_zip Prod.fst pflag badB (pairs l)
  rw [pairs_fst, pairs_flag] at this
  rw [this]; rfl
def chk (l : List UInt8) : Int := if 65536 < l.length then 4 else if accB l then 0 else 11
end Go.Proofs.YtmfcepfagbkceaaGreatDoor
namespace Go.Proofs.YtmfcepfagbkceaaGreatDoor
abbrev Bs := List UInt8
def ldI (c : Int) : Bool := decide (kindI c = 1) || decide (kindI c = 3)
def okW (c : UInt8) (f : Bool) : Bool := decide (kd c = 1) || decide (kd c = 3) || decide (kd c = 4) || (decide (kd c = 2) && f)
def headLd : List UInt8 → Bool
  | [] => false
  | c :: _ => ldI c.toNat
def allW (l : List UInt8) : Bool := !((l.zip (flags l)).any fun x => !okW x.1 x.2)
def wordB (l : List UInt8) : Bool := decide (0 < l.length) && decide (l.length ≤ 64) && headLd l && allW l
def ldB (c : UInt8) : Bool := ldI c.toNat
def lettersN (l : List UInt8) : Nat := (l.filter ldB).length
def nameB (l : List UInt8) : Bool := decide (0 < l.length) && decide (l.length ≤ 16) && decide (lettersN l = l.length)
def plainC (c : UInt8) : Bool := decide (c ≠ 32) && decide (c ≠ 47) && decide (c ≠ 60) && decide (c ≠ 62)
theorem plainC_kd {c : UInt8} (h : kd c ≠ 0) (h6 : kd c ≠ 6) : plainC c = true := by
  unfold plainC
  have h1 : c ≠ 32 := by rintro rfl; exact h6 (by decide)
  have h2 : c ≠ 47 := by rintro rfl; exact h (by decide)
  have h3 : c ≠ 60 := by rintro rfl; exact h (by decide)
  have h4 : c ≠ 62 := by rintro rfl; exact h (by decide)
  simp [h1, h2, h3, h4]
theorem zip_any {α β : Type} {p : α × β → Bool} : ∀ {l : List α} {m : List β}, l.length = m.length → (l.zip m).any p = false → ∀ a ∈ l, ∃ b, p (a, b) = false
  | [], _, _, _, a, ha => by cases ha
  | _ :: _, [], h, _, _, _ => by simp at h
  | x :: l, y :: m, h, hn, a, ha => by
    rw [List.zip_cons_cons, List.any_cons, Bool.or_eq_false_iff] at hn
    rcases List.mem_cons.1 ha with rfl | ha
    · exact ⟨y, hn.1⟩
    · exact zip_any (by simpa using h) hn.2 a ha
theorem word_plain {l : Bs} (h : wordB l = true) : l ≠ [] ∧ ∀ c ∈ l, plainC c = true := by
  unfold wordB allW at h
  rw [Bool.and_eq_true, Bool.and_eq_true, Bool.and_eq_true, decide_eq_true_eq, Bool.not_eq_true'] at h
  refine ⟨fun e => by rw [e] at h; simp at h, fun c hc => ?_⟩
  obtain ⟨b, hb⟩ := zip_any (by rw [flags, flagsB_length]) h.2 c hc
  have hb : okW c b = true := by simpa using hb
  unfold okW at hb
  simp only [Bool.or_eq_true, Bool.and_eq_true, decide_eq_true_eq] at hb
  refine plainC_kd (fun e => ?_) (fun e => ?_) <;> rw [e] at hb <;> simp at hb
theorem name_plain {l : Bs} (h : nameB l = true) : l ≠ [] ∧ ∀ c ∈ l, plainC c = true := by
  unfold nameB at h
  rw [Bool.and_eq_true, Bool.and_eq_true, decide_eq_true_eq, decide_eq_true_eq, decide_eq_true_eq] at h
  refine ⟨fun e => by rw [e] at h; simp at h, fun c hc => ?_⟩
  have hf : l.filter ldB = l := List.filter_sublist.eq_of_length h.2
  have hc := List.filter_eq_self.1 hf c hc
  unfold ldB ldI at hc
  have hk : kd c = 1 ∨ kd c = 3 := by simpa [kd] using hc
  exact plainC_kd (by omega) (by omega)
theorem acc_kd {l : Bs} (h : accB l = true) : ∀ c ∈ l, kd c ≠ 0 := fun c hc => by
  unfold accB at h
  rw [Bool.not_eq_true'] at h
  obtain ⟨b, hb⟩ := zip_any (by rw [flags, flagsB_length]) h c hc
  intro e
  have hb : badB c b = false := hb
  unfold badB at hb
  rw [e] at hb
  simp at hb
theorem acc_no {l : Bs} (h : accB l = true) : ∀ c ∈ l, c ≠ 60 ∧ c ≠ 62 ∧ c ≠ 47 := fun c hc => by
  have hk := acc_kd h c hc
  exact ⟨fun e => by subst e; exact hk (by decide), fun e => by subst e; exact hk (by decide), fun e => by subst e; exact hk (by decide)⟩
end Go.Proofs.YtmfcepfagbkceaaGreatDoor
namespace Go.Proofs.YtmfcepfagbkceaaGreatDoor
def tAb : Bs := [97, 98]
def tAdd : Bs := [97, 100, 100]
def tDel : Bs := [100, 101, 108]
def tGap : Bs := [103, 97, 112]
def tLb : Bs := [108, 98]
def tName : Bs := [110, 97, 109, 101]
def tPb : Bs := [112, 98]
def tSec : Bs := [115, 101, 99]
def tUn : Bs := [117, 110, 99, 108, 101, 97, 114]
def tV : Bs := [118]
def tagsL : List Bs := [tAb, tAdd, tDel, tGap, tLb, tName, tPb, tSec, tUn, tV]
def isTag (n : Bs) : Bool := tagsL.contains n
def emptyT (n : Bs) : Bool := [tLb, tV, tPb, tSec, tGap].contains n
def digC (c : UInt8) : Bool := decide (48 ≤ c.toNat) && decide (c.toNat ≤ 57)
def valN (l : Bs) : Nat := l.foldl (fun n c => 10 * n + (c.toNat - 48)) 0
def numB (most : Nat) (l : Bs) : Bool := l.all digC && decide (l.head? ≠ some 48) && decide (l.length ≤ 4) && decide (1 ≤ valN l) && decide (valN l ≤ most)
def rightB (n v : Bs) : Bool :=
  if n = tLb ∨ n = tV ∨ n = tUn then decide (v = []) else if n = tGap then numB 64 v else if n = tAdd ∨ n = tDel then numB 8 v else if n = tAb then wordB v else nameB v
structure Lx where
  k : Int
  n : Bs
  v : Bs
  o : Int
deriving DecidableEq
def bodyL (n v : Bs) : Bs := if v = [] then n else n ++ 32 :: v
def formF (k : Int) (n v : Bs) : Bs := if k = 2 then 60 :: (bodyL n v ++ [62]) else if k = 3 then 60 :: 47 :: (n ++ [62]) else if k = 4 then 60 :: (bodyL n v ++ [47, 62]) else v
def form (x : Lx) : Bs := formF x.k x.n x.v
def goodT (k : Int) (n v : Bs) : Bool :=
  (decide (k = 2) && (isTag n && !emptyT n && rightB n v)) || (decide (k = 3) && (isTag n && !emptyT n && decide (v = []))) || (decide (k = 4) && (isTag n && emptyT n && rightB n v))
theorem tag_plain {n : Bs} (h : isTag n = true) : n ≠ [] ∧ ∀ c ∈ n, plainC c = true := by
  unfold isTag tagsL at h
  simp only [List.contains_cons, List.contains_nil, Bool.or_false, Bool.or_eq_true, beq_iff_eq] at h
  rcases h with rfl | rfl | rfl | rfl | rfl | rfl | rfl | rfl | rfl | rfl <;> decide
theorem empty_tag {n : Bs} (h : emptyT n = true) : isTag n = true := by
  unfold emptyT at h
  simp only [List.contains_cons, List.contains_nil, Bool.or_false, Bool.or_eq_true, beq_iff_eq] at h
  rcases h with rfl | rfl | rfl | rfl | rfl <;> decide
theorem num_plain {m : Nat} {v : Bs} (h : numB m v = true) : v ≠ [] ∧ ∀ c ∈ v, plainC c = true := by
  unfold numB at h
  simp only [Bool.and_eq_true, decide_eq_true_eq] at h
  refine ⟨fun e => by rw [e] at h; have := h.1.2; simp [valN] at this, fun c hc => ?_⟩
  have hd := List.all_eq_true.1 h.1.1.1.1 c hc
  unfold digC at hd
  simp only [Bool.and_eq_true, decide_eq_true_eq] at hd
  unfold plainC
  have h1 : c ≠ 32 := by rintro rfl; simp at hd
  have h2 : c ≠ 47 := by rintro rfl; simp at hd
  have h3 : c ≠ 60 := by rintro rfl; simp at hd
  have h4 : c ≠ 62 := by rintro rfl; simp at hd
  simp [h1, h2, h3, h4]
theorem right_plain {n v : Bs} (h : rightB n v = true) : ∀ c ∈ v, plainC c = true := by
  unfold rightB at h
  split at h
  · have h : v = [] := by simpa using h
    subst h
    intro c hc; cases hc
  · split at h
    · exact (num_plain h).2
    · split at h
      · exact (num_plain h).2
      · split at h
        · exact (word_plain h).2
        · exact (name_plain h).2
theorem good_tag {k : Int} {n v : Bs} (h : goodT k n v = true) : (k = 2 ∨ k = 3 ∨ k = 4) ∧ isTag n = true ∧ (∀ c ∈ v, plainC c = true) ∧ (k = 3 → v = []) ∧ ((k = 4) = (emptyT n = true)) := by
  unfold goodT at h
  simp only [Bool.or_eq_true, Bool.and_eq_true, decide_eq_true_eq, Bool.not_eq_true'] at h
  rcases h with (⟨rfl, ⟨h1, h2⟩, h3⟩ | ⟨rfl, ⟨h1, h2⟩, h3⟩) | ⟨rfl, ⟨h1, h2⟩, h3⟩
  · exact ⟨.inl rfl, h1, right_plain h3, fun e => absurd e (by decide), by simp [h2]⟩
  · exact ⟨.inr (.inl rfl), h1, (fun c hc => by rw [h3] at hc; cases hc), fun _ => h3, by simp [h2]⟩
  · exact ⟨.inr (.inr rfl), h1, right_plain h3, fun e => absurd e (by decide), by simp [h2]⟩
theorem body_plain {n v : Bs} (hn : ∀ c ∈ n, plainC c = true) (hv : ∀ c ∈ v, plainC c = true) : ∀ c ∈ bodyL n v, c ≠ 60 ∧ c ≠ 62 ∧ c ≠ 47 := by
  have hp : ∀ c, plainC c = true → c ≠ 60 ∧ c ≠ 62 ∧ c ≠ 47 := fun c h => by
    unfold plainC at h
    simp only [Bool.and_eq_true, decide_eq_true_eq] at h
    exact ⟨h.1.2, h.2, h.1.1.2⟩
  intro c hc
  unfold bodyL at hc
  split at hc
  · exact hp c (hn c hc)
  · rcases List.mem_append.1 hc with hc | hc
    · exact hp c (hn c hc)
    · rcases List.mem_cons.1 hc with rfl | hc
      · decide
      · exact hp c (hv c hc)
theorem good_form {k : Int} {n v : Bs} (h : goodT k n v = true) : ∃ m, formF k n v = 60 :: (m ++ [62]) ∧ (∀ c ∈ m, c ≠ 60 ∧ c ≠ 62) ∧ m ≠ [] := by
  obtain ⟨hk, ht, hv, h3, _⟩ := good_tag h
  obtain ⟨hn0, hn⟩ := tag_plain ht
  have hb := body_plain hn hv
  have hb0 : bodyL n v ≠ [] := by
    unfold bodyL
    split
    · exact hn0
    · simp
  rcases hk with rfl | rfl | rfl
  · exact ⟨bodyL n v, rfl, fun c hc => ⟨(hb c hc).1, (hb c hc).2.1⟩, hb0⟩
  · refine ⟨47 :: n, by simp [formF], fun c hc => ?_, by simp⟩
    rcases List.mem_cons.1 hc with rfl | hc
    · decide
    · have := hn c hc
      unfold plainC at this
      simp only [Bool.and_eq_true, decide_eq_true_eq] at this
      exact ⟨this.1.2, this.2⟩
  · refine ⟨bodyL n v ++ [47], by simp [formF], fun c hc => ?_, by simp⟩
    rcases List.mem_append.1 hc with hc | hc
    · exact ⟨(hb c hc).1, (hb c hc).2.1⟩
    · have hc : c = 47 := by simpa using hc
      subst hc
      decide
def inn (p : Bs) : Bs := (p.drop 1).dropLast
def cloB (p : Bs) : Bool := decide ((inn p).head? = some 47)
def tin (p : Bs) : Bs := if cloB p then (inn p).drop 1 else inn p
def nmC (c : UInt8) : Bool := decide (c ≠ 32) && decide (c ≠ 47)
def nmOf (p : Bs) : Bs := (tin p).takeWhile nmC
def vlOf (p : Bs) : Bs := match (tin p).drop (nmOf p).length with
  | c :: r => if c = 32 then r.takeWhile (fun c => decide (c ≠ 47)) else []
  | [] => []
def kdOf (p : Bs) : Int := if cloB p then 3 else if emptyT (nmOf p) then 4 else 2
def tagR (p : Bs) : (Int × Bs × Bs) × Int :=
  if isTag (nmOf p) then (if formF (kdOf p) (nmOf p) (vlOf p) = p ∧ goodT (kdOf p) (nmOf p) (vlOf p) = true then ((kdOf p, nmOf p, vlOf p), 0) else ((0, [], []), 3)) else ((0, [], []), 12)
theorem tw_all {p : UInt8 → Bool} : ∀ (a b : Bs), (∀ c ∈ a, p c = true) → (∀ c r, b = c :: r → p c = false) → (a ++ b).takeWhile p = a
  | [], [], _, _ => rfl
  | [], c :: r, _, h => by rw [List.nil_append, List.takeWhile_cons, if_neg (by rw [h c r rfl]; decide)]
  | x :: a, b, h, h2 => by rw [List.cons_append, List.takeWhile_cons, if_pos (h x (by simp)), tw_all a b (fun c hc => h c (by simp [hc])) h2]
theorem plain_nm {c : UInt8} (h : plainC c = true) : nmC c = true := by
  unfold plainC at h
  unfold nmC
  simp only [Bool.and_eq_true, decide_eq_true_eq] at h ⊢
  exact ⟨h.1.1.1, h.1.1.2⟩
theorem plain_47 {c : UInt8} (h : plainC c = true) : c ≠ 47 := by
  unfold plainC at h
  simp only [Bool.and_eq_true, decide_eq_true_eq] at h
  exact h.1.1.2
theorem tag_read {k : Int} {n v : Bs} (hk : k = 2 ∨ k = 3 ∨ k = 4) (hn0 : n ≠ []) (hn : ∀ c ∈ n, plainC c = true) (hv : ∀ c ∈ v, plainC c = true) (h3 : k = 3 → v = []) :
    cloB (formF k n v) = decide (k = 3) ∧ nmOf (formF k n v) = n ∧ vlOf (formF k n v) = v := by
  have hnm : ∀ c ∈ n, nmC c = true := fun c hc => plain_nm (hn c hc)
  obtain ⟨c0, n', rfl⟩ := List.exists_cons_of_ne_nil hn0
  have hc0 : c0 ≠ 47 := plain_47 (hn c0 (by simp))
  have key : ∀ (t : Bs), (t = [] ∨ t = [47]) → (bodyL (c0 :: n') v ++ t).takeWhile nmC = c0 :: n' ∧ (match (bodyL (c0 :: n') v ++ t).drop (c0 :: n').length with | c :: r => if c = 32 then r.takeWhile (fun c => decide (c ≠ 47)) else [] | [] => []) = v := by
    intro t ht'
    by_cases hv0 : v = []
    · subst hv0
      rw [show bodyL (c0 :: n') [] = c0 :: n' from if_pos rfl]
      refine ⟨tw_all _ _ hnm (fun c r e => ?_), ?_⟩
      · rcases ht' with rfl | rfl
        · cases e
        · cases e; decide
      · rw [List.drop_left']
        · rcases ht' with rfl | rfl <;> simp
        · rfl
    · rw [show bodyL (c0 :: n') v = (c0 :: n') ++ 32 :: v from if_neg hv0, List.append_assoc]
      refine ⟨tw_all _ _ hnm (fun c r e => ?_), ?_⟩
      · rw [List.cons_append] at e
        cases e; decide
      · rw [List.drop_left' rfl, List.cons_append]
        show (if (32 : UInt8) = 32 then _ else _) = _
        rw [if_pos rfl]
        refine tw_all v t (fun c hc => by simpa using plain_47 (hv c hc)) (fun c r e => ?_)
        rcases ht' with rfl | rfl
        · cases e
        · cases e; decide
  have hhead : ∀ t : Bs, (bodyL (c0 :: n') v ++ t).head? = some c0 := fun t => by
    unfold bodyL
    split <;> simp
  rcases hk with rfl | rfl | rfl
  · have hi : inn (formF 2 (c0 :: n') v) = bodyL (c0 :: n') v := by simp [formF, inn]
    have hc : cloB (formF 2 (c0 :: n') v) = false := by
      unfold cloB; rw [hi]
      have := hhead []
      rw [List.append_nil] at this
      rw [this]; simp [hc0]
    have ht' : tin (formF 2 (c0 :: n') v) = bodyL (c0 :: n') v := by unfold tin; rw [hc, hi]; rfl
    have := key [] (.inl rfl)
    rw [List.append_nil] at this
    refine ⟨by rw [hc]; rfl, by unfold nmOf; rw [ht']; exact this.1, ?_⟩
    unfold vlOf nmOf
    rw [ht', this.1]; exact this.2
  · have hv0 := h3 rfl
    subst hv0
    have hi : inn (formF 3 (c0 :: n') []) = 47 :: c0 :: n' := by
      show ((60 :: 47 :: ((c0 :: n') ++ [62])).drop 1).dropLast = _
      rw [List.drop_one, List.tail_cons, ← List.cons_append, List.dropLast_concat]
    have hc : cloB (formF 3 (c0 :: n') []) = true := by unfold cloB; rw [hi]; rfl
    have ht' : tin (formF 3 (c0 :: n') []) = c0 :: n' := by unfold tin; rw [hc, hi]; rfl
    have := key [] (.inl rfl)
    rw [List.append_nil, show bodyL (c0 :: n') [] = c0 :: n' from if_pos rfl] at this
    refine ⟨by rw [hc]; rfl, by unfold nmOf; rw [ht']; exact this.1, ?_⟩
    unfold vlOf nmOf
    rw [ht', this.1]; exact this.2
  · have hi : inn (formF 4 (c0 :: n') v) = bodyL (c0 :: n') v ++ [47] := by
      show ((60 :: (bodyL (c0 :: n') v ++ [47, 62])).drop 1).dropLast = _
      rw [List.drop_one, List.tail_cons, show ([47, 62] : Bs) = [47] ++ [62] from rfl, ← List.append_assoc, List.dropLast_concat]
    have hc : cloB (formF 4 (c0 :: n') v) = false := by
      unfold cloB; rw [hi, hhead]; simp [hc0]
    have ht' : tin (formF 4 (c0 :: n') v) = bodyL (c0 :: n') v ++ [47] := by unfold tin; rw [hc, hi]; rfl
    have := key [47] (.inr rfl)
    refine ⟨by rw [hc]; rfl, by unfold nmOf; rw [ht']; exact this.1, ?_⟩
    unfold vlOf nmOf
    rw [ht', this.1]; exact this.2
theorem kd_read {k : Int} {n v : Bs} (hk : k = 2 ∨ k = 3 ∨ k = 4) (hn0 : n ≠ []) (hn : ∀ c ∈ n, plainC c = true) (hv : ∀ c ∈ v, plainC c = true) (h3 : k = 3 → v = []) :
    kdOf (formF k n v) = if k = 3 then 3 else if emptyT n then 4 else 2 := by
  obtain ⟨m1, m2, _⟩ := tag_read hk hn0 hn hv h3
  unfold kdOf
  rw [m1, m2]
  rcases hk with rfl | rfl | rfl <;> rfl
theorem tag_back {k : Int} {n v : Bs} (h : goodT k n v = true) : tagR (formF k n v) = ((k, n, v), 0) := by
  obtain ⟨hk, ht, hv, h3, h4⟩ := good_tag h
  obtain ⟨hn0, hn⟩ := tag_plain ht
  obtain ⟨m1, m2, m3⟩ := tag_read hk hn0 hn hv h3
  have hkd : kdOf (formF k n v) = k := by
    rw [kd_read hk hn0 hn hv h3]
    rcases hk with rfl | rfl | rfl
    · have : emptyT n = false := by
        rw [Bool.eq_false_iff]
        intro e
        have := h4.mpr e
        exact absurd this (by decide)
      rw [this]; rfl
    · rfl
    · have : emptyT n = true := h4.mp rfl
      rw [this]; rfl
  unfold tagR
  rw [m2, m3, hkd, if_pos ht, if_pos ⟨rfl, h⟩]
theorem tag_of {p : Bs} {x : Int × Bs × Bs} (h : tagR p = (x, 0)) : formF x.1 x.2.1 x.2.2 = p ∧ goodT x.1 x.2.1 x.2.2 = true := by
  unfold tagR at h
  split at h
  · split at h
    · rename_i h1 h2
      cases h
      exact h2
    · cases h
  · cases h
end Go.Proofs.YtmfcepfagbkceaaGreatDoor
namespace Go.Proofs.YtmfcepfagbkceaaGreatDoor
def consR (x : Lx) (r : List Lx × Int) : List Lx × Int := if r.2 = 0 then (x :: r.1, 0) else ([], r.2)
def not60 (c : UInt8) : Bool := decide (c ≠ 60)
def not62 (c : UInt8) : Bool := decide (c ≠ 62)
def scanF : Nat → Nat → Bs → List Lx × Int
  | 0, _, _ => ([], 0)
  | _ + 1, _, [] => ([], 0)
  | f + 1, o, c :: t =>
    if c = 60 then
      (if (c :: t).dropWhile not62 = [] then ([], 3)
       else if (tagR ((c :: t).takeWhile not62 ++ [62])).2 = 0 then
         consR ⟨(tagR ((c :: t).takeWhile not62 ++ [62])).1.1, (tagR ((c :: t).takeWhile not62 ++ [62])).1.2.1, (tagR ((c :: t).takeWhile not62 ++ [62])).1.2.2, o⟩
           (scanF f (o + (((c :: t).takeWhile not62).length + 1)) (((c :: t).dropWhile not62).drop 1))
       else ([], (tagR ((c :: t).takeWhile not62 ++ [62])).2))
    else if accB ((c :: t).takeWhile not60) then consR ⟨1, [], (c :: t).takeWhile not60, o⟩ (scanF f (o + ((c :: t).takeWhile not60).length) ((c :: t).dropWhile not60))
    else ([], 11)
def scanR (l : Bs) : List Lx × Int := if 65536 < l.length then ([], 4) else scanF l.length 0 l
def okX (p : Bool) (x : Lx) : Bool := if x.k = 1 then decide (x.n = []) && decide (x.v ≠ []) && accB x.v && !p else goodT x.k x.n x.v
def valB : Bool → Nat → List Lx → Bool
  | _, _, [] => true
  | p, o, x :: L => okX p x && decide (x.o = o) && valB (decide (x.k = 1)) (o + (form x).length) L
def prn (L : List Lx) : Bs := (L.map form).flatten
theorem prn_cons (x : Lx) (L : List Lx) : prn (x :: L) = form x ++ prn L := by simp [prn]
theorem prn_append (L M : List Lx) : prn (L ++ M) = prn L ++ prn M := by simp [prn]
theorem dw_all {p : UInt8 → Bool} : ∀ (a b : Bs), (∀ c ∈ a, p c = true) → (∀ c r, b = c :: r → p c = false) → (a ++ b).dropWhile p = b
  | [], [], _, _ => rfl
  | [], c :: r, _, h => by rw [List.nil_append, List.dropWhile_cons, if_neg (by rw [h c r rfl]; decide)]
  | x :: a, b, h, h2 => by rw [List.cons_append, List.dropWhile_cons, if_pos (h x (by simp)), dw_all a b (fun c hc => h c (by simp [hc])) h2]
theorem form_one {x : Lx} (h : x.k = 1) : form x = x.v := by unfold form formF; rw [h]; rfl
theorem ok_text {p : Bool} {x : Lx} (h : okX p x = true) (hk : x.k = 1) : x.n = [] ∧ x.v ≠ [] ∧ accB x.v = true ∧ p = false := by
  unfold okX at h
  rw [if_pos hk] at h
  simp only [Bool.and_eq_true, decide_eq_true_eq, Bool.not_eq_true'] at h
  exact ⟨h.1.1.1, h.1.1.2, h.1.2, h.2⟩
theorem ok_tag {p : Bool} {x : Lx} (h : okX p x = true) (hk : x.k ≠ 1) : goodT x.k x.n x.v = true := by
  unfold okX at h
  rwa [if_neg hk] at h
theorem ok_len {p : Bool} {x : Lx} (h : okX p x = true) : 0 < (form x).length := by
  by_cases hk : x.k = 1
  · rw [form_one hk]
    exact List.length_pos_iff.2 (ok_text h hk).2.1
  · obtain ⟨m, h1, _⟩ := good_form (ok_tag h hk)
    unfold form
    rw [h1]; simp
theorem val_head {o : Nat} {L : List Lx} (h : valB true o L = true) : prn L = [] ∨ ∃ r, prn L = 60 :: r := by
  cases L with
  | nil => exact .inl rfl
  | cons x L =>
    unfold valB at h
    rw [Bool.and_eq_true, Bool.and_eq_true] at h
    right
    by_cases hk : x.k = 1
    · have := (ok_text h.1.1 hk).2.2.2
      cases this
    · obtain ⟨m, h1, _⟩ := good_form (ok_tag h.1.1 hk)
      refine ⟨m ++ [62] ++ prn L, ?_⟩
      rw [prn_cons]
      unfold form
      rw [h1]; simp
theorem cut_tag {m r : Bs} (h : ∀ c ∈ m, c ≠ 60 ∧ c ≠ 62) : (60 :: (m ++ [62]) ++ r).takeWhile not62 = 60 :: m ∧ (60 :: (m ++ [62]) ++ r).dropWhile not62 = 62 :: r := by
  have e : 60 :: (m ++ [62]) ++ r = (60 :: m) ++ (62 :: r) := by simp
  have h1 : ∀ c ∈ (60 :: m : Bs), not62 c = true := fun c hc => by
    rcases List.mem_cons.1 hc with rfl | hc
    · decide
    · unfold not62; simpa using (h c hc).2
  have h2 : ∀ c r', (62 :: r : Bs) = c :: r' → not62 c = false := fun c r' e => by cases e; decide
  rw [e]
  exact ⟨tw_all _ _ h1 h2, dw_all _ _ h1 h2⟩
theorem scan_prn : ∀ (L : List Lx) (p : Bool) (o f : Nat), valB p o L = true → (prn L).length ≤ f → scanF f o (prn L) = (L, 0)
  | [], _, _, 0, _, _ => rfl
  | [], _, _, _ + 1, _, _ => rfl
  | x :: L, p, o, f, h, hf => by
    unfold valB at h
    rw [Bool.and_eq_true, Bool.and_eq_true, decide_eq_true_eq] at h
    obtain ⟨⟨hx, ho⟩, hL⟩ := h
    have hlen := ok_len hx
    rw [prn_cons, List.length_append] at hf
    obtain ⟨f, rfl⟩ : ∃ g, f = g + 1 := ⟨f - 1, by omega⟩
    have ih := scan_prn L _ _ f hL (by omega)
    obtain ⟨k, n, v, o'⟩ := x
    simp only at ho
    subst ho
    rw [prn_cons]
    by_cases hk : k = 1
    · subst hk
      obtain ⟨hn, hv, ha, _⟩ := ok_text hx rfl
      simp only at hn hv ha
      subst hn
      rw [form_one rfl] at ih ⊢
      simp only at ih ⊢
      have hno : ∀ c ∈ v, not60 c = true := fun c hc => by unfold not60; simpa using (acc_no ha c hc).1
      have hnx : ∀ c r, prn L = c :: r → not60 c = false := fun c r e => by
        rcases val_head hL with h | ⟨r', h⟩
        · rw [h] at e; cases e
        · rw [h] at e; cases e; decide
      have h1 := tw_all v (prn L) hno hnx
      have h2 := dw_all v (prn L) hno hnx
      obtain ⟨c, t, rfl⟩ := List.exists_cons_of_ne_nil hv
      have hc : c ≠ 60 := by have := hno c (by simp); unfold not60 at this; simpa using this
      rw [List.cons_append] at h1 h2 ⊢
      rw [scanF, if_neg hc, h1, h2, if_pos ha, ih]
      rfl
    · have hg := ok_tag hx hk
      simp only at hg
      obtain ⟨m, hm, hmm, _⟩ := good_form hg
      have hb := tag_back hg
      have hfm : form ⟨k, n, v, (o : Int)⟩ = formF k n v := rfl
      rw [hfm] at ih ⊢
      rw [hm] at hb ih ⊢
      obtain ⟨h1, h2⟩ := cut_tag (r := prn L) hmm
      rw [List.cons_append] at h1 h2 ⊢
      have e1 : (60 :: m : Bs) ++ [62] = 60 :: (m ++ [62]) := rfl
      rw [scanF, if_pos rfl, h1, h2, if_neg (by simp), e1, hb, if_pos rfl]
      rw [List.drop_one, List.tail_cons]
      have e2 : o + ((60 :: m : Bs).length + 1) = o + (60 :: (m ++ [62]) : Bs).length := by simp
      rw [e2, ih]
      rfl
theorem cons_zero {x : Lx} {r : List Lx × Int} {L : List Lx} (h : consR x r = (L, 0)) : ∃ M, L = x :: M ∧ r = (M, 0) := by
  obtain ⟨M, e⟩ := r
  unfold consR at h
  split at h
  · rename_i h0
    simp only at h0
    subst h0
    cases h
    exact ⟨M, rfl, rfl⟩
  · rename_i h0
    cases h
    exact absurd rfl h0
theorem dw_head {p : UInt8 → Bool} : ∀ (l : Bs) {c : UInt8} {r : Bs}, l.dropWhile p = c :: r → p c = false
  | [], _, _, h => by cases h
  | x :: l, c, r, h => by
    rw [List.dropWhile_cons] at h
    split at h
    · exact dw_head l h
    · rename_i hx
      cases h
      simpa using hx
theorem tw_mem {p : UInt8 → Bool} : ∀ (l : Bs), ∀ c ∈ l.takeWhile p, p c = true
  | [], _, h => by cases h
  | x :: l, c, h => by
    rw [List.takeWhile_cons] at h
    split at h
    · rcases List.mem_cons.1 h with rfl | h
      · assumption
      · exact tw_mem l c h
    · cases h
theorem scan_val : ∀ (f o : Nat) (l : Bs) (L : List Lx) (p : Bool), l.length ≤ f → scanF f o l = (L, 0) → (p = true → l = [] ∨ ∃ r, l = 60 :: r) → valB p o L = true ∧ prn L = l
  | 0, _, l, L, _, hf, h, _ => by
    have : l = [] := List.length_eq_zero_iff.1 (by omega)
    subst this
    cases h
    exact ⟨rfl, rfl⟩
  | f + 1, _, [], L, _, _, h, _ => by
    cases h
    exact ⟨rfl, rfl⟩
  | f + 1, o, c :: t, L, p, hf, h, hp => by
    rw [scanF] at h
    by_cases hc : c = 60
    · subst hc
      rw [if_pos rfl] at h
      by_cases hd : (60 :: t : Bs).dropWhile not62 = []
      · rw [if_pos hd] at h
        cases h
      · rw [if_neg hd] at h
        obtain ⟨d, r, hdr⟩ := List.exists_cons_of_ne_nil hd
        have hd62 : d = 62 := by have := dw_head _ hdr; unfold not62 at this; simpa using this
        subst hd62
        have hsp := List.takeWhile_append_dropWhile (p := not62) (l := (60 :: t : Bs))
        rw [hdr] at hsp
        by_cases ht : (tagR ((60 :: t : Bs).takeWhile not62 ++ [62])).2 = 0
        · rw [if_pos ht] at h
          obtain ⟨M, rfl, hM⟩ := cons_zero h
          have hx := tag_of (p := (60 :: t : Bs).takeWhile not62 ++ [62]) (x := (tagR ((60 :: t : Bs).takeWhile not62 ++ [62])).1) (by rw [← ht])
          rw [hdr, List.drop_one, List.tail_cons] at hM
          generalize hA : (60 :: t : Bs).takeWhile not62 = A at *
          generalize hX : tagR (A ++ [62]) = X at *
          obtain ⟨⟨k, n, v⟩, e⟩ := X
          simp only at ht hx hM
          have hrl : r.length ≤ f := by
            have := congrArg List.length hsp
            rw [List.length_append, List.length_cons, List.length_cons] at this
            rw [List.length_cons] at hf
            omega
          obtain ⟨hv, hpr⟩ := scan_val f _ r M false hrl hM (fun e => by cases e)
          have hk1 : k ≠ 1 := fun e => by
            obtain ⟨hk, _⟩ := good_tag hx.2
            omega
          have hfl : (form ⟨k, n, v, (o : Int)⟩).length = A.length + 1 := by
            show (formF k n v).length = _
            rw [hx.1]; simp
          refine ⟨?_, ?_⟩
          · rw [valB, hfl]
            rw [show okX p ⟨k, n, v, (o : Int)⟩ = true from by unfold okX; rw [if_neg hk1]; exact hx.2]
            rw [decide_eq_false hk1, hv]; simp
          · rw [prn_cons, hpr]
            show formF k n v ++ r = _
            rw [hx.1, ← hsp]; simp
        · rw [if_neg ht] at h
          have : (tagR ((60 :: t : Bs).takeWhile not62 ++ [62])).2 = 0 := congrArg Prod.snd h
          exact absurd this ht
    · rw [if_neg hc] at h
      have hp0 : p = false := by
        cases p with
        | false => rfl
        | true =>
          rcases hp rfl with h | ⟨r, h⟩
          · cases h
          · cases h; exact absurd rfl hc
      subst hp0
      by_cases ha : accB ((c :: t).takeWhile not60) = true
      · rw [if_pos ha] at h
        obtain ⟨M, rfl, hM⟩ := cons_zero h
        have hsp := List.takeWhile_append_dropWhile (p := not60) (l := c :: t)
        have hne : (c :: t).takeWhile not60 ≠ [] := by
          rw [List.takeWhile_cons, if_pos (by unfold not60; simpa using hc)]
          simp
        have hd : (c :: t).dropWhile not60 = [] ∨ ∃ r, (c :: t).dropWhile not60 = 60 :: r := by
          generalize hD : (c :: t).dropWhile not60 = D
          cases D with
          | nil => exact .inl rfl
          | cons d r =>
            have := dw_head _ hD
            unfold not60 at this
            have : d = 60 := by simpa using this
            subst this
            exact .inr ⟨r, rfl⟩
        generalize hA : (c :: t).takeWhile not60 = A at *
        generalize hD : (c :: t).dropWhile not60 = D at *
        have hAl := List.length_pos_iff.2 hne
        have hrl : D.length ≤ f := by
          have := congrArg List.length hsp
          rw [List.length_append] at this
          omega
        obtain ⟨hv, hpr⟩ := scan_val f _ D M true hrl hM (fun _ => hd)
        refine ⟨?_, ?_⟩
        · rw [valB, form_one rfl]
          rw [show okX false ⟨1, [], A, (o : Int)⟩ = true from by unfold okX; rw [if_pos rfl]; simp [hne, ha]]
          simp only [decide_true, Bool.true_and]
          exact hv
        · rw [prn_cons, hpr, form_one rfl, ← hsp]
      · rw [if_neg ha] at h
        cases h
theorem scan_iff {l : Bs} {L : List Lx} : scanR l = (L, 0) ↔ l.length ≤ 65536 ∧ valB false 0 L = true ∧ prn L = l := by
  unfold scanR
  by_cases h : 65536 < l.length
  · rw [if_pos h]
    constructor
    · intro e; cases e
    · intro e; omega
  · rw [if_neg h]
    constructor
    · intro e
      obtain ⟨h1, h2⟩ := scan_val _ _ _ _ false (Nat.le_refl _) e (fun e => by cases e)
      exact ⟨by omega, h1, h2⟩
    · rintro ⟨_, h1, h2⟩
      have := scan_prn L false 0 l.length h1 (by rw [h2]; exact Nat.le_refl _)
      rwa [h2] at this
theorem scanF_err : ∀ (f o : Nat) (l : Bs), (scanF f o l).2 ≠ 0 → (scanF f o l).1 = []
  | 0, _, _, h => absurd rfl h
  | _ + 1, _, [], h => absurd rfl h
  | f + 1, o, c :: t, h => by
    rw [scanF] at h ⊢
    have hc : ∀ x (r : List Lx × Int), (consR x r).2 ≠ 0 → (consR x r).1 = [] := fun x r h => by
      unfold consR at h ⊢
      split
      · rename_i h0
        rw [if_pos h0] at h
        exact absurd rfl h
      · rfl
    split
    · split
      · rfl
      · split
        · rename_i h1 h2 h3
          rw [if_pos h1, if_neg h2, if_pos h3] at h
          exact hc _ _ h
        · rfl
    · split
      · rename_i h1 h2
        rw [if_neg h1, if_pos h2] at h
        exact hc _ _ h
      · rfl
theorem scan_err (l : Bs) (h : (scanR l).2 ≠ 0) : (scanR l).1 = [] := by
  unfold scanR at h ⊢
  split
  · rfl
  · rename_i h1
    rw [if_neg h1] at h
    exact scanF_err _ _ _ h
end Go.Proofs.YtmfcepfagbkceaaGreatDoor
namespace Go.Proofs.YtmfcepfagbkceaaGreatDoor
def errX (p : Bool) (o : Nat) (x : Lx) : Int :=
  if x.k < 1 ∨ 4 < x.k then 8
  else if x.k = 1 then
    (if x.n ≠ [] then 12 else if x.v = [] then 5 else if chk x.v ≠ 0 then 11 else if p then 10 else if x.o ≠ o then 9 else 0)
  else
    (if isTag x.n = false ∨ (decide (x.k = 4)) ≠ emptyT x.n then 12
     else if x.k = 3 then (if x.v ≠ [] then 3 else if x.o ≠ o then 9 else 0)
     else (if rightB x.n x.v = false then 3 else if x.o ≠ o then 9 else 0))
def chkF : Bool → Nat → List Lx → Int
  | _, o, [] => if 65536 < o then 4 else 0
  | p, o, x :: L => if errX p o x ≠ 0 then errX p o x else chkF (decide (x.k = 1)) (o + (form x).length) L
def chkR (L : List Lx) : Int := chkF false 0 L
theorem chk_nil {v : Bs} : chk v = 0 ↔ v.length ≤ 65536 ∧ accB v = true := by
  unfold chk
  split
  · constructor
    · intro h; cases h
    · intro h; omega
  · split
    · rename_i h1 h2
      exact ⟨fun _ => ⟨by omega, h2⟩, fun _ => rfl⟩
    · rename_i h1 h2
      constructor
      · intro h; cases h
      · intro h; exact absurd h.2 h2
theorem err_zero {p : Bool} {o : Nat} {x : Lx} : errX p o x = 0 ↔ okX p x = true ∧ x.o = o ∧ (x.k = 1 → x.v.length ≤ 65536) := by
  unfold errX okX goodT
  by_cases h0 : x.k < 1 ∨ 4 < x.k
  · rw [if_pos h0]
    constructor
    · intro h; cases h
    · rintro ⟨h, _⟩
      rw [if_neg (by omega)] at h
      simp only [Bool.or_eq_true, Bool.and_eq_true, decide_eq_true_eq] at h
      omega
  · rw [if_neg h0]
    by_cases h1 : x.k = 1
    · rw [if_pos h1, if_pos h1]
      by_cases a1 : x.n = []
      · by_cases a2 : x.v = []
        · simp [a1, a2]
        · by_cases a3 : chk x.v = 0
          · obtain ⟨a4, a5⟩ := chk_nil.1 a3
            cases p
            · by_cases a6 : x.o = o
              · simp [a1, a2, a3, a4, a5, a6]
              · simp [a1, a2, a3, a6]
            · simp [a1, a2, a3]
          · have : ¬ (x.v.length ≤ 65536 ∧ accB x.v = true) := fun h => a3 (chk_nil.2 h)
            simp only [a1, a2, a3, ne_eq, not_true_eq_false, not_false_eq_true, if_true, if_false, decide_true, Bool.true_and, Bool.and_eq_true]
            constructor
            · intro h; cases h
            · rintro ⟨⟨h, _⟩, _, h2⟩
              exact absurd ⟨h2 h1, h⟩ this
      · simp [a1]
    · rw [if_neg h1, if_neg h1]
      rcases (show x.k = 2 ∨ x.k = 3 ∨ x.k = 4 by omega) with hk | hk | hk
      · rw [hk]
        cases a1 : isTag x.n <;> cases a2 : emptyT x.n <;> cases a3 : rightB x.n x.v <;> by_cases a4 : x.o = o <;> simp [a4]
      · rw [hk]
        cases a1 : isTag x.n <;> cases a2 : emptyT x.n <;> by_cases a3 : x.v = [] <;> by_cases a4 : x.o = o <;> simp [a3, a4]
      · rw [hk]
        cases a1 : isTag x.n <;> cases a2 : emptyT x.n <;> cases a3 : rightB x.n x.v <;> by_cases a4 : x.o = o <;> simp [a4]
theorem chkF_zero : ∀ (L : List Lx) (p : Bool) (o : Nat), chkF p o L = 0 ↔ valB p o L = true ∧ o + (prn L).length ≤ 65536
  | [], p, o => by
    unfold chkF valB
    split
    · constructor
      · intro h; cases h
      · rintro ⟨_, h⟩; simp [prn] at h; omega
    · exact ⟨fun _ => ⟨rfl, by simp [prn]; omega⟩, fun _ => rfl⟩
  | x :: L, p, o => by
    have ih := chkF_zero L (decide (x.k = 1)) (o + (form x).length)
    rw [chkF, valB, prn_cons, List.length_append]
    by_cases he : errX p o x = 0
    · obtain ⟨h1, h2, h3⟩ := err_zero.1 he
      rw [if_neg (by rw [he]; decide), ih, h1, decide_eq_true h2]
      simp only [Bool.true_and]
      rw [Nat.add_assoc]
    · rw [if_pos he]
      constructor
      · intro h; exact absurd h he
      · rintro ⟨h, hl⟩
        rw [Bool.and_eq_true, Bool.and_eq_true, decide_eq_true_eq] at h
        refine absurd (err_zero.2 ⟨h.1.1, h.1.2, fun hk => ?_⟩) he
        rw [form_one hk] at hl
        omega
theorem chk_iff {L : List Lx} : chkR L = 0 ↔ valB false 0 L = true ∧ (prn L).length ≤ 65536 := by
  have := chkF_zero L false 0
  rw [Nat.zero_add] at this
  exact this
def printR (L : List Lx) : Bs × Int := if chkR L = 0 then (prn L, 0) else ([], 1)
theorem form_shift (d : Int) (x : Lx) : form { x with o := d } = form x := rfl
def lastT (p : Bool) : List Lx → Bool
  | [] => p
  | x :: L => lastT (decide (x.k = 1)) L
def strp (L : List Lx) : Bs := (L.map fun x => if x.k = 1 then x.v else []).flatten
def stripR (s : Bs) : Bs × Int := (strp (scanR s).1, (scanR s).2)
theorem strp_append (A B : List Lx) : strp (A ++ B) = strp A ++ strp B := by simp [strp]
theorem strp_kd : ∀ (L : List Lx) (p : Bool) (o : Nat), valB p o L = true → (∀ c ∈ strp L, kd c ≠ 0) ∧ (strp L).length ≤ (prn L).length
  | [], _, _, _ => ⟨fun c hc => by simp [strp] at hc, Nat.le_refl _⟩
  | x :: L, p, o, h => by
    rw [valB, Bool.and_eq_true, Bool.and_eq_true] at h
    obtain ⟨i1, i2⟩ := strp_kd L _ _ h.2
    have e : strp (x :: L) = (if x.k = 1 then x.v else []) ++ strp L := by simp [strp]
    rw [e, prn_cons, List.length_append, List.length_append]
    by_cases hk : x.k = 1
    · rw [if_pos hk, form_one hk]
      refine ⟨fun c hc => ?_, by omega⟩
      rcases List.mem_append.1 hc with hc | hc
      · exact acc_kd (ok_text h.1.1 hk).2.2.1 c hc
      · exact i1 c hc
    · rw [if_neg hk]
      refine ⟨fun c hc => i1 c (by simpa using hc), by simp; omega⟩
end Go.Proofs.YtmfcepfagbkceaaGreatDoor
namespace Go.Proofs.YtmfcepfagbkceaaGreatDoor
def runS : List Bs → List Lx → Int × List Bs
  | st, [] => (0, st)
  | st, x :: L =>
    if x.k = 2 then (if 16 < st.length + 1 then (4, []) else runS (x.n :: st) L)
    else if x.k = 3 then (match st with
      | [] => (12, [])
      | t :: st' => if t = x.n then runS st' L else (12, []))
    else runS st L
def nestF (st : List Bs) (L : List Lx) : Int := if (runS st L).1 = 0 then (if (runS st L).2 = [] then 0 else 12) else (runS st L).1
def nestR (L : List Lx) : Int := if chkR L = 0 then nestF [] L else 1
theorem runS_cons (st : List Bs) (x : Lx) (L : List Lx) : runS st (x :: L) =
    if x.k = 2 then (if 16 < st.length + 1 then (4, []) else runS (x.n :: st) L)
    else if x.k = 3 then (match st with
      | [] => (12, [])
      | t :: st' => if t = x.n then runS st' L else (12, []))
    else runS st L := by rw [runS.eq_def]
theorem runS_append : ∀ (A B : List Lx) (st : List Bs), runS st (A ++ B) = if (runS st A).1 = 0 then runS (runS st A).2 B else runS st A
  | [], B, st => by simp [runS]
  | x :: A, B, st => by
    rw [List.cons_append, runS_cons, runS_cons]
    split
    · split
      · simp
      · exact runS_append A B _
    · split
      · split
        · simp
        · split
          · exact runS_append A B _
          · simp
      · exact runS_append A B _
theorem nest_zero {L : List Lx} : nestF [] L = 0 ↔ runS [] L = (0, []) := by
  unfold nestF
  constructor
  · intro h
    by_cases h1 : (runS [] L).1 = 0
    · rw [if_pos h1] at h
      by_cases h2 : (runS [] L).2 = []
      · exact Prod.ext h1 h2
      · rw [if_neg h2] at h
        cases h
    · rw [if_neg h1] at h
      exact absurd h h1
  · intro h
    rw [h]; rfl
def stepD (d : Int) (x : Lx) : Int := if x.k = 2 then d + 1 else if x.k = 3 then d - 1 else d
def hi (d : Int) : List Lx → Int
  | [] => d
  | x :: L => max d (hi (stepD d x) L)
def lenX (x : Lx) : Nat := x.n.length + x.v.length + (if x.k = 1 then 0 else 2 + (if x.v = [] then 0 else 1) + (if x.k = 2 then 0 else 1))
def reAt : Nat → List Lx → List Lx
  | _, [] => []
  | o, x :: L => { x with o := o } :: reAt (o + lenX x) L
def okL : Bool → List Lx → Bool
  | _, [] => true
  | p, x :: L => okX p x && okL (decide (x.k = 1)) L
theorem len_form {p : Bool} {x : Lx} (h : okX p x = true) : lenX x = (form x).length := by
  unfold lenX
  by_cases hk : x.k = 1
  · rw [form_one hk, if_pos hk, (ok_text h hk).1]; simp
  · have hg := ok_tag h hk
    obtain ⟨h1, _, _, h3, _⟩ := good_tag hg
    rw [if_neg hk]
    unfold form formF bodyL
    rcases h1 with h1 | h1 | h1
    · rw [h1]
      by_cases hv : x.v = []
      · simp [hv] <;> omega
      · simp [hv] <;> omega
    · have hv := h3 h1
      rw [h1, hv]
      simp <;> omega
    · rw [h1]
      by_cases hv : x.v = []
      · simp [hv] <;> omega
      · simp [hv] <;> omega
theorem okX_o (p : Bool) (x : Lx) (d : Int) : okX p { x with o := d } = okX p x := rfl
theorem val_okL : ∀ (L : List Lx) (p : Bool) (o : Nat), valB p o L = true → okL p L = true
  | [], _, _, _ => rfl
  | x :: L, p, o, h => by
    rw [valB, Bool.and_eq_true, Bool.and_eq_true] at h
    rw [okL, Bool.and_eq_true]
    exact ⟨h.1.1, val_okL L _ _ h.2⟩
theorem okL_val : ∀ (L : List Lx) (p : Bool) (o : Nat), okL p L = true → valB p o (reAt o L) = true ∧ prn (reAt o L) = prn L
  | [], _, _, _ => ⟨rfl, rfl⟩
  | x :: L, p, o, h => by
    rw [okL, Bool.and_eq_true] at h
    obtain ⟨h1, h2⟩ := okL_val L _ (o + lenX x) h.2
    rw [reAt, valB, prn_cons, prn_cons, form_shift, h2]
    refine ⟨?_, rfl⟩
    rw [okX_o, h.1, ← len_form h.1, h1]
    simp
theorem reAt_kn : ∀ (L : List Lx) (o : Nat) (st : List Bs), runS st (reAt o L) = runS st L
  | [], _, _ => rfl
  | x :: L, o, st => by
    rw [reAt, runS_cons, runS_cons]
    simp only [reAt_kn L]
theorem nest_reAt (L : List Lx) (o : Nat) : nestF [] (reAt o L) = nestF [] L := by unfold nestF; rw [reAt_kn]
end Go.Proofs.YtmfcepfagbkceaaGreatDoor
