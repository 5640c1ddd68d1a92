/- Plain mathematics of layer 1: kinds of bytes, marks that stand right, clusters. Nothing here speaks of the program. -/
namespace Go.Proofs.YtdgihkgomfpmoaaGreatDoor
set_option linter.unusedSimpArgs false
set_option linter.unusedVariables false

/-- the kind of a byte -/
def kindI (c : Int) : Int :=
  if (97 ≤ c ∧ c ≤ 122) ∨ (65 ≤ c ∧ c ≤ 90) then 1
  else if 48 ≤ c ∧ c ≤ 57 then 3
  else if c = 94 ∨ c = 126 ∨ c = 37 then 2
  else if c = 39 then 4
  else if c = 46 ∨ c = 44 ∨ c = 59 ∨ c = 58 ∨ c = 33 ∨ c = 63 ∨ c = 40 ∨ c = 41 ∨ c = 45 then 5
  else if c = 32 then 6
  else 0
def kd (c : UInt8) : Int := kindI c.toNat
theorem kindI_bd (c : Int) : 0 ≤ kindI c ∧ kindI c ≤ 6 := by unfold kindI; omega

/-- how many marks a list begins with -/
def run2 : List UInt8 → Nat
  | [] => 0
  | c :: t => if kd c = 2 then run2 t + 1 else 0
theorem run2_le : ∀ l, run2 l ≤ l.length
  | [] => Nat.le_refl _
  | c :: t => by have := run2_le t; simp only [run2, List.length_cons]; split <;> omega
/-- the length of the first cluster -/
def fcl : List UInt8 → Nat
  | [] => 0
  | c :: t => if kd c = 1 then run2 t + 1 else 1
theorem fcl_le (l : List UInt8) : fcl l ≤ l.length := by
  cases l with
  | nil => simp [fcl]
  | cons c t => have := run2_le t; simp only [fcl, List.length_cons]; split <;> omega
theorem fcl_pos {l : List UInt8} (h : l ≠ []) : 0 < fcl l := by
  cases l with
  | nil => exact absurd rfl h
  | cons c t => simp only [fcl]; split <;> omega

def clusN : Nat → List UInt8 → List (List UInt8)
  | 0, _ => []
  | _, [] => []
  | n + 1, c :: t => (c :: t).take (fcl (c :: t)) :: clusN n ((c :: t).drop (fcl (c :: t)))
def clus (l : List UInt8) : List (List UInt8) := clusN l.length l
theorem clusN_enough : ∀ (n m : Nat) (l : List UInt8), l.length ≤ n → l.length ≤ m → clusN n l = clusN m l
  | 0, m, l, hn, _ => by
    have : l = [] := List.length_eq_zero_iff.1 (by omega)
    subst this; cases m <;> rfl
  | n + 1, 0, l, _, hm => by
    have : l = [] := List.length_eq_zero_iff.1 (by omega)
    subst this; rfl
  | n + 1, m + 1, [], _, _ => rfl
  | n + 1, m + 1, c :: t, hn, hm => by
    have hp := fcl_pos (l := c :: t) (by simp)
    have hl : ((c :: t).drop (fcl (c :: t))).length = (c :: t).length - fcl (c :: t) := List.length_drop
    simp only [clusN]
    rw [clusN_enough n m _ (by rw [hl]; omega) (by rw [hl]; omega)]
theorem clus_nil : clus [] = [] := rfl
theorem clus_step {l : List UInt8} (h : l ≠ []) : clus l = l.take (fcl l) :: clus (l.drop (fcl l)) := by
  cases l with
  | nil => exact absurd rfl h
  | cons c t =>
    have hp := fcl_pos (l := c :: t) (by simp)
    have hl : ((c :: t).drop (fcl (c :: t))).length = (c :: t).length - fcl (c :: t) := List.length_drop
    show clusN (t.length + 1) (c :: t) = _
    simp only [clusN, clus]
    rw [clusN_enough _ ((c :: t).drop (fcl (c :: t))).length _ (by rw [hl]; simp only [List.length_cons]; omega) (Nat.le_refl _)]

/-- each byte with the cluster to which it belongs -/
def pairsOf (cl : List UInt8) : List (UInt8 × List UInt8) := cl.map fun c => (c, cl)
def pairs (l : List UInt8) : List (UInt8 × List UInt8) := (clus l).flatMap pairsOf
theorem pairs_nil : pairs [] = [] := rfl
theorem pairs_step {l : List UInt8} (h : l ≠ []) : pairs l = pairsOf (l.take (fcl l)) ++ pairs (l.drop (fcl l)) := by
  unfold pairs; rw [clus_step h]; simp

/-- is the pair's byte a mark that stands right -/
def pflag (p : UInt8 × List UInt8) : Bool := decide (kd p.1 = 2) && decide (1 < p.2.length)

/-- for each byte: is it a mark that stands right; b: the byte before is a letter, or a mark that stands right -/
def flagsB : Bool → List UInt8 → List Bool
  | _, [] => []
  | b, c :: t => (decide (kd c = 2) && b) :: flagsB (decide (kd c = 1) || (decide (kd c = 2) && b)) t
def flags (l : List UInt8) : List Bool := flagsB false l
theorem flagsB_length : ∀ (b : Bool) (l : List UInt8), (flagsB b l).length = l.length
  | _, [] => rfl
  | b, c :: t => by simp [flagsB, flagsB_length _ t]

theorem flagsB_run : ∀ (l : List UInt8), flagsB true l = List.replicate (run2 l) true ++ flagsB false (l.drop (run2 l))
  | [] => rfl
  | c :: t => by
    by_cases h : kd c = 2
    · have h1 : ¬ kd c = 1 := by omega
      have ih := flagsB_run t
      simp only [flagsB, run2, h, if_true, decide_true, Bool.true_and, Bool.or_true, List.replicate_succ, List.drop_succ_cons, List.cons_append, ih]
    · simp only [flagsB, run2, h, if_false, decide_false, Bool.false_and, Bool.or_false, List.replicate_zero, List.nil_append, List.drop_zero]

theorem flags_step {l : List UInt8} (h : l ≠ []) : flags l = (false :: List.replicate (fcl l - 1) true) ++ flags (l.drop (fcl l)) := by
  cases l with
  | nil => exact absurd rfl h
  | cons c t =>
    by_cases h1 : kd c = 1
    · simp only [flags, flagsB, fcl, h1, if_true, decide_true, Bool.true_or, Bool.and_false, Nat.add_sub_cancel, List.drop_succ_cons, List.cons_append, flagsB_run t]
    · simp only [flags, flagsB, fcl, h1, if_false, decide_false, Bool.false_or, Bool.and_false, Nat.sub_self, List.replicate_zero, List.cons_append, List.nil_append, List.drop_succ_cons, List.drop_zero]

theorem run2_take : ∀ (l : List UInt8), ∀ x ∈ l.take (run2 l), kd x = 2
  | [], _, h => by simp at h
  | c :: t, x, h => by
    by_cases hc : kd c = 2
    · simp only [run2, hc, if_true, List.take_succ_cons, List.mem_cons] at h
      rcases h with rfl | h
      · exact hc
      · exact run2_take t x h
    · simp [run2, hc] at h

theorem pflag_first {l : List UInt8} (h : l ≠ []) : (pairsOf (l.take (fcl l))).map pflag = false :: List.replicate (fcl l - 1) true := by
  cases l with
  | nil => exact absurd rfl h
  | cons c t =>
    by_cases h1 : kd c = 1
    · have hr := run2_le t
      have e : ((c :: t).take (fcl (c :: t))) = c :: t.take (run2 t) := by simp [fcl, h1]
      have e2 : fcl (c :: t) - 1 = run2 t := by simp [fcl, h1]
      rw [e, e2]
      simp only [pairsOf, List.map_cons, List.map_map]
      have hc : pflag (c, c :: t.take (run2 t)) = false := by simp [pflag, h1]
      rw [hc]
      congr 1
      apply List.ext_getElem
      · simp; omega
      · intro i hi1 hi2
        simp only [List.getElem_map, List.getElem_replicate, Function.comp]
        have hm := run2_take t _ (List.getElem_mem (l := t.take (run2 t)) (n := i) (by simpa using hi1))
        have : 0 < run2 t := by simp at hi2; omega
        simp only [pflag, hm, decide_true, Bool.true_and, decide_eq_true_eq, List.length_cons, List.length_take]
        omega
    · have e : ((c :: t).take (fcl (c :: t))) = [c] := by simp [fcl, h1]
      have e2 : fcl (c :: t) - 1 = 0 := by simp [fcl, h1]
      rw [e, e2]
      simp [pairsOf, pflag]

theorem pairs_both : ∀ (n : Nat) (l : List UInt8), l.length ≤ n → (pairs l).map Prod.fst = l ∧ (pairs l).map pflag = flags l
  | 0, l, h => by
    have : l = [] := List.length_eq_zero_iff.1 (by omega)
    subst this; exact ⟨rfl, rfl⟩
  | n + 1, l, h => by
    by_cases hl : l = []
    · subst hl; exact ⟨rfl, rfl⟩
    · have hp := fcl_pos hl
      have ih := pairs_both n (l.drop (fcl l)) (by rw [List.length_drop]; omega)
      rw [pairs_step hl]
      constructor
      · rw [List.map_append, ih.1]
        have : (pairsOf (l.take (fcl l))).map Prod.fst = l.take (fcl l) := by rw [pairsOf, List.map_map]; exact List.map_id _
        rw [this, List.take_append_drop]
      · rw [List.map_append, ih.2, pflag_first hl, flags_step hl]
theorem pairs_fst (l : List UInt8) : (pairs l).map Prod.fst = l := (pairs_both _ l (Nat.le_refl _)).1
theorem pairs_flag (l : List UInt8) : (pairs l).map pflag = flags l := (pairs_both _ l (Nat.le_refl _)).2
theorem pairs_length (l : List UInt8) : (pairs l).length = l.length := by
  have := congrArg List.length (pairs_fst l); simpa using this

/-- is a byte, with its flag, not accepted -/
def badB (c : UInt8) (f : Bool) : Bool := decide (kd c = 0) || (decide (kd c = 2) && !f)
def badP (p : UInt8 × List UInt8) : Bool := badB p.1 (pflag p)
def accB (l : List UInt8) : Bool := !((l.zip (flags l)).any fun x => badB x.1 x.2)
theorem any_map_zip {α β γ : Type} (f : α → β) (g : α → γ) (h : β → γ → Bool) : ∀ l : List α, ((l.map f).zip (l.map g)).any (fun x => h x.1 x.2) = l.any fun a => h (f a) (g a)
  | [] => rfl
  | a :: t => by simp [any_map_zip f g h t]
theorem accB_pairs (l : List UInt8) : accB l = !((pairs l).any badP) := by
  unfold accB
  have := any_map_zip Prod.fst pflag badB (pairs l)
  rw [pairs_fst, pairs_flag] at this
  rw [this]; rfl

/-- Check's result -/
def chk (l : List UInt8) : Int := if 65536 < l.length then 4 else if accB l then 0 else 11
end Go.Proofs.YtdgihkgomfpmoaaGreatDoor
