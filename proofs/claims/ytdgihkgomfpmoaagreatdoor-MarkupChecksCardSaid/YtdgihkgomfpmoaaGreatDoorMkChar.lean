/- Words and names of layer 1: what they are, and which characters they have not; two accepted strings, one behind the other. (In a seat with the texts of charset these definitions stand here, and not in Small, Word and Letters.) -/
import Derived.Test.YtdgihkgomfpmoaaGreatDoorMath
namespace Go.Proofs.YtdgihkgomfpmoaaGreatDoor

abbrev Bs := List UInt8
def ldI (c : Int) : Bool := decide (kindI c = 1) || decide (kindI c = 3)
def okW (c : UInt8) (f : Bool) : Bool := decide (kd c = 1) || decide (kd c = 3) || decide (kd c = 4) || (decide (kd c = 2) && f)
def headLd : List UInt8 → Bool
  | [] => false
  | c :: _ => ldI c.toNat
def allW (l : List UInt8) : Bool := !((l.zip (flags l)).any fun x => !okW x.1 x.2)
/-- IsWord's result -/
def wordB (l : List UInt8) : Bool := decide (0 < l.length) && decide (l.length ≤ 64) && headLd l && allW l
def ldB (c : UInt8) : Bool := ldI c.toNat
def lettersN (l : List UInt8) : Nat := (l.filter ldB).length
/-- IsName's result -/
def nameB (l : List UInt8) : Bool := decide (0 < l.length) && decide (l.length ≤ 16) && decide (lettersN l = l.length)

/-- none of the characters of tags: a space / < > -/
def plainC (c : UInt8) : Bool := decide (c ≠ 32) && decide (c ≠ 47) && decide (c ≠ 60) && decide (c ≠ 62)
theorem plainC_kd {c : UInt8} (h : kd c ≠ 0) (h6 : kd c ≠ 6) : plainC c = true := by
  unfold plainC
  have h1 : c ≠ 32 := by rintro rfl; exact h6 (by decide)
  have h2 : c ≠ 47 := by rintro rfl; exact h (by decide)
  have h3 : c ≠ 60 := by rintro rfl; exact h (by decide)
  have h4 : c ≠ 62 := by rintro rfl; exact h (by decide)
  simp [h1, h2, h3, h4]
theorem zip_any {α β : Type} {p : α × β → Bool} : ∀ {l : List α} {m : List β}, l.length = m.length → (l.zip m).any p = false → ∀ a ∈ l, ∃ b, p (a, b) = false
  | [], _, _, _, a, ha => by cases ha
  | _ :: _, [], h, _, _, _ => by simp at h
  | x :: l, y :: m, h, hn, a, ha => by
    rw [List.zip_cons_cons, List.any_cons, Bool.or_eq_false_iff] at hn
    rcases List.mem_cons.1 ha with rfl | ha
    · exact ⟨y, hn.1⟩
    · exact zip_any (by simpa using h) hn.2 a ha
theorem word_plain {l : Bs} (h : wordB l = true) : l ≠ [] ∧ ∀ c ∈ l, plainC c = true := by
  unfold wordB allW at h
  rw [Bool.and_eq_true, Bool.and_eq_true, Bool.and_eq_true, decide_eq_true_eq, Bool.not_eq_true'] at h
  refine ⟨fun e => by rw [e] at h; simp at h, fun c hc => ?_⟩
  obtain ⟨b, hb⟩ := zip_any (by rw [flags, flagsB_length]) h.2 c hc
  have hb : okW c b = true := by simpa using hb
  unfold okW at hb
  simp only [Bool.or_eq_true, Bool.and_eq_true, decide_eq_true_eq] at hb
  refine plainC_kd (fun e => ?_) (fun e => ?_) <;> rw [e] at hb <;> simp at hb
theorem name_plain {l : Bs} (h : nameB l = true) : l ≠ [] ∧ ∀ c ∈ l, plainC c = true := by
  unfold nameB at h
  rw [Bool.and_eq_true, Bool.and_eq_true, decide_eq_true_eq, decide_eq_true_eq, decide_eq_true_eq] at h
  refine ⟨fun e => by rw [e] at h; simp at h, fun c hc => ?_⟩
  have hf : l.filter ldB = l := List.filter_sublist.eq_of_length h.2
  have hc := List.filter_eq_self.1 hf c hc
  unfold ldB ldI at hc
  have hk : kd c = 1 ∨ kd c = 3 := by simpa [kd] using hc
  exact plainC_kd (by omega) (by omega)
theorem acc_kd {l : Bs} (h : accB l = true) : ∀ c ∈ l, kd c ≠ 0 := fun c hc => by
  unfold accB at h
  rw [Bool.not_eq_true'] at h
  obtain ⟨b, hb⟩ := zip_any (by rw [flags, flagsB_length]) h c hc
  intro e
  have hb : badB c b = false := hb
  unfold badB at hb
  rw [e] at hb
  simp at hb
theorem acc_no {l : Bs} (h : accB l = true) : ∀ c ∈ l, c ≠ 60 ∧ c ≠ 62 ∧ c ≠ 47 := fun c hc => by
  have hk := acc_kd h c hc
  exact ⟨fun e => by subst e; exact hk (by decide), fun e => by subst e; exact hk (by decide), fun e => by subst e; exact hk (by decide)⟩
/-- a mark that begins a list is not right unless something stands before it; with something before it more is right -/
theorem flagsB_mono : ∀ (l : Bs) (b : Bool), ((l.zip (flagsB false l)).any fun x => badB x.1 x.2) = false → ((l.zip (flagsB b l)).any fun x => badB x.1 x.2) = false
  | l, false, h => h
  | [], true, _ => rfl
  | c :: t, true, h => by
    have e1 : flagsB false (c :: t) = (decide (kd c = 2) && false) :: flagsB (decide (kd c = 1) || (decide (kd c = 2) && false)) t := rfl
    have e2 : flagsB true (c :: t) = (decide (kd c = 2) && true) :: flagsB (decide (kd c = 1) || (decide (kd c = 2) && true)) t := rfl
    rw [e1, List.zip_cons_cons, List.any_cons, Bool.or_eq_false_iff] at h
    rw [e2, List.zip_cons_cons, List.any_cons, Bool.or_eq_false_iff]
    have h2 : ¬ kd c = 2 := by
      intro e
      have := h.1
      unfold badB at this
      simp [e] at this
    have hk : decide (kd c = 2) = false := decide_eq_false h2
    rw [hk, Bool.false_and, Bool.or_false] at h
    rw [hk, Bool.false_and, Bool.or_false]
    exact h
theorem acc_append : ∀ (a : Bs) (b : Bool) {t : Bs}, ((a.zip (flagsB b a)).any fun x => badB x.1 x.2) = false → accB t = true → (((a ++ t).zip (flagsB b (a ++ t))).any fun x => badB x.1 x.2) = false
  | [], b, t, _, ht => by
    unfold accB flags at ht
    rw [Bool.not_eq_true'] at ht
    exact flagsB_mono t b ht
  | c :: a, b, t, h, ht => by
    have e : ∀ z : Bs, flagsB b (c :: z) = (decide (kd c = 2) && b) :: flagsB (decide (kd c = 1) || (decide (kd c = 2) && b)) z := fun z => rfl
    rw [e, List.zip_cons_cons, List.any_cons, Bool.or_eq_false_iff] at h
    rw [List.cons_append, e, List.zip_cons_cons, List.any_cons, Bool.or_eq_false_iff]
    exact ⟨h.1, acc_append a _ h.2 ht⟩
theorem acc_two {a t : Bs} (h : accB a = true) (ht : accB t = true) : accB (a ++ t) = true := by
  unfold accB flags at h ⊢
  rw [Bool.not_eq_true'] at h ⊢
  exact acc_append a false h ht
end Go.Proofs.YtdgihkgomfpmoaaGreatDoor
