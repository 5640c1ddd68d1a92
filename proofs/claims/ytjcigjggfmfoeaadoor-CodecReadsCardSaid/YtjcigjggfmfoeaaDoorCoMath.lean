/- Values, their encodings and how they are read: plain mathematics. -/
import Derived.Lib.AtoiAllCases
import Derived.Lib.ItoaNum
import Derived.Lib.ItoaLen
import Derived.Lib.ItoaMem
namespace Go.Proofs.YtjcigjggfmfoeaaDoor
set_option linter.unusedSimpArgs false
set_option linter.unusedVariables false

theorem ba_of {a b : ByteArray} (h : a.data.toList = b.data.toList) : a = b := by
  obtain ⟨⟨a⟩⟩ := a
  obtain ⟨⟨b⟩⟩ := b
  exact congrArg (fun l => ByteArray.mk (Array.mk l)) h
inductive Val where
  | mk (k n : Int) (t : ByteArray) (l : List Val)
theorem Val.ind {P : Val → Prop} (h : ∀ k n t l, (∀ x ∈ l, P x) → P (.mk k n t l)) (v : Val) : P v :=
  Val.rec (motive_1 := P) (motive_2 := fun l => ∀ x ∈ l, P x) (fun k n t l ih => h k n t l ih) (fun _ hx => by cases hx) (fun a l h1 h2 x hx => by
    rcases List.mem_cons.1 hx with rfl | hx
    · exact h1
    · exact h2 x hx) v
/-- by induction on values and lists of them side by side -/
theorem Val.both {P : Val → Prop} {Q : List Val → Prop} (h : ∀ k n t l, Q l → P (.mk k n t l)) (h0 : Q []) (h1 : ∀ x l, P x → Q l → Q (x :: l)) : (∀ v, P v) ∧ ∀ l, Q l :=
  ⟨fun v => Val.rec (motive_1 := P) (motive_2 := Q) h h0 h1 v, fun l => Val.rec_1 (motive_1 := P) (motive_2 := Q) h h0 h1 l⟩
def Val.kd : Val → Int | .mk k _ _ _ => k
def Val.nm : Val → Int | .mk _ n _ _ => n
def Val.tx : Val → ByteArray | .mk _ _ t _ => t
def Val.its : Val → List Val | .mk _ _ _ l => l

mutual
def tot : Val → Nat
  | .mk _ _ _ l => 1 + tots l
def tots : List Val → Nat
  | [] => 0
  | x :: l => tot x + tots l
end
mutual
def dep : Val → Nat
  | .mk k _ _ l => if k = 3 then 1 + deps l else 1
def deps : List Val → Nat
  | [] => 0
  | x :: l => max (dep x) (deps l)
end
mutual
def cnt : Val → Nat
  | .mk k _ _ l => if k = 3 then 1 + cnts l else 1
def cnts : List Val → Nat
  | [] => 0
  | x :: l => cnt x + cnts l
end
mutual
def vals (lv : Nat) : Val → List (Nat × Val)
  | .mk k n t l => (lv, .mk k n t l) :: (if k = 3 then valss (lv + 1) l else [])
def valss (lv : Nat) : List Val → List (Nat × Val)
  | [] => []
  | x :: l => vals lv x ++ valss lv l
end
theorem tot_pos (v : Val) : 1 ≤ tot v := by obtain ⟨k, n, t, l⟩ := v; rw [tot]; omega
theorem dep_pos (v : Val) : 1 ≤ dep v := by obtain ⟨k, n, t, l⟩ := v; rw [dep]; split <;> omega
theorem cnt_le : (∀ v, cnt v ≤ tot v) ∧ ∀ l, cnts l ≤ tots l :=
  Val.both (fun k n t l h => by rw [cnt, tot]; split <;> omega) (by rw [cnts, tots]; exact Nat.le_refl _) (fun x l h h' => by rw [cnts, tots]; omega)
theorem cnt_pos (v : Val) : 1 ≤ cnt v := by obtain ⟨k, n, t, l⟩ := v; rw [cnt]; split <;> omega
theorem dep_le : (∀ v, dep v ≤ tot v) ∧ ∀ l, deps l ≤ tots l :=
  Val.both (fun k n t l h => by rw [dep, tot]; split <;> omega) (by rw [deps, tots]; exact Nat.le_refl _) (fun x l h h' => by rw [deps, tots]; omega)
theorem vals_len (lv : Nat) : ∀ v, (vals lv v).length = cnt v := fun v => by
  have : (∀ v, ∀ lv, (vals lv v).length = cnt v) ∧ ∀ l, ∀ lv, (valss lv l).length = cnts l :=
    Val.both (fun k n t l h lv => by
      rw [vals, cnt]; split
      · simp [h (lv + 1)]; omega
      · rfl) (fun lv => by rw [valss, cnts]; rfl) (fun x l h h' lv => by rw [valss, cnts, List.length_append, h lv, h' lv])
  exact this.1 v lv
theorem tot_mem {l : List Val} {x : Val} (h : x ∈ l) : tot x ≤ tots l := by
  induction l with
  | nil => cases h
  | cons y l ih =>
    rw [tots]
    rcases List.mem_cons.1 h with rfl | h
    · omega
    · have := ih h; omega
theorem len_tots (l : List Val) : l.length ≤ tots l := by
  induction l with
  | nil => simp [tots]
  | cons x l ih => rw [tots]; have := tot_pos x; simp; omega
theorem tots_append (a b : List Val) : tots (a ++ b) = tots a + tots b := by
  induction a with
  | nil => simp [tots]
  | cons x a ih => rw [List.cons_append, tots, tots, ih]; omega
theorem cnts_append (a b : List Val) : cnts (a ++ b) = cnts a + cnts b := by
  induction a with
  | nil => simp [cnts]
  | cons x a ih => rw [List.cons_append, cnts, cnts, ih]; omega
theorem deps_append (a b : List Val) : deps (a ++ b) = max (deps a) (deps b) := by
  induction a with
  | nil => simp [deps]
  | cons x a ih => rw [List.cons_append, deps, deps, ih]; omega

/-- what is wrong with a value alone -/
def oneKind (k n : Int) (t : ByteArray) (m : Nat) : Bool :=
  if k = 1 then t.size == 0 && m == 0 else if k = 2 then n == 0 && m == 0 else if k = 3 then n == 0 && t.size == 0 else false
def single (k n : Int) (t : ByteArray) (m : Nat) : Int :=
  if oneKind k n t m = true then (if 1048576 < t.size ∨ 4096 < m then 4 else 0) else 8
def aloneV : Val → Int | .mk k n t l => single k n t l.length
mutual
def allV : Val → Int
  | .mk k n t l => if single k n t l.length = 0 then allsV l else single k n t l.length
def allsV : List Val → Int
  | [] => 0
  | x :: l => if allV x = 0 then allsV l else allV x
end
def chk (v : Val) : Int := if dep v ≤ 64 then allV v else 4
theorem single_cases (k n : Int) (t : ByteArray) (m : Nat) : single k n t m = 0 ∨ single k n t m = 4 ∨ single k n t m = 8 := by
  unfold single; split
  · split
    · exact .inr (.inl rfl)
    · exact .inl rfl
  · exact .inr (.inr rfl)
theorem single_zero {k n : Int} {t : ByteArray} {m : Nat} (h : single k n t m = 0) :
    ((k = 1 ∧ t.size = 0 ∧ m = 0) ∨ (k = 2 ∧ n = 0 ∧ m = 0) ∨ (k = 3 ∧ n = 0 ∧ t.size = 0)) ∧ t.size ≤ 1048576 ∧ m ≤ 4096 := by
  unfold single at h
  by_cases ho : oneKind k n t m = true
  · rw [if_pos ho] at h
    by_cases hb : 1048576 < t.size ∨ 4096 < m
    · rw [if_pos hb] at h; omega
    · refine ⟨?_, by omega, by omega⟩
      unfold oneKind at ho
      by_cases h1 : k = 1
      · rw [if_pos h1] at ho; simp at ho; exact .inl ⟨h1, by rw [ho.1]; rfl, ho.2⟩
      · rw [if_neg h1] at ho
        by_cases h2 : k = 2
        · rw [if_pos h2] at ho; simp at ho; exact .inr (.inl ⟨h2, ho.1, ho.2⟩)
        · rw [if_neg h2] at ho
          by_cases h3 : k = 3
          · rw [if_pos h3] at ho; simp at ho; exact .inr (.inr ⟨h3, ho.1, by rw [ho.2]; rfl⟩)
          · rw [if_neg h3] at ho; cases ho
  · rw [if_neg ho] at h; omega
theorem allV_cases : (∀ v, allV v = 0 ∨ allV v = 4 ∨ allV v = 8) ∧ ∀ l, allsV l = 0 ∨ allsV l = 4 ∨ allsV l = 8 :=
  Val.both (fun k n t l h => by
    rw [allV]; have := single_cases k n t l.length
    split
    · exact h
    · exact this) (by rw [allsV]; exact .inl rfl) (fun x l h h' => by rw [allsV]; split <;> assumption)
theorem chk_cases (v : Val) : chk v = 0 ∨ chk v = 4 ∨ chk v = 8 := by
  unfold chk; split
  · exact allV_cases.1 v
  · exact .inr (.inl rfl)
theorem allsV_zero {l : List Val} : allsV l = 0 ↔ ∀ x ∈ l, allV x = 0 := by
  induction l with
  | nil => simp [allsV]
  | cons x l ih =>
    rw [allsV]
    by_cases h : allV x = 0
    · rw [if_pos h, ih]; simp [h]
    · rw [if_neg h]; simp [h]
/-- the first error, in the order of the values -/
def firstE (f : Int) (x : Nat × Val) : Int := if f = 0 then aloneV x.2 else f
theorem firstE_stuck {f : Int} (h : f ≠ 0) (L : List (Nat × Val)) : L.foldl firstE f = f := by
  induction L with
  | nil => rfl
  | cons x L ih => rw [List.foldl_cons, firstE, if_neg h, ih]
theorem firstE_all : (∀ v, ∀ lv, (vals lv v).foldl firstE 0 = allV v) ∧ ∀ l, ∀ lv, (valss lv l).foldl firstE 0 = allsV l :=
  Val.both (fun k n t l h lv => by
    rw [vals, allV, List.foldl_cons]
    have e : firstE 0 (lv, .mk k n t l) = single k n t l.length := by rw [firstE, if_pos rfl]; rfl
    rw [e]
    by_cases hs : single k n t l.length = 0
    · rw [if_pos hs, hs]
      rcases (single_zero hs).1 with ⟨hk, _, hm⟩ | ⟨hk, _, hm⟩ | ⟨hk, _, _⟩
      · rw [if_neg (by omega), List.eq_nil_of_length_eq_zero hm]; rfl
      · rw [if_neg (by omega), List.eq_nil_of_length_eq_zero hm]; rfl
      · rw [if_pos hk]; exact h _
    · rw [if_neg hs, firstE_stuck hs]) (fun lv => by rw [valss, allsV]; rfl) (fun x l h h' lv => by
    rw [valss, allsV, List.foldl_append, h lv]
    by_cases hs : allV x = 0
    · rw [if_pos hs, hs, h' lv]
    · rw [if_neg hs, firstE_stuck hs])
theorem vals_dep : (∀ v, ∀ lv, (∀ x ∈ vals lv v, x.1 ≤ lv + dep v - 1) ∧ ∃ x ∈ vals lv v, x.1 = lv + dep v - 1) ∧ ∀ l, ∀ lv, (∀ x ∈ valss lv l, x.1 ≤ lv + deps l - 1) ∧ (l ≠ [] → ∃ x ∈ valss lv l, x.1 = lv + deps l - 1) :=
  Val.both (fun k n t l h lv => by
    rw [vals, dep]
    by_cases hk : k = 3
    · rw [if_pos hk, if_pos hk]
      refine ⟨fun x hx => ?_, ?_⟩
      · rcases List.mem_cons.1 hx with rfl | hx
        · show lv ≤ _; omega
        · have := (h (lv + 1)).1 x hx; omega
      · by_cases hl : l = []
        · subst hl; exact ⟨(lv, _), List.mem_cons_self .., by simp [deps]⟩
        · obtain ⟨x, hx, e⟩ := (h (lv + 1)).2 hl
          exact ⟨x, List.mem_cons_of_mem _ hx, by omega⟩
    · rw [if_neg hk, if_neg hk]
      refine ⟨fun x hx => ?_, (lv, _), List.mem_cons_self .., by simp⟩
      simp at hx; subst hx; show lv ≤ _; omega) (fun lv => by rw [valss]; exact ⟨(fun x hx => by cases hx), fun h => absurd rfl h⟩) (fun x l h h' lv => by
    rw [valss, deps]
    refine ⟨fun y hy => ?_, fun _ => ?_⟩
    · rcases List.mem_append.1 hy with hy | hy
      · have := (h lv).1 y hy; omega
      · have := (h' lv).1 y hy; omega
    · by_cases hd : deps l ≤ dep x
      · obtain ⟨y, hy, e⟩ := (h lv).2
        exact ⟨y, List.mem_append_left _ hy, by omega⟩
      · have hl : l ≠ [] := fun e => by subst e; rw [deps] at hd; omega
        obtain ⟨y, hy, e⟩ := (h' lv).2 hl
        exact ⟨y, List.mem_append_right _ hy, by omega⟩)

mutual
def enc : Val → List UInt8
  | .mk k n t l => if k = 1 then 105 :: (Lib.itoa n ++ [59]) else if k = 2 then 115 :: (Lib.itoa t.size ++ 58 :: t.data.toList) else 108 :: (encs l ++ [101])
def encs : List Val → List UInt8
  | [] => []
  | x :: l => enc x ++ encs l
end
def begV : Val → List UInt8
  | .mk k n t _ => if k = 1 then 105 :: (Lib.itoa n ++ [59]) else if k = 2 then 115 :: (Lib.itoa t.size ++ 58 :: t.data.toList) else [108]
theorem encs_append (a b : List Val) : encs (a ++ b) = encs a ++ encs b := by
  induction a with
  | nil => simp [encs]
  | cons x a ih => rw [List.cons_append, encs, encs, ih, List.append_assoc]
theorem enc_ne (v : Val) : enc v ≠ [] := by
  obtain ⟨k, n, t, l⟩ := v
  rw [enc]; split
  · simp
  · split <;> simp
end Go.Proofs.YtjcigjggfmfoeaaDoor
