/- What Check, Print, Find, Strip and Nested return, and the laws of layer 9. -/
import Derived.Test.YtdgihkgomfpmoaaGreatDoorMkScan
namespace Go.Proofs.YtdgihkgomfpmoaaGreatDoor

def errX (p : Bool) (o : Nat) (x : Lx) : Int :=
  if x.k < 1 ∨ 4 < x.k then 8
  else if x.k = 1 then
    (if x.n ≠ [] then 12 else if x.v = [] then 5 else if chk x.v ≠ 0 then 11 else if p then 10 else if x.o ≠ o then 9 else 0)
  else
    (if isTag x.n = false ∨ (decide (x.k = 4)) ≠ emptyT x.n then 12
     else if x.k = 3 then (if x.v ≠ [] then 3 else if x.o ≠ o then 9 else 0)
     else (if rightB x.n x.v = false then 3 else if x.o ≠ o then 9 else 0))
def chkF : Bool → Nat → List Lx → Int
  | _, o, [] => if 65536 < o then 4 else 0
  | p, o, x :: L => if errX p o x ≠ 0 then errX p o x else chkF (decide (x.k = 1)) (o + (form x).length) L
def chkR (L : List Lx) : Int := chkF false 0 L
theorem chk_nil {v : Bs} : chk v = 0 ↔ v.length ≤ 65536 ∧ accB v = true := by
  unfold chk
  split
  · constructor
    · intro h; cases h
    · intro h; omega
  · split
    · rename_i h1 h2
      exact ⟨fun _ => ⟨by omega, h2⟩, fun _ => rfl⟩
    · rename_i h1 h2
      constructor
      · intro h; cases h
      · intro h; exact absurd h.2 h2
theorem err_zero {p : Bool} {o : Nat} {x : Lx} : errX p o x = 0 ↔ okX p x = true ∧ x.o = o ∧ (x.k = 1 → x.v.length ≤ 65536) := by
  unfold errX okX goodT
  by_cases h0 : x.k < 1 ∨ 4 < x.k
  · rw [if_pos h0]
    constructor
    · intro h; cases h
    · rintro ⟨h, _⟩
      rw [if_neg (by omega)] at h
      simp only [Bool.or_eq_true, Bool.and_eq_true, decide_eq_true_eq] at h
      omega
  · rw [if_neg h0]
    by_cases h1 : x.k = 1
    · rw [if_pos h1, if_pos h1]
      by_cases a1 : x.n = []
      · by_cases a2 : x.v = []
        · simp [a1, a2]
        · by_cases a3 : chk x.v = 0
          · obtain ⟨a4, a5⟩ := chk_nil.1 a3
            cases p
            · by_cases a6 : x.o = o
              · simp [a1, a2, a3, a4, a5, a6]
              · simp [a1, a2, a3, a6]
            · simp [a1, a2, a3]
          · have : ¬ (x.v.length ≤ 65536 ∧ accB x.v = true) := fun h => a3 (chk_nil.2 h)
            simp only [a1, a2, a3, ne_eq, not_true_eq_false, not_false_eq_true, if_true, if_false, decide_true, Bool.true_and, Bool.and_eq_true]
            constructor
            · intro h; cases h
            · rintro ⟨⟨h, _⟩, _, h2⟩
              exact absurd ⟨h2 h1, h⟩ this
      · simp [a1]
    · rw [if_neg h1, if_neg h1]
      rcases (show x.k = 2 ∨ x.k = 3 ∨ x.k = 4 by omega) with hk | hk | hk
      · rw [hk]
        cases a1 : isTag x.n <;> cases a2 : emptyT x.n <;> cases a3 : rightB x.n x.v <;> by_cases a4 : x.o = o <;> simp [a4]
      · rw [hk]
        cases a1 : isTag x.n <;> cases a2 : emptyT x.n <;> by_cases a3 : x.v = [] <;> by_cases a4 : x.o = o <;> simp [a3, a4]
      · rw [hk]
        cases a1 : isTag x.n <;> cases a2 : emptyT x.n <;> cases a3 : rightB x.n x.v <;> by_cases a4 : x.o = o <;> simp [a4]
theorem chkF_zero : ∀ (L : List Lx) (p : Bool) (o : Nat), chkF p o L = 0 ↔ valB p o L = true ∧ o + (prn L).length ≤ 65536
  | [], p, o => by
    unfold chkF valB
    split
    · constructor
      · intro h; cases h
      · rintro ⟨_, h⟩; simp [prn] at h; omega
    · exact ⟨fun _ => ⟨rfl, by simp [prn]; omega⟩, fun _ => rfl⟩
  | x :: L, p, o => by
    have ih := chkF_zero L (decide (x.k = 1)) (o + (form x).length)
    rw [chkF, valB, prn_cons, List.length_append]
    by_cases he : errX p o x = 0
    · obtain ⟨h1, h2, h3⟩ := err_zero.1 he
      rw [if_neg (by rw [he]; decide), ih, h1, decide_eq_true h2]
      simp only [Bool.true_and]
      rw [Nat.add_assoc]
    · rw [if_pos he]
      constructor
      · intro h; exact absurd h he
      · rintro ⟨h, hl⟩
        rw [Bool.and_eq_true, Bool.and_eq_true, decide_eq_true_eq] at h
        refine absurd (err_zero.2 ⟨h.1.1, h.1.2, fun hk => ?_⟩) he
        rw [form_one hk] at hl
        omega
theorem chk_iff {L : List Lx} : chkR L = 0 ↔ valB false 0 L = true ∧ (prn L).length ≤ 65536 := by
  have := chkF_zero L false 0
  rw [Nat.zero_add] at this
  exact this
def printR (L : List Lx) : Bs × Int := if chkR L = 0 then (prn L, 0) else ([], 1)
/-- P9.2: what is scanned is valid, and printed it is the string -/
theorem scan_print {s : Bs} {A : List Lx} (h : scanR s = (A, 0)) : chkR A = 0 ∧ printR A = (s, 0) := by
  obtain ⟨h1, h2, h3⟩ := scan_iff.1 h
  have hc : chkR A = 0 := chk_iff.2 ⟨h2, by rw [h3]; exact h1⟩
  refine ⟨hc, ?_⟩
  unfold printR
  rw [if_pos hc, h3]
theorem print_scan {L : List Lx} (h : chkR L = 0) : scanR (prn L) = (L, 0) := by
  obtain ⟨h1, h2⟩ := chk_iff.1 h
  exact scan_iff.2 ⟨h2, h1, rfl⟩
/- offsets -/
def inX (i : Int) (x : Lx) : Bool := decide (x.o ≤ i) && decide (i < x.o + (form x).length)
def findR (L : List Lx) (i : Int) : Int × Int := if chkR L = 0 then (match L.findIdx? (inX i) with | some k => ((k : Int), 0) | none => (0, 2)) else (0, 1)
theorem val_o : ∀ (L : List Lx) (p : Bool) (o : Nat), valB p o L = true → ∀ (k : Nat) (hk : k < L.length), L[k].o = (o + (prn (L.take k)).length : Nat)
  | [], _, _, _, k, hk => by simp at hk
  | x :: L, p, o, h, k, hk => by
    rw [valB, Bool.and_eq_true, Bool.and_eq_true, decide_eq_true_eq] at h
    cases k with
    | zero => simp [prn, h.1.2]
    | succ k =>
      have := val_o L _ _ h.2 k (by simpa using hk)
      rw [List.getElem_cons_succ, this, List.take_succ_cons, prn_cons, List.length_append]
      omega
theorem find_in : ∀ (L : List Lx) (p : Bool) (o : Nat), valB p o L = true → ∀ i : Nat, o ≤ i → i < o + (prn L).length →
    ∃ k, L.findIdx? (inX i) = some k ∧ k < L.length ∧ (∀ hk : k < L.length, L[k].o ≤ i) ∧ (∀ hk : k + 1 < L.length, (i : Int) < L[k + 1].o)
  | [], _, _, _, i, h1, h2 => by simp [prn] at h2; omega
  | x :: L, p, o, h, i, h1, h2 => by
    rw [valB, Bool.and_eq_true, Bool.and_eq_true, decide_eq_true_eq] at h
    rw [prn_cons, List.length_append] at h2
    rw [List.findIdx?_cons]
    by_cases hi : i < o + (form x).length
    · have hin : inX i x = true := by
        unfold inX
        rw [h.1.2, decide_eq_true (by omega), decide_eq_true (by omega)]; rfl
      rw [hin]
      refine ⟨0, rfl, by simp, fun _ => by rw [List.getElem_cons_zero, h.1.2]; omega, fun hk => ?_⟩
      have := val_o L _ _ h.2 0 (by simpa using hk)
      simp only [List.take_zero, prn, List.map_nil, List.flatten_nil, List.length_nil, Nat.add_zero] at this
      rw [List.getElem_cons_succ, this]
      omega
    · have hin : inX i x = false := by
        unfold inX
        rw [h.1.2, decide_eq_false (show ¬ (i : Int) < (o : Int) + ((form x).length : Int) by omega), Bool.and_false]
      obtain ⟨k, k1, k2, k3, k4⟩ := find_in L _ _ h.2 i (by omega) (by omega)
      rw [hin]
      refine ⟨k + 1, by simp [k1], by simpa using k2, fun _ => k3 k2, fun hk => k4 (by simpa using hk)⟩
theorem find_out : ∀ (L : List Lx) (p : Bool) (o : Nat), valB p o L = true → ∀ i : Int, i < o ∨ (o + (prn L).length : Nat) ≤ i → L.findIdx? (inX i) = none
  | [], _, _, _, _, _ => rfl
  | x :: L, p, o, h, i, hi => by
    rw [valB, Bool.and_eq_true, Bool.and_eq_true, decide_eq_true_eq] at h
    rw [prn_cons, List.length_append] at hi
    have hin : inX i x = false := by
      unfold inX
      rw [h.1.2, Bool.and_eq_false_iff, decide_eq_false_iff_not, decide_eq_false_iff_not]
      omega
    rw [List.findIdx?_cons, hin, find_out L _ _ h.2 i (by omega)]
    rfl
/-- P9.3 -/
theorem find_at {s : Bs} {L : List Lx} (h : scanR s = (L, 0)) (i : Nat) (hi : i < s.length) :
    ∃ k : Nat, findR L i = ((k : Int), 0) ∧ k < L.length ∧ (∀ hk : k < L.length, L[k].o ≤ i) ∧ (∀ hk : k + 1 < L.length, (i : Int) < L[k + 1].o) := by
  obtain ⟨h1, h2, h3⟩ := scan_iff.1 h
  obtain ⟨k, k1, k2, k3, k4⟩ := find_in L false 0 h2 i (Nat.zero_le _) (by rw [h3]; omega)
  refine ⟨k, ?_, k2, k3, k4⟩
  unfold findR
  rw [if_pos (scan_print h).1, k1]
theorem find_no {s : Bs} {L : List Lx} (h : scanR s = (L, 0)) (i : Int) (hi : i < 0 ∨ (s.length : Int) ≤ i) : findR L i = (0, 2) := by
  obtain ⟨h1, h2, h3⟩ := scan_iff.1 h
  unfold findR
  rw [if_pos (scan_print h).1, find_out L false 0 h2 i (by rw [h3]; omega)]
theorem first_o {s : Bs} {L : List Lx} (h : scanR s = (L, 0)) (h0 : 0 < L.length) : L[0].o = 0 := by
  have := val_o L false 0 (scan_iff.1 h).2.1 0 h0
  simpa [prn] using this
/- joining -/
def shiftL (d : Nat) (L : List Lx) : List Lx := L.map fun x => { x with o := x.o + d }
theorem form_shift (d : Int) (x : Lx) : form { x with o := d } = form x := rfl
theorem prn_shift (d : Nat) (L : List Lx) : prn (shiftL d L) = prn L := by
  unfold prn shiftL
  rw [List.map_map]
  rfl
theorem val_shift (d : Nat) : ∀ (L : List Lx) (p : Bool) (o : Nat), valB p o L = true → valB p (o + d) (shiftL d L) = true
  | [], _, _, _ => rfl
  | x :: L, p, o, h => by
    rw [valB, Bool.and_eq_true, Bool.and_eq_true, decide_eq_true_eq] at h
    have ih := val_shift d L _ _ h.2
    show valB p (o + d) ({ x with o := x.o + d } :: shiftL d L) = true
    rw [valB, Bool.and_eq_true, Bool.and_eq_true, decide_eq_true_eq]
    refine ⟨⟨h.1.1, by show x.o + d = _; rw [h.1.2]; omega⟩, ?_⟩
    rw [show o + d + (form { x with o := x.o + d }).length = o + (form x).length + d by rw [form_shift]; omega]
    exact ih
def lastT (p : Bool) : List Lx → Bool
  | [] => p
  | x :: L => lastT (decide (x.k = 1)) L
theorem val_append : ∀ (A B : List Lx) (p : Bool) (o : Nat), valB p o (A ++ B) = (valB p o A && valB (lastT p A) (o + (prn A).length) B)
  | [], B, p, o => by simp [valB, lastT, prn]
  | x :: A, B, p, o => by
    rw [List.cons_append, valB, valB, val_append A B, lastT, prn_cons, List.length_append, ← Nat.add_assoc]
    simp only [Bool.and_assoc]
theorem val_front {p : Bool} {o : Nat} {B : List Lx} (h : valB false o B = true) (hb : ∀ x M, B = x :: M → x.k ≠ 1) : valB p o B = true := by
  cases B with
  | nil => rfl
  | cons x M =>
    rw [valB, Bool.and_eq_true, Bool.and_eq_true] at h ⊢
    refine ⟨⟨?_, h.1.2⟩, h.2⟩
    have := h.1.1
    unfold okX at this ⊢
    rw [if_neg (hb x M rfl)] at this ⊢
    exact this
theorem lastT_last : ∀ (A : List Lx) (p : Bool) (h : A ≠ []), lastT p A = decide ((A.getLast h).k = 1)
  | [x], p, _ => rfl
  | x :: y :: A, p, _ => by
    rw [lastT, lastT_last (y :: A) _ (by simp)]; rfl
/-- P9.4, where not characters meet characters -/
theorem join_apart {s t : Bs} {A B : List Lx} (hs : scanR s = (A, 0)) (ht : scanR t = (B, 0)) (hl : s.length + t.length ≤ 65536) (hn : ∀ (ha : A ≠ []) (hb : B ≠ []), ¬ ((A.getLast ha).k = 1 ∧ (B.head hb).k = 1)) :
    scanR (s ++ t) = (A ++ shiftL s.length B, 0) := by
  obtain ⟨_, a2, a3⟩ := scan_iff.1 hs
  obtain ⟨_, b2, b3⟩ := scan_iff.1 ht
  refine scan_iff.2 ⟨by rw [List.length_append]; omega, ?_, by rw [prn_append, prn_shift, a3, b3]⟩
  rw [val_append, a2, Bool.true_and, a3, Nat.zero_add]
  have hv := val_shift s.length B false 0 b2
  rw [Nat.zero_add] at hv
  by_cases ha : A = []
  · subst ha
    exact hv
  · by_cases hl1 : (A.getLast ha).k = 1
    · refine val_front hv (fun x M e => ?_)
      have hb : B ≠ [] := by rintro rfl; cases e
      obtain ⟨y, N, rfl⟩ := List.exists_cons_of_ne_nil hb
      cases e
      exact fun e => hn ha hb ⟨hl1, e⟩
    · rw [lastT_last A false ha, decide_eq_false hl1]
      exact hv
/-- P9.4, where characters meet characters -/
theorem join_text {s t : Bs} {A B : List Lx} {x y : Lx} (hs : scanR s = (A ++ [x], 0)) (ht : scanR t = (y :: B, 0)) (hl : s.length + t.length ≤ 65536) (hx : x.k = 1) (hy : y.k = 1) :
    scanR (s ++ t) = (A ++ [⟨1, [], x.v ++ y.v, x.o⟩] ++ shiftL s.length B, 0) := by
  obtain ⟨_, a2, a3⟩ := scan_iff.1 hs
  obtain ⟨_, b2, b3⟩ := scan_iff.1 ht
  rw [val_append, Bool.and_eq_true, valB, Bool.and_eq_true, Bool.and_eq_true, decide_eq_true_eq] at a2
  obtain ⟨a4, ⟨a5, a6⟩, _⟩ := a2
  rw [valB, Bool.and_eq_true, Bool.and_eq_true, decide_eq_true_eq] at b2
  obtain ⟨⟨b5, b6⟩, b7⟩ := b2
  obtain ⟨c1, c2, c3, c4⟩ := ok_text a5 hx
  obtain ⟨d1, d2, d3, _⟩ := ok_text b5 hy
  rw [prn_append, prn_cons, form_one hx] at a3
  simp only [prn, List.map_nil, List.flatten_nil, List.append_nil] at a3
  rw [prn_cons, form_one hy] at b3
  refine scan_iff.2 ⟨by rw [List.length_append]; omega, ?_, ?_⟩
  · rw [List.append_assoc, val_append, a4, Bool.true_and, List.singleton_append, valB]
    rw [show okX (lastT false A) ⟨1, [], x.v ++ y.v, x.o⟩ = true from by
      unfold okX
      rw [if_pos rfl, c4]
      simp [c2, acc_two c3 d3]]
    rw [form_one rfl, a6]
    simp only [decide_true, Bool.true_and]
    have hv := val_shift s.length B _ _ b7
    rw [hy, form_one hy] at hv
    simp only [decide_true, Nat.zero_add] at hv
    have e : (prn A).length + (x.v ++ y.v).length = y.v.length + s.length := by
      rw [← a3]
      unfold prn
      simp only [List.length_append]
      omega
    rw [Nat.zero_add, e]
    exact hv
  · rw [prn_append, prn_append, prn_shift, prn_cons, form_one rfl, ← a3, ← b3]
    simp [prn]
/- stripping -/
def strp (L : List Lx) : Bs := (L.map fun x => if x.k = 1 then x.v else []).flatten
def stripR (s : Bs) : Bs × Int := (strp (scanR s).1, (scanR s).2)
theorem strp_append (A B : List Lx) : strp (A ++ B) = strp A ++ strp B := by simp [strp]
theorem strp_shift (d : Nat) (B : List Lx) : strp (shiftL d B) = strp B := by
  unfold strp shiftL
  rw [List.map_map]
  rfl
theorem strip_err {s : Bs} (h : (scanR s).2 ≠ 0) : (stripR s).1 = [] := by
  unfold stripR
  rw [scan_err s h]; rfl
/-- P9.5 -/
theorem strip_acc {s : Bs} (h : chk s = 0) : stripR s = (s, 0) := by
  obtain ⟨h1, h2⟩ := chk_nil.1 h
  by_cases h0 : s = []
  · subst h0
    rfl
  · have : scanR s = ([⟨1, [], s, 0⟩], 0) := scan_iff.2 ⟨h1, by simp [valB, okX, h0, h2], by simp [prn, form_one]⟩
    unfold stripR
    rw [this]
    simp [strp]
theorem strp_kd : ∀ (L : List Lx) (p : Bool) (o : Nat), valB p o L = true → (∀ c ∈ strp L, kd c ≠ 0) ∧ (strp L).length ≤ (prn L).length
  | [], _, _, _ => ⟨fun c hc => by simp [strp] at hc, Nat.le_refl _⟩
  | x :: L, p, o, h => by
    rw [valB, Bool.and_eq_true, Bool.and_eq_true] at h
    obtain ⟨i1, i2⟩ := strp_kd L _ _ h.2
    have e : strp (x :: L) = (if x.k = 1 then x.v else []) ++ strp L := by simp [strp]
    rw [e, prn_cons, List.length_append, List.length_append]
    by_cases hk : x.k = 1
    · rw [if_pos hk, form_one hk]
      refine ⟨fun c hc => ?_, by omega⟩
      rcases List.mem_append.1 hc with hc | hc
      · exact acc_kd (ok_text h.1.1 hk).2.2.1 c hc
      · exact i1 c hc
    · rw [if_neg hk]
      refine ⟨fun c hc => i1 c (by simpa using hc), by simp; omega⟩
theorem strip_kd {s : Bs} (h : (scanR s).2 = 0) : (∀ c ∈ (stripR s).1, kd c ≠ 0) ∧ (stripR s).1.length ≤ s.length := by
  obtain ⟨A, e⟩ : ∃ A, scanR s = (A, 0) := ⟨(scanR s).1, by rw [← h]⟩
  obtain ⟨_, h2, h3⟩ := scan_iff.1 e
  have := strp_kd A false 0 h2
  unfold stripR
  rw [e]
  rw [h3] at this
  exact this
end Go.Proofs.YtdgihkgomfpmoaaGreatDoor
