/- Scanning a string, and lists of lexemes that are valid: each is the other one, backwards. -/
import Derived.Test.YtdgihkgomfpmoaaGreatDoorMkMath
namespace Go.Proofs.YtdgihkgomfpmoaaGreatDoor

def consR (x : Lx) (r : List Lx × Int) : List Lx × Int := if r.2 = 0 then (x :: r.1, 0) else ([], r.2)
def not60 (c : UInt8) : Bool := decide (c ≠ 60)
def not62 (c : UInt8) : Bool := decide (c ≠ 62)
/-- the lexemes from an offset on, and the first error (f: more steps than there are characters) -/
def scanF : Nat → Nat → Bs → List Lx × Int
  | 0, _, _ => ([], 0)
  | _ + 1, _, [] => ([], 0)
  | f + 1, o, c :: t =>
    if c = 60 then
      (if (c :: t).dropWhile not62 = [] then ([], 3)
       else if (tagR ((c :: t).takeWhile not62 ++ [62])).2 = 0 then
         consR ⟨(tagR ((c :: t).takeWhile not62 ++ [62])).1.1, (tagR ((c :: t).takeWhile not62 ++ [62])).1.2.1, (tagR ((c :: t).takeWhile not62 ++ [62])).1.2.2, o⟩
           (scanF f (o + (((c :: t).takeWhile not62).length + 1)) (((c :: t).dropWhile not62).drop 1))
       else ([], (tagR ((c :: t).takeWhile not62 ++ [62])).2))
    else if accB ((c :: t).takeWhile not60) then consR ⟨1, [], (c :: t).takeWhile not60, o⟩ (scanF f (o + ((c :: t).takeWhile not60).length) ((c :: t).dropWhile not60))
    else ([], 11)
def scanR (l : Bs) : List Lx × Int := if 65536 < l.length then ([], 4) else scanF l.length 0 l
/-- is a lexeme right; p: is the one before it a part of characters -/
def okX (p : Bool) (x : Lx) : Bool := if x.k = 1 then decide (x.n = []) && decide (x.v ≠ []) && accB x.v && !p else goodT x.k x.n x.v
def valB : Bool → Nat → List Lx → Bool
  | _, _, [] => true
  | p, o, x :: L => okX p x && decide (x.o = o) && valB (decide (x.k = 1)) (o + (form x).length) L
def prn (L : List Lx) : Bs := (L.map form).flatten
theorem prn_cons (x : Lx) (L : List Lx) : prn (x :: L) = form x ++ prn L := by simp [prn]
theorem prn_append (L M : List Lx) : prn (L ++ M) = prn L ++ prn M := by simp [prn]

theorem dw_all {p : UInt8 → Bool} : ∀ (a b : Bs), (∀ c ∈ a, p c = true) → (∀ c r, b = c :: r → p c = false) → (a ++ b).dropWhile p = b
  | [], [], _, _ => rfl
  | [], c :: r, _, h => by rw [List.nil_append, List.dropWhile_cons, if_neg (by rw [h c r rfl]; decide)]
  | x :: a, b, h, h2 => by rw [List.cons_append, List.dropWhile_cons, if_pos (h x (by simp)), dw_all a b (fun c hc => h c (by simp [hc])) h2]
theorem form_one {x : Lx} (h : x.k = 1) : form x = x.v := by unfold form formF; rw [h]; rfl
theorem ok_text {p : Bool} {x : Lx} (h : okX p x = true) (hk : x.k = 1) : x.n = [] ∧ x.v ≠ [] ∧ accB x.v = true ∧ p = false := by
  unfold okX at h
  rw [if_pos hk] at h
  simp only [Bool.and_eq_true, decide_eq_true_eq, Bool.not_eq_true'] at h
  exact ⟨h.1.1.1, h.1.1.2, h.1.2, h.2⟩
theorem ok_tag {p : Bool} {x : Lx} (h : okX p x = true) (hk : x.k ≠ 1) : goodT x.k x.n x.v = true := by
  unfold okX at h
  rwa [if_neg hk] at h
theorem ok_len {p : Bool} {x : Lx} (h : okX p x = true) : 0 < (form x).length := by
  by_cases hk : x.k = 1
  · rw [form_one hk]
    exact List.length_pos_iff.2 (ok_text h hk).2.1
  · obtain ⟨m, h1, _⟩ := good_form (ok_tag h hk)
    unfold form
    rw [h1]; simp
/-- behind characters only a tag can stand -/
theorem val_head {o : Nat} {L : List Lx} (h : valB true o L = true) : prn L = [] ∨ ∃ r, prn L = 60 :: r := by
  cases L with
  | nil => exact .inl rfl
  | cons x L =>
    unfold valB at h
    rw [Bool.and_eq_true, Bool.and_eq_true] at h
    right
    by_cases hk : x.k = 1
    · have := (ok_text h.1.1 hk).2.2.2
      cases this
    · obtain ⟨m, h1, _⟩ := good_form (ok_tag h.1.1 hk)
      refine ⟨m ++ [62] ++ prn L, ?_⟩
      rw [prn_cons]
      unfold form
      rw [h1]; simp
theorem cut_tag {m r : Bs} (h : ∀ c ∈ m, c ≠ 60 ∧ c ≠ 62) : (60 :: (m ++ [62]) ++ r).takeWhile not62 = 60 :: m ∧ (60 :: (m ++ [62]) ++ r).dropWhile not62 = 62 :: r := by
  have e : 60 :: (m ++ [62]) ++ r = (60 :: m) ++ (62 :: r) := by simp
  have h1 : ∀ c ∈ (60 :: m : Bs), not62 c = true := fun c hc => by
    rcases List.mem_cons.1 hc with rfl | hc
    · decide
    · unfold not62; simpa using (h c hc).2
  have h2 : ∀ c r', (62 :: r : Bs) = c :: r' → not62 c = false := fun c r' e => by cases e; decide
  rw [e]
  exact ⟨tw_all _ _ h1 h2, dw_all _ _ h1 h2⟩
/-- a valid list, printed, is scanned again -/
theorem scan_prn : ∀ (L : List Lx) (p : Bool) (o f : Nat), valB p o L = true → (prn L).length ≤ f → scanF f o (prn L) = (L, 0)
  | [], _, _, 0, _, _ => rfl
  | [], _, _, _ + 1, _, _ => rfl
  | x :: L, p, o, f, h, hf => by
    unfold valB at h
    rw [Bool.and_eq_true, Bool.and_eq_true, decide_eq_true_eq] at h
    obtain ⟨⟨hx, ho⟩, hL⟩ := h
    have hlen := ok_len hx
    rw [prn_cons, List.length_append] at hf
    obtain ⟨f, rfl⟩ : ∃ g, f = g + 1 := ⟨f - 1, by omega⟩
    have ih := scan_prn L _ _ f hL (by omega)
    obtain ⟨k, n, v, o'⟩ := x
    simp only at ho
    subst ho
    rw [prn_cons]
    by_cases hk : k = 1
    · subst hk
      obtain ⟨hn, hv, ha, _⟩ := ok_text hx rfl
      simp only at hn hv ha
      subst hn
      rw [form_one rfl] at ih ⊢
      simp only at ih ⊢
      have hno : ∀ c ∈ v, not60 c = true := fun c hc => by unfold not60; simpa using (acc_no ha c hc).1
      have hnx : ∀ c r, prn L = c :: r → not60 c = false := fun c r e => by
        rcases val_head hL with h | ⟨r', h⟩
        · rw [h] at e; cases e
        · rw [h] at e; cases e; decide
      have h1 := tw_all v (prn L) hno hnx
      have h2 := dw_all v (prn L) hno hnx
      obtain ⟨c, t, rfl⟩ := List.exists_cons_of_ne_nil hv
      have hc : c ≠ 60 := by have := hno c (by simp); unfold not60 at this; simpa using this
      rw [List.cons_append] at h1 h2 ⊢
      rw [scanF, if_neg hc, h1, h2, if_pos ha, ih]
      rfl
    · have hg := ok_tag hx hk
      simp only at hg
      obtain ⟨m, hm, hmm, _⟩ := good_form hg
      have hb := tag_back hg
      have hfm : form ⟨k, n, v, (o : Int)⟩ = formF k n v := rfl
      rw [hfm] at ih ⊢
      rw [hm] at hb ih ⊢
      obtain ⟨h1, h2⟩ := cut_tag (r := prn L) hmm
      rw [List.cons_append] at h1 h2 ⊢
      have e1 : (60 :: m : Bs) ++ [62] = 60 :: (m ++ [62]) := rfl
      rw [scanF, if_pos rfl, h1, h2, if_neg (by simp), e1, hb, if_pos rfl]
      rw [List.drop_one, List.tail_cons]
      have e2 : o + ((60 :: m : Bs).length + 1) = o + (60 :: (m ++ [62]) : Bs).length := by simp
      rw [e2, ih]
      rfl
theorem cons_zero {x : Lx} {r : List Lx × Int} {L : List Lx} (h : consR x r = (L, 0)) : ∃ M, L = x :: M ∧ r = (M, 0) := by
  obtain ⟨M, e⟩ := r
  unfold consR at h
  split at h
  · rename_i h0
    simp only at h0
    subst h0
    cases h
    exact ⟨M, rfl, rfl⟩
  · rename_i h0
    cases h
    exact absurd rfl h0
theorem dw_head {p : UInt8 → Bool} : ∀ (l : Bs) {c : UInt8} {r : Bs}, l.dropWhile p = c :: r → p c = false
  | [], _, _, h => by cases h
  | x :: l, c, r, h => by
    rw [List.dropWhile_cons] at h
    split at h
    · exact dw_head l h
    · rename_i hx
      cases h
      simpa using hx
theorem tw_mem {p : UInt8 → Bool} : ∀ (l : Bs), ∀ c ∈ l.takeWhile p, p c = true
  | [], _, h => by cases h
  | x :: l, c, h => by
    rw [List.takeWhile_cons] at h
    split at h
    · rcases List.mem_cons.1 h with rfl | h
      · assumption
      · exact tw_mem l c h
    · cases h
/-- what is scanned is valid, and is the string, printed -/
theorem scan_val : ∀ (f o : Nat) (l : Bs) (L : List Lx) (p : Bool), l.length ≤ f → scanF f o l = (L, 0) → (p = true → l = [] ∨ ∃ r, l = 60 :: r) → valB p o L = true ∧ prn L = l
  | 0, _, l, L, _, hf, h, _ => by
    have : l = [] := List.length_eq_zero_iff.1 (by omega)
    subst this
    cases h
    exact ⟨rfl, rfl⟩
  | f + 1, _, [], L, _, _, h, _ => by
    cases h
    exact ⟨rfl, rfl⟩
  | f + 1, o, c :: t, L, p, hf, h, hp => by
    rw [scanF] at h
    by_cases hc : c = 60
    · subst hc
      rw [if_pos rfl] at h
      by_cases hd : (60 :: t : Bs).dropWhile not62 = []
      · rw [if_pos hd] at h
        cases h
      · rw [if_neg hd] at h
        obtain ⟨d, r, hdr⟩ := List.exists_cons_of_ne_nil hd
        have hd62 : d = 62 := by have := dw_head _ hdr; unfold not62 at this; simpa using this
        subst hd62
        have hsp := List.takeWhile_append_dropWhile (p := not62) (l := (60 :: t : Bs))
        rw [hdr] at hsp
        by_cases ht : (tagR ((60 :: t : Bs).takeWhile not62 ++ [62])).2 = 0
        · rw [if_pos ht] at h
          obtain ⟨M, rfl, hM⟩ := cons_zero h
          have hx := tag_of (p := (60 :: t : Bs).takeWhile not62 ++ [62]) (x := (tagR ((60 :: t : Bs).takeWhile not62 ++ [62])).1) (by rw [← ht])
          rw [hdr, List.drop_one, List.tail_cons] at hM
          generalize hA : (60 :: t : Bs).takeWhile not62 = A at *
          generalize hX : tagR (A ++ [62]) = X at *
          obtain ⟨⟨k, n, v⟩, e⟩ := X
          simp only at ht hx hM
          have hrl : r.length ≤ f := by
            have := congrArg List.length hsp
            rw [List.length_append, List.length_cons, List.length_cons] at this
            rw [List.length_cons] at hf
            omega
          obtain ⟨hv, hpr⟩ := scan_val f _ r M false hrl hM (fun e => by cases e)
          have hk1 : k ≠ 1 := fun e => by
            obtain ⟨hk, _⟩ := good_tag hx.2
            omega
          have hfl : (form ⟨k, n, v, (o : Int)⟩).length = A.length + 1 := by
            show (formF k n v).length = _
            rw [hx.1]; simp
          refine ⟨?_, ?_⟩
          · rw [valB, hfl]
            rw [show okX p ⟨k, n, v, (o : Int)⟩ = true from by unfold okX; rw [if_neg hk1]; exact hx.2]
            rw [decide_eq_false hk1, hv]; simp
          · rw [prn_cons, hpr]
            show formF k n v ++ r = _
            rw [hx.1, ← hsp]; simp
        · rw [if_neg ht] at h
          have : (tagR ((60 :: t : Bs).takeWhile not62 ++ [62])).2 = 0 := congrArg Prod.snd h
          exact absurd this ht
    · rw [if_neg hc] at h
      have hp0 : p = false := by
        cases p with
        | false => rfl
        | true =>
          rcases hp rfl with h | ⟨r, h⟩
          · cases h
          · cases h; exact absurd rfl hc
      subst hp0
      by_cases ha : accB ((c :: t).takeWhile not60) = true
      · rw [if_pos ha] at h
        obtain ⟨M, rfl, hM⟩ := cons_zero h
        have hsp := List.takeWhile_append_dropWhile (p := not60) (l := c :: t)
        have hne : (c :: t).takeWhile not60 ≠ [] := by
          rw [List.takeWhile_cons, if_pos (by unfold not60; simpa using hc)]
          simp
        have hd : (c :: t).dropWhile not60 = [] ∨ ∃ r, (c :: t).dropWhile not60 = 60 :: r := by
          generalize hD : (c :: t).dropWhile not60 = D
          cases D with
          | nil => exact .inl rfl
          | cons d r =>
            have := dw_head _ hD
            unfold not60 at this
            have : d = 60 := by simpa using this
            subst this
            exact .inr ⟨r, rfl⟩
        generalize hA : (c :: t).takeWhile not60 = A at *
        generalize hD : (c :: t).dropWhile not60 = D at *
        have hAl := List.length_pos_iff.2 hne
        have hrl : D.length ≤ f := by
          have := congrArg List.length hsp
          rw [List.length_append] at this
          omega
        obtain ⟨hv, hpr⟩ := scan_val f _ D M true hrl hM (fun _ => hd)
        refine ⟨?_, ?_⟩
        · rw [valB, form_one rfl]
          rw [show okX false ⟨1, [], A, (o : Int)⟩ = true from by unfold okX; rw [if_pos rfl]; simp [hne, ha]]
          simp only [decide_true, Bool.true_and]
          exact hv
        · rw [prn_cons, hpr, form_one rfl, ← hsp]
      · rw [if_neg ha] at h
        cases h
theorem scan_iff {l : Bs} {L : List Lx} : scanR l = (L, 0) ↔ l.length ≤ 65536 ∧ valB false 0 L = true ∧ prn L = l := by
  unfold scanR
  by_cases h : 65536 < l.length
  · rw [if_pos h]
    constructor
    · intro e; cases e
    · intro e; omega
  · rw [if_neg h]
    constructor
    · intro e
      obtain ⟨h1, h2⟩ := scan_val _ _ _ _ false (Nat.le_refl _) e (fun e => by cases e)
      exact ⟨by omega, h1, h2⟩
    · rintro ⟨_, h1, h2⟩
      have := scan_prn L false 0 l.length h1 (by rw [h2]; exact Nat.le_refl _)
      rwa [h2] at this
/-- with an error there are no lexemes -/
theorem scanF_err : ∀ (f o : Nat) (l : Bs), (scanF f o l).2 ≠ 0 → (scanF f o l).1 = []
  | 0, _, _, h => absurd rfl h
  | _ + 1, _, [], h => absurd rfl h
  | f + 1, o, c :: t, h => by
    rw [scanF] at h ⊢
    have hc : ∀ x (r : List Lx × Int), (consR x r).2 ≠ 0 → (consR x r).1 = [] := fun x r h => by
      unfold consR at h ⊢
      split
      · rename_i h0
        rw [if_pos h0] at h
        exact absurd rfl h
      · rfl
    split
    · split
      · rfl
      · split
        · rename_i h1 h2 h3
          rw [if_pos h1, if_neg h2, if_pos h3] at h
          exact hc _ _ h
        · rfl
    · split
      · rename_i h1 h2
        rw [if_neg h1, if_pos h2] at h
        exact hc _ _ h
      · rfl
theorem scan_err (l : Bs) (h : (scanR l).2 ≠ 0) : (scanR l).1 = [] := by
  unfold scanR at h ⊢
  split
  · rfl
  · rename_i h1
    rw [if_neg h1] at h
    exact scanF_err _ _ _ h
end Go.Proofs.YtdgihkgomfpmoaaGreatDoor
