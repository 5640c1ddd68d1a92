/- How a string is read: numbers, the stack of open lists; an encoding is read back, and what is read is an encoding. -/
import Derived.Test.YtjcigjggfmfoeaaDoorCoMath
namespace Go.Proofs.YtjcigjggfmfoeaaDoor
set_option linter.unusedSimpArgs false
set_option linter.unusedVariables false

/-- an int -/
def I64 (n : Int) : Prop := -9223372036854775808 ≤ n ∧ n ≤ 9223372036854775807
theorem digit_byte {d : Nat} (h : d < 10) : (UInt8.ofNat (48 + d)).toNat = 48 + d := by
  rw [UInt8.toNat_ofNat']; omega
theorem parse_snoc (l : List UInt8) (c : UInt8) : ∀ acc, Lib.parseUint10 acc (l ++ [c]) = match Lib.parseUint10 acc l with | .ok a => Lib.parseUint10 a [c] | .syntax => .syntax | .range => .range := by
  induction l with
  | nil => intro acc; rfl
  | cons x l ih =>
    intro acc
    rw [List.cons_append, Lib.parseUint10, Lib.parseUint10]
    split
    · split
      · rfl
      · split
        · rfl
        · exact ih _
    · rfl
theorem dec_step {u : Nat} (h : ¬ u < 10) : Lib.decDigits u = Lib.decDigits (u / 10) ++ [UInt8.ofNat (48 + u % 10)] := by
  rw [Lib.decDigits, dif_neg h]
theorem parse_dec : ∀ u : Nat, u < 18446744073709551616 → Lib.parseUint10 0 (Lib.decDigits u) = .ok u := fun u => by
  induction u using Nat.strongRecOn with
  | _ u ih =>
    intro hu
    by_cases h : u < 10
    · rw [Lib.decDigits_one h, Lib.parseUint10, digit_byte h, if_pos (by omega), if_neg (by omega), if_neg (by omega), Lib.parseUint10]
      congr 1; omega
    · rw [dec_step h, parse_snoc, ih (u / 10) (by omega) (by omega)]
      simp only
      rw [Lib.parseUint10, digit_byte (by omega), if_pos (by omega), if_neg (by omega), if_neg (by omega), Lib.parseUint10]
      congr 1; omega
theorem dec_ne (u : Nat) : Lib.decDigits u ≠ [] := by
  intro h
  have := Lib.decDigits_length u
  rw [h] at this
  have := Lib.nDigits_pos u
  simp at *
  omega
theorem dec_head (u : Nat) : ∃ c r, Lib.decDigits u = c :: r ∧ 48 ≤ c.toNat ∧ c.toNat ≤ 57 := by
  induction u using Nat.strongRecOn with
  | _ u ih =>
    by_cases h : u < 10
    · exact ⟨_, [], Lib.decDigits_one h, by rw [digit_byte h]; omega, by rw [digit_byte h]; omega⟩
    · obtain ⟨c, r, e, h1, h2⟩ := ih (u / 10) (by omega)
      exact ⟨c, r ++ [UInt8.ofNat (48 + u % 10)], by rw [dec_step h, e]; rfl, h1, h2⟩
theorem dec_all (u : Nat) : ∀ c ∈ Lib.decDigits u, 48 ≤ c.toNat ∧ c.toNat ≤ 57 := by
  induction u using Nat.strongRecOn with
  | _ u ih =>
    intro c hc
    by_cases h : u < 10
    · rw [Lib.decDigits_one h, List.mem_singleton] at hc
      subst hc; rw [digit_byte h]; omega
    · rw [dec_step h] at hc
      rcases List.mem_append.1 hc with hc | hc
      · exact ih (u / 10) (by omega) c hc
      · rw [List.mem_singleton] at hc
        subst hc; rw [digit_byte (by omega)]; omega
theorem mag_dec {u : Nat} (hu : u < 18446744073709551616) : Lib.parseMag (Lib.decDigits u) = .ok u := by
  unfold Lib.parseMag
  rw [if_neg (dec_ne u), parse_dec u hu]
theorem atoi_itoa {n : Int} (h : I64 n) : Lib.atoiAll (Lib.itoa n) = .ok n := by
  obtain ⟨h0, h1⟩ := h
  unfold Lib.itoa
  by_cases hn : n < 0
  · rw [if_pos hn, Lib.atoiAll_minus, mag_dec (by omega), Lib.signed, if_neg (by omega)]
    congr 1; omega
  · obtain ⟨c, r, e, g1, g2⟩ := dec_head n.toNat
    have hm := mag_dec (u := n.toNat) (by omega)
    rw [if_neg hn]
    rw [e] at hm ⊢
    rw [Lib.atoiAll_plain c r (by omega) (by omega), hm, Lib.signless, if_neg (by omega)]
    congr 1; omega
theorem itoa_all (n : Int) : ∀ c ∈ Lib.itoa n, c.toNat = 45 ∨ (48 ≤ c.toNat ∧ c.toNat ≤ 57) := by
  intro c hc
  unfold Lib.itoa at hc
  split at hc
  · rcases List.mem_cons.1 hc with rfl | hc
    · exact .inl rfl
    · exact .inr (dec_all _ c hc)
  · exact .inr (dec_all _ c hc)
theorem itoa_inj {n m : Int} (h : I64 n) (h' : I64 m) (e : Lib.itoa n = Lib.itoa m) : n = m := by
  have h1 := atoi_itoa h
  rw [e, atoi_itoa h'] at h1
  injection h1 with h1
  exact h1.symm

/-- what stands before the first e, and what stands behind it -/
def cutAt (e : UInt8) : List UInt8 → Option (List UInt8 × List UInt8)
  | [] => none
  | c :: l => if c = e then some ([], l) else match cutAt e l with | some (d, r) => some (c :: d, r) | none => none
theorem cutAt_some {e : UInt8} : ∀ {l d r : List UInt8}, cutAt e l = some (d, r) → l = d ++ e :: r ∧ e ∉ d
  | [], d, r, h => by cases h
  | c :: l, d, r, h => by
    rw [cutAt] at h
    by_cases hc : c = e
    · rw [if_pos hc] at h; cases h; exact ⟨by rw [hc]; rfl, by simp⟩
    · rw [if_neg hc] at h
      cases hl : cutAt e l with
      | none => rw [hl] at h; cases h
      | some p =>
        obtain ⟨d', r'⟩ := p
        rw [hl] at h; cases h
        obtain ⟨h1, h2⟩ := cutAt_some hl
        exact ⟨by rw [h1]; rfl, by simp [h2]; exact fun h => hc h.symm⟩
theorem cutAt_app {e : UInt8} : ∀ {d : List UInt8} (r : List UInt8), e ∉ d → cutAt e (d ++ e :: r) = some (d, r)
  | [], r, _ => by rw [List.nil_append, cutAt, if_pos rfl]
  | c :: d, r, h => by
    rw [List.cons_append, cutAt, if_neg (fun hc => h (by rw [hc]; exact List.mem_cons_self ..)), cutAt_app r (fun hm => h (List.mem_cons_of_mem _ hm))]
/-- a decimal number, up to the byte e -/
def num (e : UInt8) (s : List UInt8) : Option (Int × List UInt8) :=
  match cutAt e s with
  | none => none
  | some (d, r) => match Lib.atoiAll d with
    | .ok n => if Lib.itoa n = d then some (n, r) else none
    | _ => none
theorem num_some {e : UInt8} {s r : List UInt8} {n : Int} (h : num e s = some (n, r)) : s = Lib.itoa n ++ e :: r ∧ I64 n := by
  unfold num at h
  cases hc : cutAt e s with
  | none => rw [hc] at h; cases h
  | some p =>
    obtain ⟨d, r'⟩ := p
    rw [hc] at h
    simp only at h
    cases ha : Lib.atoiAll d with
    | ok m =>
      rw [ha] at h
      simp only at h
      by_cases hi : Lib.itoa m = d
      · rw [if_pos hi] at h
        cases h
        rw [hi]
        exact ⟨(cutAt_some hc).1, Lib.atoiAll_bounds ha⟩
      · rw [if_neg hi] at h; cases h
    | «syntax» => rw [ha] at h; cases h
    | range => rw [ha] at h; cases h
theorem num_app {e : UInt8} (he : 58 ≤ e.toNat) {n : Int} (h : I64 n) (r : List UInt8) : num e (Lib.itoa n ++ e :: r) = some (n, r) := by
  have hm : e ∉ Lib.itoa n := fun hm => by have := itoa_all n e hm; omega
  unfold num
  rw [cutAt_app r hm]
  simp only
  rw [atoi_itoa h]
  exact if_pos rfl

abbrev mkI (n : Int) : Val := .mk 1 n ByteArray.empty []
abbrev mkT (t : ByteArray) : Val := .mk 2 0 t []
abbrev mkL (l : List Val) : Val := .mk 3 0 ByteArray.empty l
/-- an integer or a string -/
def one (s : List UInt8) : Option (Val × List UInt8) :=
  match s with
  | [] => none
  | c :: r =>
    if c = 105 then match num 59 r with | some (n, r') => some (mkI n, r') | none => none
    else if c = 115 then match num 58 r with | some (n, r') => if 0 ≤ n ∧ n ≤ r'.length then some (mkT ⟨(r'.take n.toNat).toArray⟩, r'.drop n.toNat) else none | none => none
    else none
theorem one_lt {s r : List UInt8} {v : Val} (h : one s = some (v, r)) : r.length < s.length := by
  cases s with
  | nil => cases h
  | cons c t =>
    rw [one] at h
    by_cases h1 : c = 105
    · rw [if_pos h1] at h
      cases hn : num 59 t with
      | none => rw [hn] at h; cases h
      | some p =>
        obtain ⟨n, r'⟩ := p
        rw [hn] at h; cases h
        rw [(num_some hn).1]; simp; omega
    · rw [if_neg h1] at h
      by_cases h2 : c = 115
      · rw [if_pos h2] at h
        cases hn : num 58 t with
        | none => rw [hn] at h; cases h
        | some p =>
          obtain ⟨n, r'⟩ := p
          rw [hn] at h
          simp only at h
          by_cases h3 : 0 ≤ n ∧ n ≤ r'.length
          · rw [if_pos h3] at h; cases h
            rw [(num_some hn).1]; simp; omega
          · rw [if_neg h3] at h; cases h
      · rw [if_neg h2] at h; cases h
theorem one_enc {s r : List UInt8} {v : Val} (h : one s = some (v, r)) : s = enc v ++ r ∧ tot v = 1 := by
  cases s with
  | nil => cases h
  | cons c t =>
    rw [one] at h
    by_cases h1 : c = 105
    · rw [if_pos h1] at h
      cases hn : num 59 t with
      | none => rw [hn] at h; cases h
      | some p =>
        obtain ⟨n, r'⟩ := p
        rw [hn] at h; cases h
        refine ⟨?_, by rw [tot, tots]⟩
        rw [enc, if_pos rfl, h1, (num_some hn).1]; simp
    · rw [if_neg h1] at h
      by_cases h2 : c = 115
      · rw [if_pos h2] at h
        cases hn : num 58 t with
        | none => rw [hn] at h; cases h
        | some p =>
          obtain ⟨n, r'⟩ := p
          rw [hn] at h
          simp only at h
          by_cases h3 : 0 ≤ n ∧ n ≤ r'.length
          · rw [if_pos h3] at h; cases h
            refine ⟨?_, by rw [tot, tots]⟩
            have hsz : ((⟨(r'.take n.toNat).toArray⟩ : ByteArray).size : Int) = n := by
              show (((r'.take n.toNat).toArray.size : Nat) : Int) = n
              simp; omega
            rw [enc, if_neg (by decide), if_pos rfl, h2, (num_some hn).1, hsz]
            simp
          · rw [if_neg h3] at h; cases h
      · rw [if_neg h2] at h; cases h
/-- reads what is left, the items so far of the open lists given, the innermost first -/
def rd (st : List (List Val)) (s : List UInt8) : Option Val :=
  match s with
  | [] => none
  | c :: r =>
    if c = 108 then rd ([] :: st) r
    else if c = 101 then
      match st with
      | [] => none
      | [top] => if r = [] then some (mkL top) else none
      | top :: b :: st' => rd ((b ++ [mkL top]) :: st') r
    else match h : one (c :: r) with
      | none => none
      | some (v, r') => match st with
        | [] => if r' = [] then some v else none
        | b :: st' => rd ((b ++ [v]) :: st') r'
termination_by s.length
decreasing_by
  · simp
  · simp
  · have := one_lt h; simpa using this
/-- what a value does that has just been read -/
def push (v : Val) (st : List (List Val)) (r : List UInt8) : Option Val :=
  match st with
  | [] => if r = [] then some v else none
  | b :: st' => rd ((b ++ [v]) :: st') r
theorem push_nil (v : Val) (r : List UInt8) : push v [] r = if r = [] then some v else none := rfl
theorem push_cons (v : Val) (b : List Val) (st : List (List Val)) (r : List UInt8) : push v (b :: st) r = rd ((b ++ [v]) :: st) r := rfl
theorem rd_nil (st : List (List Val)) : rd st [] = none := by rw [rd.eq_def]
theorem rd_list (st : List (List Val)) (r : List UInt8) : rd st (108 :: r) = rd ([] :: st) r := by rw [rd.eq_def]; exact if_pos rfl
theorem rd_end (st : List (List Val)) (r : List UInt8) : rd st (101 :: r) = match st with | [] => none | top :: st' => push (mkL top) st' r := by
  rw [rd.eq_def]
  refine (if_neg (by decide)).trans ((if_pos rfl).trans ?_)
  cases st with
  | nil => rfl
  | cons top st' =>
    cases st' with
    | nil => rfl
    | cons b st'' => rfl
theorem rd_cons_end (top : List Val) (st : List (List Val)) (r : List UInt8) : rd (top :: st) (101 :: r) = push (mkL top) st r := rd_end _ _
theorem rd_one (st : List (List Val)) (c : UInt8) (r : List UInt8) (h1 : c ≠ 108) (h2 : c ≠ 101) : rd st (c :: r) = match one (c :: r) with | none => none | some (v, r') => push v st r' := by
  rw [rd.eq_def]
  refine (if_neg h1).trans ((if_neg h2).trans ?_)
  split
  · rename_i h; rw [h]
  · rename_i v r' h; rw [h]; cases st <;> rfl

mutual
def fit : Val → Prop
  | .mk k n t l => I64 n ∧ single k n t l.length = 0 ∧ fits l
def fits : List Val → Prop
  | [] => True
  | x :: l => fit x ∧ fits l
end
theorem fits_mem {l : List Val} : fits l ↔ ∀ x ∈ l, fit x := by
  induction l with
  | nil => simp [fits]
  | cons x l ih => rw [fits, ih]; simp
mutual
def rng : Val → Prop
  | .mk _ n _ l => I64 n ∧ rngs l
def rngs : List Val → Prop
  | [] => True
  | x :: l => rng x ∧ rngs l
end
theorem fit_all : (∀ v, allV v = 0 → rng v → fit v) ∧ ∀ l, allsV l = 0 → rngs l → fits l :=
  Val.both (fun k n t l h h0 h1 => by
    rw [allV] at h0
    rw [rng] at h1
    rw [fit]
    by_cases hs : single k n t l.length = 0
    · rw [if_pos hs] at h0; exact ⟨h1.1, hs, h h0 h1.2⟩
    · rw [if_neg hs] at h0; exact absurd h0 hs) (fun _ _ => by rw [fits]; trivial) (fun x l h h' h0 h1 => by
    rw [allsV] at h0
    rw [rngs] at h1
    rw [fits]
    by_cases hx : allV x = 0
    · rw [if_pos hx] at h0; exact ⟨h hx h1.1, h' h0 h1.2⟩
    · rw [if_neg hx] at h0; exact absurd h0 hx)
theorem all_fit : (∀ v, fit v → allV v = 0) ∧ ∀ l, fits l → allsV l = 0 :=
  Val.both (fun k n t l h h0 => by
    rw [fit] at h0
    rw [allV, if_pos h0.2.1]; exact h h0.2.2) (fun _ => by rw [allsV]) (fun x l h h' h0 => by
    rw [fits] at h0
    rw [allsV, if_pos (h h0.1)]; exact h' h0.2)
theorem empty_of {t : ByteArray} (h : t.size = 0) : t = ByteArray.empty := by
  refine ba_of ?_
  have : t.data.toList.length = 0 := by rw [Array.length_toList]; exact h
  rw [List.length_eq_zero_iff.1 this]; rfl
/-- an encoding is read back -/
theorem rd_enc : (∀ v, fit v → ∀ st r, rd st (enc v ++ r) = push v st r) ∧ ∀ l, fits l → ∀ top st r, rd (top :: st) (encs l ++ 101 :: r) = push (mkL (top ++ l)) st r :=
  Val.both (fun k n t l h h0 st r => by
    rw [fit] at h0
    obtain ⟨hi, hs, hf⟩ := h0
    rcases (single_zero hs).1 with ⟨rfl, ht, hl⟩ | ⟨rfl, rfl, hl⟩ | ⟨rfl, rfl, ht⟩
    · obtain rfl := empty_of ht
      obtain rfl := List.eq_nil_of_length_eq_zero hl
      rw [enc, if_pos rfl, List.cons_append, rd_one _ _ _ (by decide) (by decide), one, if_pos rfl, List.append_assoc]
      rw [show [(59 : UInt8)] ++ r = 59 :: r from rfl, num_app (by decide) hi]
    · obtain rfl := List.eq_nil_of_length_eq_zero hl
      have hts := (single_zero hs).2.1
      rw [enc, if_neg (by decide), if_pos rfl, List.cons_append, rd_one _ _ _ (by decide) (by decide), one, if_neg (by decide), if_pos rfl, List.append_assoc]
      rw [List.cons_append, num_app (by decide) (show I64 (t.size : Int) from ⟨by omega, by omega⟩)]
      have hlen : t.data.toList.length = t.size := Array.length_toList
      simp only
      rw [if_pos ⟨by omega, by rw [List.length_append]; omega⟩]
      simp only
      rw [show ((t.size : Int)).toNat = t.data.toList.length by omega, List.take_left, List.drop_left]
    · obtain rfl := empty_of ht
      rw [enc, if_neg (by decide), if_neg (by decide), List.cons_append, rd_list, List.append_assoc]
      rw [show [(101 : UInt8)] ++ r = 101 :: r from rfl, h hf]
      rfl) (fun _ top st r => by
    rw [encs, List.nil_append, rd_end, List.append_nil]) (fun x l h h' h0 top st r => by
    rw [fits] at h0
    rw [encs, List.append_assoc, h h0.1, push, h' h0.2, List.append_assoc]
    rfl)
/-- what the open lists have been read from -/
def encSt : List (List Val) → List UInt8
  | [] => []
  | top :: st => encSt st ++ 108 :: encs top
theorem encSt_push (v : Val) (b : List Val) (st : List (List Val)) : encSt ((b ++ [v]) :: st) = encSt (b :: st) ++ enc v := by
  rw [encSt, encSt, encs_append, encs, encs, List.append_nil]; simp
def fitsSt (st : List (List Val)) : Prop := ∀ l ∈ st, fits l
/-- what is read is an encoding -/
theorem rd_back : ∀ (n : Nat) (s : List UInt8) (st : List (List Val)) (v : Val), s.length ≤ n → rd st s = some v → enc v = encSt st ++ s ∧ tot v ≤ tots (st.map mkL) + s.length
  | n, [], st, v, _, h => by rw [rd_nil] at h; cases h
  | 0, _ :: _, _, _, hn, _ => by simp at hn
  | n + 1, c :: r, st, v, hn, h => by
    by_cases h1 : c = 108
    · subst h1
      rw [rd_list] at h
      obtain ⟨h3, h4⟩ := rd_back n r ([] :: st) v (by simpa using hn) h
      refine ⟨by rw [h3, encSt, encs]; simp, ?_⟩
      simp [tots, tot] at h4 ⊢; omega
    · by_cases h2 : c = 101
      · subst h2
        cases st with
        | nil => rw [rd_end] at h; cases h
        | cons top st' =>
          rw [rd_cons_end] at h
          cases st' with
          | nil =>
            rw [push_nil] at h
            by_cases hr : r = []
            · rw [if_pos hr] at h; cases h; subst hr
              refine ⟨by rw [enc, if_neg (by decide), if_neg (by decide), encSt, encSt]; simp, ?_⟩
              simp [tots]
            · rw [if_neg hr] at h; cases h
          | cons b st'' =>
            rw [push_cons] at h
            obtain ⟨h3, h4⟩ := rd_back n r ((b ++ [mkL top]) :: st'') v (by simpa using hn) h
            refine ⟨?_, ?_⟩
            · rw [h3, encSt_push, enc, if_neg (by decide), if_neg (by decide)]
              rw [show encSt (top :: b :: st'') = encSt (b :: st'') ++ 108 :: encs top from rfl]; simp
            · simp [tots, tot, tots_append] at h4 ⊢; omega
      · rw [rd_one _ _ _ h1 h2] at h
        cases ho : one (c :: r) with
        | none => rw [ho] at h; cases h
        | some p =>
          obtain ⟨x, r'⟩ := p
          rw [ho] at h
          simp only at h
          have hlt := one_lt ho
          have hx : c :: r = enc x ++ r' ∧ tot x = 1 := one_enc ho
          cases st with
          | nil =>
            rw [push_nil] at h
            by_cases hr : r' = []
            · rw [if_pos hr] at h; cases h; subst hr
              refine ⟨by rw [encSt, hx.1]; simp, ?_⟩
              simp [hx.2, tots]
            · rw [if_neg hr] at h; cases h
          | cons b st' =>
            rw [push_cons] at h
            obtain ⟨h3, h4⟩ := rd_back n r' ((b ++ [x]) :: st') v (by simp at hn hlt ⊢; omega) h
            refine ⟨by rw [h3, encSt_push, hx.1]; simp, ?_⟩
            simp [tots, tot, tots_append] at h4 hlt ⊢
            omega

theorem tots_le_enc {v : Val} (h : fit v) : tot v ≤ (enc v).length := by
  have := rd_enc.1 v h [] []
  rw [List.append_nil, push_nil, if_pos rfl] at this
  have := (rd_back _ _ _ _ (Nat.le_refl _) this).2
  simpa [tots] using this
theorem rd_of_enc {v : Val} (h : fit v) : rd [] (enc v) = some v := by
  have := rd_enc.1 v h [] []
  rwa [List.append_nil, push_nil, if_pos rfl] at this
theorem enc_of_rd {s : List UInt8} {v : Val} (h : rd [] s = some v) : enc v = s ∧ tot v ≤ s.length := by
  have := rd_back _ _ _ _ (Nat.le_refl _) h
  simpa [encSt, tots] using this
theorem enc_inj {a b : Val} (ha : fit a) (hb : fit b) (h : enc a = enc b) : a = b := by
  have h1 := rd_of_enc ha
  rw [h, rd_of_enc hb] at h1
  exact (Option.some.inj h1).symm
theorem rd_two {a : Val} (ha : fit a) {s : List UInt8} (hs : s ≠ []) : rd [] (enc a ++ s) = none := by
  rw [rd_enc.1 a ha, push_nil, if_neg hs]
theorem enc_prefix {a b : Val} (ha : fit a) (hb : fit b) (h : enc a <+: enc b) : a = b := by
  obtain ⟨s, hs⟩ := h
  by_cases h0 : s = []
  · subst h0; rw [List.append_nil] at hs; exact enc_inj ha hb hs
  · have h1 := rd_two ha h0
    rw [hs, rd_of_enc hb] at h1
    cases h1
end Go.Proofs.YtjcigjggfmfoeaaDoor
