/- What the laws need of values and encodings. -/
import Derived.Test.YtjcigjggfmfoeaaDoorCoFine
import Derived.Test.YtjcigjggfmfoeaaDoorCoDecP
import Derived.Test.YtjcigjggfmfoeaaDoorCoSame
namespace Go.Proofs.YtjcigjggfmfoeaaDoor
set_option linter.unusedSimpArgs false
set_option linter.unusedVariables false
set_option maxRecDepth 100000
open Go.RowKit Go.Deep

theorem vat_rng {W : World} {P : Nat → Prop} : (∀ x v, VAt W P v x → rng x) ∧ ∀ l b off, ItsAt W P b off l → rngs l :=
  Val.both (fun k n t l h v hv => by
    rw [VAt] at hv
    obtain ⟨h1, h2, _, _, a, c, _, hi⟩ := hv
    rw [rng]
    refine ⟨⟨h1, h2⟩, ?_⟩
    by_cases h0 : 0 < l.length
    · obtain ⟨b, off, _, _, _, hi⟩ := hi h0
      exact h b off hi
    · rw [List.eq_nil_of_length_eq_zero (by omega : l.length = 0), rngs]; trivial) (fun b off _ => by rw [rngs]; trivial) (fun x l h h' b off hi => by
    rw [ItsAt] at hi
    obtain ⟨⟨s, _, _, _, _, hx⟩, hl⟩ := hi
    rw [rngs]
    exact ⟨h _ hx, h' b _ hl⟩)
theorem enc_len : (∀ x, rng x → maxT x ≤ 40 → (enc x).length ≤ 64 * tot x) ∧ ∀ l, rngs l → maxTs l ≤ 40 → (encs l).length ≤ 64 * tots l :=
  Val.both (fun k n t l h hr hm => by
    rw [rng] at hr
    rw [maxT] at hm
    have h1 := Lib.itoa_length_le n hr.1.1 hr.1.2
    have h2 := Lib.itoa_length_le t.size (by omega) (by omega)
    have h3 := h hr.2 (by omega)
    have h4 : t.data.toList.length = t.size := size_list t
    rw [enc, tot]
    split
    · simp only [List.length_cons, List.length_append, List.length_nil]; omega
    · split
      · simp only [List.length_cons, List.length_append, h4]; omega
      · simp only [List.length_cons, List.length_append, List.length_nil]; omega) (fun _ _ => by simp [encs]) (fun x l h h' hr hm => by
    rw [rngs] at hr
    rw [maxTs] at hm
    have h1 := h hr.1 (by omega)
    have h2 := h' hr.2 (by omega)
    rw [encs, tots, List.length_append]; omega)
theorem chk_zero {x : Val} (h : chk x = 0) : dep x ≤ 64 ∧ allV x = 0 := by
  unfold chk at h
  by_cases hd : dep x ≤ 64
  · rw [if_pos hd] at h; exact ⟨hd, h⟩
  · rw [if_neg hd] at h; cases h
theorem fit_of {W : World} {P : Nat → Prop} {x : Val} {v : Value} (hv : VAt W P v x) (h : chk x = 0) : fit x := fit_all.1 x (chk_zero h).2 (vat_rng.1 x v hv)
/-- what fine lets through -/
theorem fine_small {x : Val} (h : FineV x) : tot x ≤ 60 ∧ maxT x ≤ 40 := by
  obtain ⟨⟨h1, h2⟩, h3⟩ := h
  refine ⟨?_, h1⟩
  rcases h2 with h2 | ⟨h2, _⟩
  · exact h2
  · have h4 := (chk_zero h3).2
    obtain ⟨k, n, t, l⟩ := x
    rw [allV] at h4
    by_cases hs : single k n t l.length = 0
    · have := (single_zero hs).2.2
      have h2' : 4096 < l.length := h2
      omega
    · rw [if_neg hs] at h4; exact absurd h4 hs
theorem fine_len {W : World} {P : Nat → Prop} {x : Val} {v : Value} (hv : VAt W P v x) (h : FineV x) : (enc x).length ≤ 3840 := by
  have h1 := fine_small h
  have := enc_len.1 x (vat_rng.1 x v hv) h1.2
  omega
theorem ba_toList {a b : ByteArray} (h : (a.toList == b.toList) = true) : a = b := by
  rw [beq_iff_eq, ByteArray.toList_eq, ByteArray.toList_eq] at h
  exact ba_of h
theorem same_eq : (∀ x y, sameB x y = true → x = y) ∧ ∀ l l', samesB l l' = true → l = l' :=
  Val.both (fun k n t l h y hy => by
    obtain ⟨k', n', t', l'⟩ := y
    rw [sameB, Bool.and_eq_true, Bool.and_eq_true, Bool.and_eq_true] at hy
    obtain ⟨h1, h2, h3, h4⟩ := hy
    rw [beq_iff_eq.1 h1, beq_iff_eq.1 h2, ba_toList h3, h l' h4]) (fun l' h => by
    cases l' with
    | nil => rfl
    | cons y l' => rw [samesB] at h; cases h) (fun x l h h' l' hl => by
    cases l' with
    | nil => rw [samesB] at hl; cases hl
    | cons y l' =>
      rw [samesB, Bool.and_eq_true] at hl
      rw [h y hl.1, h' l' hl.2])
theorem same_refl : (∀ x, sameB x x = true) ∧ ∀ l, samesB l l = true :=
  Val.both (fun k n t l h => by rw [sameB, h]; simp) (by rw [samesB]) (fun x l h h' => by rw [samesB, h, h']; rfl)
theorem same_enc {x y : Val} (hx : fit x) (hy : fit y) : sameB x y = (enc x == enc y) := by
  by_cases h : enc x = enc y
  · have := enc_inj hx hy h
    subst this
    rw [same_refl.1]; simp
  · cases hs : sameB x y with
    | true => exact absurd (by rw [same_eq.1 x y hs]) h
    | false => symm; simpa using h
theorem dec_enc {x : Val} (hf : fit x) (hc : chk x = 0) (hl : (enc x).length ≤ 1048576) : dec (enc x) = (x, 0) := by
  rw [dec, if_neg (by omega), rd_of_enc hf]
  simp only []
  rw [if_pos hc]
theorem same_at (x y : Val) (v v' : Value) (P P' : Nat → Prop) (w : World) (h : VAt w P v x) (h' : VAt w P' v' y) (b : Bool) (hb : sameB x y = b) :
    Calls Tryd.prog 18 #[v, v'] w fun e w' => e = .returned (.bool b) ∧ Below w.heap.size w w' := by subst hb; exact same_any x y v v' P P' w h h'
theorem refSame_at (x y : Val) (v v' : Value) (P P' : Nat → Prop) (w : World) (h : VAt w P v x) (h' : VAt w P' v' y) (b : Bool) (hb : sameB x y = b) :
    Calls Tryd.prog 19 #[v, v'] w fun e w' => e = .returned (.bool b) ∧ Below w.heap.size w w' := by subst hb; exact refSame_any x y v v' P P' w h h'
theorem dec_cases {s : List UInt8} {x : Val} {r : Int} (hs : s.length ≤ 1048576) (h : dec s = (x, r)) : (r = 0 ∧ enc x = s ∧ tot x ≤ s.length ∧ chk x = 0) ∨ ((r = 3 ∨ r = 4) ∧ x = mkZ) := by
  rw [dec, if_neg (by omega)] at h
  cases hr : rd [] s with
  | none => rw [hr] at h; cases h; exact .inr ⟨.inl rfl, rfl⟩
  | some y =>
    rw [hr] at h
    simp only [] at h
    by_cases hc : chk y = 0
    · rw [if_pos hc] at h; cases h
      exact .inl ⟨rfl, (enc_of_rd hr).1, (enc_of_rd hr).2, hc⟩
    · rw [if_neg hc] at h; cases h; exact .inr ⟨.inr rfl, rfl⟩
/-- the chapter's example -/
def x0 : Val := mkL [mkI 7, mkT ⟨#[97, 98, 99]⟩, mkL []]
def s0 : ByteArray := ⟨#[108, 105, 55, 59, 115, 51, 58, 97, 98, 99, 108, 101, 101]⟩
theorem itoa7 : Lib.itoa 7 = [55] := (Lib.itoa_nonneg 7).trans (Lib.decDigits_one (by decide))
theorem itoa3 : Lib.itoa 3 = [51] := (Lib.itoa_nonneg 3).trans (Lib.decDigits_one (by decide))
theorem enc_x0 : enc x0 = s0.data.toList := by
  have h3 : Lib.itoa (((⟨#[97, 98, 99]⟩ : ByteArray).size : Nat) : Int) = [51] := itoa3
  show 108 :: (encs [mkI 7, mkT ⟨#[97, 98, 99]⟩, mkL []] ++ [101]) = _
  rw [encs, encs, encs, encs]
  show 108 :: ((105 :: (Lib.itoa 7 ++ [59]) ++ ((115 :: (Lib.itoa (((⟨#[97, 98, 99]⟩ : ByteArray).size : Nat) : Int) ++ 58 :: [97, 98, 99])) ++ ((108 :: (encs [] ++ [101])) ++ []))) ++ [101]) = _
  rw [itoa7, h3, encs]
  rfl
theorem chk_x0 : chk x0 = 0 := by decide
theorem cnt_x0 : cnt x0 = 4 := by decide
theorem tot_x0 : tot x0 = 4 := by decide
theorem fit_x0 : fit x0 := by
  refine fit_all.1 x0 (by decide) ?_
  simp [x0, mkL, mkI, mkT, rng, rngs, I64]
theorem dec_s0 : dec s0.data.toList = (x0, 0) := by
  rw [← enc_x0]
  exact dec_enc fit_x0 chk_x0 (by rw [enc_x0]; decide)
theorem dec_bad : dec [105, 48, 55, 59] = (mkZ, 3) := by
  have h : rd [] [105, 48, 55, 59] = none := by
    rw [rd_one _ _ _ (by decide) (by decide)]
    have h1 : one [105, 48, 55, 59] = none := by
      rw [one, if_pos rfl]
      have h2 : num 59 [48, 55, 59] = none := by
        have hc : cutAt 59 [48, 55, 59] = some ([48, 55], []) := by decide
        have ha : Lib.atoiAll [48, 55] = .ok 7 := by rfl
        unfold num
        rw [hc]
        simp only []
        rw [ha]
        simp only []
        rw [if_neg (by rw [itoa7]; decide)]
      rw [h2]
    rw [h1]
  rw [dec, if_neg (by decide), h]
end Go.Proofs.YtjcigjggfmfoeaaDoor
